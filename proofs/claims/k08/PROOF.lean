import PyProof.Rows.All
import Wide.All
import OpenK.AllK
import Wide.FinOn
import Lean
import PyProof.EqAt
import PyProof.EqKinds
import PyProof.TupleCall
import PySem.Challenge.RW_whyfacts_k08_matching
set_option Elab.async false
set_option linter.all false
set_option maxRecDepth 100000
namespace L2
open PySem PySem.Spec PyProof.Rows
abbrev Key := Sum Int Str
def keyIs : Key → Value → Bool
 | .inl k, v => Value.isInt k v
 | .inr x, v => Value.isStrOf x v
def keyH (w : World) : Key → Int
 | .inl k => hashInt k
 | .inr x => hashStr w x
theorem keyIs_shape : ∀ {k : Key} {v : Value}, keyIs k v = true → (∃ i t, k = Sum.inl i ∧ v = Value.int i t) ∨ (∃ x t, k = Sum.inr x ∧ v = Value.str x t)
 | .inl i, v, h => by
  obtain ⟨t, e⟩ := Value.isInt_shape (k := i) (v := v) h
  exact .inl ⟨i, t, rfl, e⟩
 | .inr x, v, h => by
  obtain ⟨t, e⟩ := Value.isStrOf_shape (x := x) (v := v) h
  exact .inr ⟨x, t, rfl, e⟩
theorem keyIs_int (i : Int) (t : Tok) : keyIs (.inl i) (.int i t) = true := by simp [keyIs, Value.isInt]
theorem keyIs_str (x : Str) (t : Tok) : keyIs (.inr x) (.str x t) = true := by simp [keyIs, Value.isStrOf]
theorem key_ll (a b : Int) : decide ((Sum.inl a : Key) = Sum.inl b) = (a == b) := by
 by_cases e : a = b
 ·subst e; simp
 ·have h : ¬ (Sum.inl a : Key) = Sum.inl b := fun q => e (Sum.inl.inj q)
  rw [decide_eq_false h]
  exact (beq_eq_false_iff_ne.mpr e).symm
theorem key_rr (a b : Str) : decide ((Sum.inr a : Key) = Sum.inr b) = decide (a = b) := by
 by_cases e : a = b
 ·subst e; simp
 ·have h : ¬ (Sum.inr a : Key) = Sum.inr b := fun q => e (Sum.inr.inj q)
  rw [decide_eq_false h, decide_eq_false e]
theorem key_lr (a : Int) (b : Str) : decide ((Sum.inl a : Key) = Sum.inr b) = false := decide_eq_false (fun q => nomatch q)
theorem key_rl (a : Str) (b : Int) : decide ((Sum.inr a : Key) = Sum.inl b) = false := decide_eq_false (fun q => nomatch q)
def mixKind (prog : Program) (w : World) : PySem.KeyKind prog w Key where
 is := keyIs
 hash := keyH w
 inj := fun v a b ha hb => by
  rcases keyIs_shape ha with ⟨i, t, rfl, rfl⟩ | ⟨x, t, rfl, rfl⟩
  ·rcases keyIs_shape hb with ⟨j, u, rfl, e⟩ | ⟨y, u, rfl, e⟩
   ·injection e with e1 _; rw [e1]
   ·exact nomatch e
  ·rcases keyIs_shape hb with ⟨j, u, rfl, e⟩ | ⟨y, u, rfl, e⟩
   ·exact nomatch e
   ·injection e with e1 _; rw [e1]
 byValue := fun k v h => by
  rcases keyIs_shape h with ⟨i, t, rfl, rfl⟩ | ⟨x, t, rfl, rfl⟩ <;> rfl
 pyHash := fun hv h => by
  rcases keyIs_shape hv with ⟨i, t, rfl, rfl⟩ | ⟨x, t, rfl, rfl⟩
  ·exact wpAny_pyHash_int h
  ·exact wpAny_pyHash_str h
 eqBool := fun hu hv h => by
  rcases keyIs_shape hu with ⟨i, t, rfl, rfl⟩ | ⟨x, t, rfl, rfl⟩
  ·rcases keyIs_shape hv with ⟨j, u, rfl, rfl⟩ | ⟨y, u, rfl, rfl⟩
   ·rw [key_ll] at h; exact wpAny_eqBool_int h
   ·rw [key_lr] at h; exact SeqAt.EqAt.int_str i t y u _ _ _ _ h
  ·rcases keyIs_shape hv with ⟨j, u, rfl, rfl⟩ | ⟨y, u, rfl, rfl⟩
   ·rw [key_rl] at h; exact SeqAt.EqAt.str_int x t j u _ _ _ _ h
   ·rw [key_rr] at h; exact wpAny_eqBool_str h
 «strs» := fun k x t v h => by
  rcases keyIs_shape h with ⟨i, u, rfl, e⟩ | ⟨y, u, rfl, e⟩
  ·exact nomatch e
  ·injection e with e1 _
   subst e1
   cases v <;> rfl
theorem mixKind_int (prog : Program) (w : World) (i : Int) (t : Tok) : (mixKind prog w).is (.inl i) (.int i t) = true := keyIs_int i t
theorem mixKind_str (prog : Program) (w : World) (x : Str) (t : Tok) : (mixKind prog w).is (.inr x) (.str x t) = true := keyIs_str x t
end L2
namespace L2
open PySem PySem.Spec PyProof.Rows
inductive V where
 | non | bl (b : Bool) | int (i : Int) | str (x : Str) | byt (b : Array UInt8) | flt (b : UInt64) | ref (a : Addr) | ty (n : String)
 deriving DecidableEq
def RelV : V → Value → Prop
 | .non, u => u = Value.none
 | .bl b, u => u = Value.bool b
 | .int i, u => ∃ t, u = Value.int i t
 | .str x, u => ∃ t, u = Value.str x t
 | .byt b, u => ∃ t, u = Value.bytes b t
 | .flt b, u => ∃ t, u = Value.float b t
 | .ref a, u => u = Value.ref a
 | .ty n, u => u = Value.type n
abbrev Vals : List V → List Value → Prop := Paired RelV
theorem Vals.length {xs : List V} {us : List Value} (r : Vals xs us) : xs.length = us.length := Paired.length r
theorem Vals.get : ∀ {xs : List V} {us : List Value} {i : Nat} {x : V}, Vals xs us → xs[i]? = some x → ∃ u, us[i]? = some u ∧ RelV x u
 | _, _, _, _, .nil, e => by simp at e
 | _, _, 0, _, .cons r _, e => by simp at e; subst e; exact ⟨_, rfl, r⟩
 | _, _, i + 1, x, .cons _ t, e => by
  obtain ⟨u, h1, h2⟩ := Vals.get (i := i) (x := x) t (by simpa using e)
  exact ⟨u, by simpa using h1, h2⟩
theorem Vals.set {x : V} {u : Value} (r : RelV x u) : ∀ {xs : List V} {us : List Value} (i : Nat), Vals xs us → Vals (xs.set i x) (us.set i u)
 | _, _, _, .nil => .nil
 | _, _, 0, .cons _ t => .cons r t
 | _, _, i + 1, .cons q t => .cons q (Vals.set r i t)
theorem Vals.append : ∀ {xs ys : List V} {us ws : List Value}, Vals xs us → Vals ys ws → Vals (xs ++ ys) (us ++ ws)
 | _, _, _, _, .nil, s => s
 | _, _, _, _, .cons r t, s => .cons r (Vals.append t s)
theorem Vals.take : ∀ {xs : List V} {us : List Value} (n : Nat), Vals xs us → Vals (xs.take n) (us.take n)
 | _, _, 0, _ => .nil
 | _, _, _ + 1, .nil => .nil
 | _, _, n + 1, .cons r t => .cons r (Vals.take n t)
theorem Vals.drop : ∀ {xs : List V} {us : List Value} (n : Nat), Vals xs us → Vals (xs.drop n) (us.drop n)
 | _, _, 0, r => r
 | _, _, _ + 1, .nil => .nil
 | _, _, n + 1, .cons _ t => Vals.drop n t
def RelO : Option V → Option Value → Prop
 | some v, some u => RelV v u
 | none, none => True
 | _, _ => False
def KV {κ : Type} : List (κ × V) → List (κ × Value) → Prop := Paired fun (p : κ × V) (q : κ × Value) => p.1 = q.1 ∧ RelV p.2 q.2
def kV : Key → V
 | .inl i => .int i
 | .inr x => .str x
inductive HO where
 | lst (xs : List V)
 | tup (xs : List V)
 | dK (kvs : List (Key × V)) | dT (kvs : List (List Key × V))
 | set (S : Int → Bool) (n : Nat)
 | ins (C dx : Addr) (fs : List (Str × V))
 | own (x : Addr)
 | xd (fs : List (Str × V))
 | met (f x : Addr)
 | rng (lo hi : Int)
 | frz (o : Obj) (u : HO)
 | tbl (ps : Array Value)
 | ext (φ : Heap → Prop)
abbrev Hp := Addr → Option HO
def upd (H : Hp) (a : Addr) (o : HO) : Hp := fun b => if b = a then some o else H b
theorem upd_same {H : Hp} {a : Addr} {o : HO} : upd H a o a = some o := by unfold upd; rw [if_pos rfl]
theorem upd_ne {H : Hp} {a b : Addr} {o : HO} (h : b ≠ a) : upd H a o b = H b := by unfold upd; rw [if_neg h]
theorem ne_of {H : Hp} {a b : Addr} {o u : HO} (h : H a = some o) (h' : H b = some u) (d : o ≠ u) : a ≠ b := by
 intro e; subst e; rw [h] at h'; exact d (Option.some.inj h')
theorem ne_of_none {H : Hp} {a b : Addr} {o : HO} (h : H a = some o) (h' : H b = none) : a ≠ b := by
 intro e; subst e; rw [h] at h'; cases h'
section
variable (P : Program) (w : World)
def ObjOk (H : Hp) (h : Heap) (a : Addr) : HO → Prop
 | .lst xs => xs.length ≤ sizeLine ∧ ∃ (its : List Value) (n : Nat), Vals xs its ∧ h.get? a = some { cls := .type "list", data := .seq its.toArray n }
 | .tup xs => xs.length ≤ sizeLine ∧ ∃ its : List Value, Vals xs its ∧ IsTup h a its.toArray
 | .dK kvs => kvs.length ≤ sizeLine ∧ (a == sysModules) = false ∧ ∃ vs, KV kvs vs ∧ h.DictOf (mixKind P w) a vs
 | .dT kvs => kvs.length ≤ sizeLine ∧ (a == sysModules) = false ∧ ∃ xs : List (List Key × Addr × Value),
   Paired (fun (p : List Key × V) (q : List Key × Addr × Value) => p.1 = q.1 ∧ H q.2.1 = some (.tup (p.1.map kV)) ∧ RelV p.2 q.2.2) kvs xs ∧
   ∃ o es ep, h.get? a = some o ∧ o.ExactDict ∧ o.data = .dict es ep ∧ es.toList = xs.map (entryOfKey (tupleKind (mixKind P w))) ∧ (xs.map (·.1)).Nodup
 | .set S n => h.SetOf (intKind P w) a S n
 | .ins C dx fs => H dx = some (.own a) ∧ fs.length ≤ 1000 ∧ dx ≠ a ∧ h.get? a = some (PySem.W.instObj C dx) ∧
   ∃ mA, h.Ns1 dx mA ∧ (∀ f, RelO (fs.lookup f) (mA f)) ∧ PySem.Within mA (fs.map (·.1))
 | .own _ => ∃ o, h.get? a = some o
 | .xd fs => ∃ mA, h.Ns1 a mA ∧ ∀ f, RelO (fs.lookup f) (mA f)
 | .rng lo hi => ∃ t u v, h.get? a = some { cls := .type "range", data := .fields #[.int lo t, .int hi u, .int 1 v] }
 | .frz o u => h.get? a = some o ∧ ObjOk H h a u
 | .tbl ps => h.get? a = some { cls := .none, data := .fields ps }
 | .met f x => h.get? a = some (PySem.W.methodObj (.ref f) (.ref x))
 | .ext φ => φ h ∧ (∃ o, h.get? a = some o) ∧ ∀ h1 h2 : Heap, φ h1 → (∀ o, h1.get? a = some o → h2.get? a = some o) → φ h2
def HOk (H : Hp) (h : Heap) : Prop := ∀ a o, H a = some o → ObjOk P w H h a o
end
section
variable {P : Program} {w : World} {H H' : Hp} {h h' : Heap} {a : Addr} {o : HO}
theorem ObjOk.lt (x : ObjOk P w H h a o) : a < h.objs.size := by
 cases o with
 | lst xs => obtain ⟨_, _, _, _, e⟩ := x; exact Heap.lt_size e
 | tup xs => obtain ⟨_, _, _, p⟩ := x; exact p.lt
 | dK kvs => obtain ⟨_, _, _, _, o, _, _, e, _⟩ := x; exact Heap.lt_size e
 | dT kvs => obtain ⟨_, _, _, _, o, _, _, e, _⟩ := x; exact Heap.lt_size e
 | set S n => obtain ⟨o, _, _, _, e, _⟩ := x; exact Heap.lt_size e
 | ins C dx fs => obtain ⟨_, _, _, e, _⟩ := x; exact Heap.lt_size e
 | own y => obtain ⟨_, e⟩ := x; exact Heap.lt_size e
 | xd fs => obtain ⟨_, ⟨_, _, _, e, _⟩, _⟩ := x; exact Heap.lt_size e
 | rng lo hi => obtain ⟨_, _, _, e⟩ := x; exact Heap.lt_size e
 | frz ob u => obtain ⟨e, _⟩ := x; exact Heap.lt_size e
 | tbl ps => exact Heap.lt_size (show h.get? a = some _ from x)
 | met f y => exact Heap.lt_size (show h.get? a = some _ from x)
 | ext φ => obtain ⟨_, ⟨_, e⟩, _⟩ := x; exact Heap.lt_size e
theorem Paired.mapP {α β : Type} {F G : α → β → Prop} : ∀ {l₁ : List α} {l₂ : List β}, Paired F l₁ l₂ → (∀ a b, F a b → G a b) → Paired G l₁ l₂
 | _, _, .nil, _ => .nil
 | _, _, .cons r t, f => .cons (f _ _ r) (Paired.mapP t f)
theorem ObjOk.stay (x : ObjOk P w H h a o) (k : ∀ b u, (b = a ∨ H b = some (.own a)) → h.get? b = some u → h'.get? b = some u)
  (ho : ∀ b, H b = some (.own a) → H' b = some (.own a)) (ht : ∀ b xs, H b = some (.tup xs) → H' b = some (.tup xs)) : ObjOk P w H' h' a o := by
 induction o with
 | lst xs => obtain ⟨z, its, n, r, e⟩ := x; exact ⟨z, its, n, r, k _ _ (.inl rfl) e⟩
 | tup xs => obtain ⟨z, its, r, ob, e, c⟩ := x; exact ⟨z, its, r, ob, k _ _ (.inl rfl) e, c⟩
 | dK kvs => obtain ⟨z, y, vs, r, ob, es, ep, e, c⟩ := x; exact ⟨z, y, vs, r, ob, es, ep, k _ _ (.inl rfl) e, c⟩
 | dT kvs =>
  obtain ⟨z, y, xs, r, ob, es, ep, e, c⟩ := x
  exact ⟨z, y, xs, Paired.mapP r fun p q z => ⟨z.1, ht _ _ z.2.1, z.2.2⟩, ob, es, ep, k _ _ (.inl rfl) e, c⟩
 | set S n => obtain ⟨ob, es, ep, t, e, c⟩ := x; exact ⟨ob, es, ep, t, k _ _ (.inl rfl) e, c⟩
 | ins C dx fs =>
  obtain ⟨d, z, ne, e, mA, ⟨od, es, ep, e2, c⟩, r⟩ := x
  exact ⟨ho _ d, z, ne, k _ _ (.inl rfl) e, mA, ⟨od, es, ep, k _ _ (.inr d) e2, c⟩, r⟩
 | own y => obtain ⟨ob, e⟩ := x; exact ⟨ob, k _ _ (.inl rfl) e⟩
 | xd fs => obtain ⟨mA, ⟨od, es, ep, e, c⟩, r⟩ := x; exact ⟨mA, ⟨od, es, ep, k _ _ (.inl rfl) e, c⟩, r⟩
 | rng lo hi => obtain ⟨t, u, v, e⟩ := x; exact ⟨t, u, v, k _ _ (.inl rfl) e⟩
 | frz ob u ih => obtain ⟨e, q⟩ := x; exact ⟨k _ _ (.inl rfl) e, ih q⟩
 | tbl ps =>
  have e : h.get? a = some { cls := .none, data := .fields ps } := x
  show h'.get? a = some { cls := .none, data := .fields ps }
  exact k a _ (.inl rfl) e
 | met f y =>
  have e : h.get? a = some (PySem.W.methodObj (.ref f) (.ref y)) := x
  show h'.get? a = some (PySem.W.methodObj (.ref f) (.ref y))
  exact k a _ (.inl rfl) e
 | ext φ => obtain ⟨p, ⟨o, e⟩, st⟩ := x; exact ⟨st _ _ p fun o q => k _ _ (.inl rfl) q, ⟨o, k _ _ (.inl rfl) e⟩, st⟩
theorem HOk.lt (x : HOk P w H h) (e : H a = some o) : a < h.objs.size := (x a o e).lt
theorem HOk.fresh (x : HOk P w H h) (e : h.objs.size ≤ a) : H a = none := by
 cases q : H a with
 | none => rfl
 | some u => exact absurd (Nat.lt_of_lt_of_le (x.lt q) e) (Nat.lt_irrefl _)
theorem HOk.kept (x : HOk P w H h) (k : ∀ b u, h.get? b = some u → h'.get? b = some u) : HOk P w H h' := fun a o e =>
 (x a o e).stay (fun b u _ q => k b u q) (fun _ q => q) fun _ _ q => q
theorem HOk.laid (x : HOk P w H h) (k : ∀ b u, h.get? b = some u → h'.get? b = some u) (hp : h.objs.size ≤ a) (new : ObjOk P w (upd H a o) h' a o) : HOk P w (upd H a o) h' := fun b u e => by
 have hn := x.fresh hp
 by_cases hb : b = a
 ·subst hb; rw [upd_same] at e; cases e; exact new
 ·rw [upd_ne hb] at e
  exact (x b u e).stay (fun c v _ q => k c v q) (fun c q => by rw [upd_ne (ne_of_none q hn)]; exact q) fun c xs q => by rw [upd_ne (ne_of_none q hn)]; exact q
end
def Rd (H : Hp) (a : Addr) (u : HO) : Prop := H a = some u ∨ ∃ o, H a = some (.frz o u)
theorem Rd.ok {P : Program} {w : World} {H : Hp} {h : Heap} {a : Addr} {u : HO} (r : Rd H a u) (x : HOk P w H h) : ObjOk P w H h a u := by
 rcases r with r | ⟨o, r⟩
 ·exact x a u r
 ·obtain ⟨_, q⟩ := x a _ r
  exact q
def Mut : Option HO → Prop
 | some (.lst _) => True
 | some (.dK _) => True
 | some (.dT _) => True
 | some (.set _ _) => True
 | some (.ins _ _ _) => True
 | some (.ext _) => True
 | _ => False
section
variable {P : Program} {w : World} {H : Hp} {h h' : Heap} {x e : Addr} {o' : HO}
theorem HOk.write (ok : HOk P w H h) (mu : Mut (H x)) (he : e = x ∨ H e = some (.own x)) (k : ∀ b u, b ≠ e → h.get? b = some u → h'.get? b = some u) (heo : ∃ u, h'.get? e = some u)
  (new : ObjOk P w (upd H x o') h' x o') : HOk P w (upd H x o') h' := fun b u q => by
 have nown : ∀ c y, H c = some (.own y) → c ≠ x := fun c y r z => by subst z; rw [r] at mu; exact mu
 have ntup : ∀ c xs, H c = some (.tup xs) → c ≠ x := fun c xs r z => by subst z; rw [r] at mu; exact mu
 by_cases hb : b = x
 ·subst hb; rw [upd_same] at q; cases q; exact new
 ·rw [upd_ne hb] at q
  by_cases hbe : b = e
  ·have q' : H b = some (.own x) := by
    rcases he with z | z
    ·exact absurd (hbe.trans z) hb
    ·rw [hbe]; exact z
   rw [q] at q'; cases q'
   obtain ⟨v, hv⟩ := heo
   exact ⟨v, by rw [hbe]; exact hv⟩
  ·refine (ok b u q).stay (fun c v hc r => k c v ?_ r) (fun c r => by rw [upd_ne (nown c b r)]; exact r) fun c xs r => by rw [upd_ne (ntup c xs r)]; exact r
   rcases hc with rfl | hc
   ·exact hbe
   ·rintro rfl
    rcases he with z | z
    ·exact nown c b hc z
    ·rw [hc] at z; cases z; exact hb rfl
end
structure Un (fs ex : List Addr) (H H' : Hp) (h h' : Heap) : Prop where
 keep : ∀ b o, h.get? b = some o → H b = none → b ∉ fs → b ∉ ex → h'.get? b = some o
 slot : ∀ b o, h.get? b = some o → H b = none → b ∈ fs → b ∉ ex → ∃ sl, h'.get? b = some { o with slots := sl }
 free : ∀ b o, h.get? b = some o → H b = none → b ∉ ex → H' b = none
 there : ∀ b o, h.get? b = some o → b ∉ ex → ∃ o', h'.get? b = some o'
 tups : ∀ b xs, H b = some (.tup xs) → H' b = some (.tup xs)
 frzs : ∀ b o u, H b = some (.frz o u) → H' b = some (.frz o u)
 tbls : ∀ b ps, H b = some (.tbl ps) → ∃ more, H' b = some (.tbl (ps ++ more))
section
variable {fs fs' ex ex' : List Addr} {H H1 H2 : Hp} {h h1 h2 h' : Heap} {a x e : Addr} {o : HO}
theorem Un.any (u : Un fs ex H H1 h h1) {b : Addr} {ob : Obj} (q : h.get? b = some ob) (n : H b = none) (hx : b ∉ ex) : ∃ sl, h1.get? b = some { ob with slots := sl } := by
 by_cases hb : b ∈ fs
 ·exact u.slot b ob q n hb hx
 ·exact ⟨ob.slots, u.keep b ob q n hb hx⟩
theorem Un.kept (k : ∀ b u, h.get? b = some u → h'.get? b = some u) : Un fs ex H H h h' :=
 ⟨fun b ob q _ _ _ => k b ob q, fun b ob q _ _ _ => ⟨ob.slots, k b ob q⟩, fun _ _ _ n _ => n, fun b ob q _ => ⟨ob, k b ob q⟩, fun _ _ q => q, fun _ _ _ q => q, fun _ ps q => ⟨#[], by rw [q]; simp⟩⟩
theorem Un.refl : Un fs ex H H h h := Un.kept fun _ _ q => q
theorem Un.laid (k : ∀ b u, h.get? b = some u → h'.get? b = some u) (hp : h.objs.size ≤ a) (hn : H a = none) : Un fs ex H (upd H a o) h h' where
 keep := fun b u q _ _ _ => k b u q
 slot := fun b u q _ _ _ => ⟨u.slots, k b u q⟩
 free := fun b u q n _ => by rw [upd_ne (Nat.ne_of_lt (Nat.lt_of_lt_of_le (Heap.lt_size q) hp))]; exact n
 there := fun b u q _ => ⟨u, k b u q⟩
 tups := fun b xs q => by rw [upd_ne (ne_of_none q hn)]; exact q
 frzs := fun b u xs q => by rw [upd_ne (ne_of_none q hn)]; exact q
 tbls := fun b ps q => ⟨#[], by rw [upd_ne (ne_of_none q hn), q]; simp⟩
theorem Un.write (mu : Mut (H x)) (he : e = x ∨ H e = some (.own x)) (k : ∀ b u, b ≠ e → h.get? b = some u → h'.get? b = some u) (heo : ∃ u, h'.get? e = some u) : Un fs ex H (upd H x o) h h' := by
 have hx : ∀ b, H b = none → b ≠ x := fun b n z => by subst z; rw [n] at mu; exact mu
 have hb : ∀ b, H b = none → b ≠ e := fun b n z => by
  subst z
  rcases he with r | r
  ·exact hx b n r
  ·rw [n] at r; cases r
 have hm : ∀ b u, H b = some u → ¬ Mut (some u) → b ≠ x := fun b u q nm z => by subst z; rw [q] at mu; exact nm mu
 refine ⟨fun b u q n _ _ => k b u (hb b n) q, fun b u q n _ _ => ⟨u.slots, k b u (hb b n) q⟩, fun b u q n _ => by rw [upd_ne (hx b n)]; exact n, fun b u q _ => ?_,
  fun b xs q => by rw [upd_ne (hm b _ q fun z => z)]; exact q, fun b u xs q => by rw [upd_ne (hm b _ q fun z => z)]; exact q, fun b ps q => ⟨#[], by rw [upd_ne (hm b _ q fun z => z), q]; simp⟩⟩
 by_cases hbe : b = e
 ·subst hbe; exact heo
 ·exact ⟨u, k b u hbe q⟩
end
def trk (h : Heap) (H : Hp) : List Addr := (List.range h.objs.size).filter fun a => (H a).isSome
def hidT (h : Heap) (H : Hp) : Heap := PySem.W.hideAll h (trk h H)
theorem hidT_size (h : Heap) (H : Hp) : (hidT h H).objs.size = h.objs.size := PySem.W.hideAll_size _ _
theorem hidT_get {h : Heap} {H : Hp} {b : Addr} {o : Obj} (e : h.get? b = some o) (n : H b = none) : (hidT h H).get? b = some o :=
 PySem.W.hideAll_get _ e fun hm => by
  have q : (H b).isSome = true := (List.mem_filter.mp hm).2
  rw [n] at q; simp at q
theorem of_hidT {h : Heap} {H : Hp} {b : Addr} {o : Obj} (e : (hidT h H).get? b = some o) : h.get? b = some o ∧ H b = none := by
 have e' : h.get? b = some o := PySem.W.of_hideAll (trk h H) e
 refine ⟨e', ?_⟩
 cases q : H b with
 | none => rfl
 | some x =>
  have hm : b ∈ trk h H := List.mem_filter.mpr ⟨List.mem_range.mpr (Heap.lt_size e'), by simp [q]⟩
  have z : (hidT h H).get? b = none := PySem.W.hideAll_none (trk h H) hm
  rw [z] at e; cases e
end L2
namespace L2
open PySem PySem.Spec PyProof.Rows
structure Mod (K : PySem.W.Frag) (mg : Str → Option Value) (base : Heap) : Prop where
 kin : K.In base
 glob : base.Ns mainGlobals mg
 blt : ∃ mb, base.Ns builtinsNs mb ∧ ∀ x : Str, x ≠ "__name__" → mb x = bootBuiltins x
 nolimit : base.NoLimit
structure Cx where
 prog : Program
 w : World
 K : PySem.W.Frag
 mg : Str → Option Value
 base : Heap
 A : Around
 N : List Str
 s₀ : Shared
 H₀ : Hp
 env : Env
 outer : List Env
 stack : List Env
 ex : List Addr
 fn : Str → Bool
 calm : Bool
 pn : List (Addr × Obj)
 xe : Value → Shared → Prop
def frs (l : List Env) : List Addr := l.filterMap (·.frame)
abbrev Cx.fs (X : Cx) : List Addr := frs X.outer
def Vis (sc : Scope) (x : Str) : Prop := sc.names.lookup x = some .local ∨ sc.names.lookup x = some .cell ∨ sc.names.lookup x = some .free
def Loc (sc : Scope) (x : Str) : Prop := sc.names.lookup x = some .local ∨ sc.names.lookup x = some .cell
def Look (env : Env) (h : Heap) (m : Str → Option Value) (x : Str) (u : Value) : Prop :=
 (env.kindOf x = some .local ∧ m x = some u) ∨ ((env.kindOf x = some .cell ∨ env.kindOf x = some .free) ∧ ∃ c, env.cells.lookup x = some c ∧ h.IsCell c (some u))
structure Cx.Ok (X : Cx) : Prop where
 mod : Mod X.K X.mg X.base
 kind : X.env.scope.kind = .function
 glob : X.env.globals = mainGlobals
 blt : X.env.builtins = builtinsNs
 above : X.s₀.heap.objs.size ≤ X.env.locals
 inj : ∀ x y c, X.env.cells.lookup x = some c → X.env.cells.lookup y = some c → x = y
 has : ∀ x, (X.env.kindOf x = some .cell ∨ X.env.kindOf x = some .free) → ∃ c, X.env.cells.lookup x = some c
 cab : ∀ x c, X.fn x = true → X.env.cells.lookup x = some c → X.s₀.heap.objs.size ≤ c
 hd : X.calm = true → X.A.handled = none
 frames : X.A.frames = some X.stack
 stk : X.stack = X.outer ∨ (X.stack = X.env :: X.outer ∧ X.env.frame = some X.env.locals)
 exf : ∀ b ∈ X.ex, b ≠ X.env.locals ∧ ∀ x c, X.env.cells.lookup x = some c → c ≠ b
 bs : ∀ b o, X.base.get? b = some o → X.s₀.heap.get? b = some o ∧ X.H₀ b = none
 bsz : X.base.objs.size ≤ X.s₀.heap.objs.size
 noex : ∀ b o, X.base.get? b = some o → b ∉ X.ex
 exfs : ∀ b ∈ X.ex, b ∉ X.fs
 funs : X.s₀.heap.FunFrames X.base X.outer
 frf : ∀ b ∈ X.fs, X.H₀ b = none
structure Inv (X : Cx) (pins : List (Addr × Obj)) (σ : List (Option V)) (H : Hp) (s : Shared) : Prop where
 ok : X.Ok
 os : s.os = X.s₀.os
 bare : AllBare s.gens
 base : Un X.fs X.ex X.H₀ H X.s₀.heap s.heap
 loc : ∃ m, s.heap.Ns X.env.locals m ∧ ∀ (i : Nat) (x : Str) (v : V), X.N[i]? = some x → σ[i]? = some (some v) → Vis X.env.scope x → ∃ u, RelV v u ∧ Look X.env s.heap m x u
 cell : ∀ x c, X.env.cells.lookup x = some c → ∃ v, s.heap.IsCell c v
 free : H X.env.locals = none
 freeC : ∀ x c, X.env.cells.lookup x = some c → H c = none
 pin : ∀ p ∈ X.pn ++ pins, s.heap.get? p.1 = some p.2 ∧ H p.1 = none ∧ p.1 ≠ X.env.locals ∧ p.1 ∉ X.fs ∧ ∀ v, p.2.data ≠ .cell v
 hok : HOk X.prog X.w H s.heap
 len : σ.length = X.N.length
section
variable {X : Cx} {pins : List (Addr × Obj)} {σ : List (Option V)} {H H' : Hp} {s : Shared} {h' : Heap}
theorem Cx.Ok.nofr (ok : X.Ok) {b : Addr} {o : Obj} (e : X.base.get? b = some o) : b ∉ X.fs := fun hb => by
 have := (ok.funs.mem hb).1
 rw [e] at this; cases this
theorem Inv.bs (I : Inv X pins σ H s) : ∀ b o, X.base.get? b = some o → s.heap.get? b = some o ∧ H b = none := fun b o e =>
 ⟨I.base.keep b o (I.ok.bs b o e).1 (I.ok.bs b o e).2 (I.ok.nofr e) (I.ok.noex b o e), I.base.free b o (I.ok.bs b o e).1 (I.ok.bs b o e).2 (I.ok.noex b o e)⟩
theorem Inv.bk (I : Inv X pins σ H s) : ∀ b o, X.base.get? b = some o → s.heap.get? b = some o := fun b o e => (I.bs b o e).1
theorem Inv.mod (I : Inv X pins σ H s) : Mod X.K X.mg X.base := I.ok.mod
theorem Inv.kIn (I : Inv X pins σ H s) : X.K.In s.heap := I.ok.mod.kin.keeps I.bk
theorem Inv.lt (I : Inv X pins σ H s) : X.env.locals < s.heap.objs.size := let ⟨_, hn, _⟩ := I.loc; hn.lt
theorem Inv.sz (I : Inv X pins σ H s) : X.s₀.heap.objs.size ≤ s.heap.objs.size := Nat.le_trans I.ok.above (Nat.le_of_lt I.lt)
theorem Inv.nofs (I : Inv X pins σ H s) {a : Addr} (h : s.heap.objs.size ≤ a) : a ∉ X.fs := fun hb => by
 obtain ⟨_, o, ho, _⟩ := I.ok.funs.mem hb
 exact absurd (Nat.lt_of_lt_of_le (Heap.lt_size ho) (Nat.le_trans I.sz h)) (Nat.lt_irrefl _)
theorem Inv.cne (I : Inv X pins σ H s) : ∀ x c, X.env.cells.lookup x = some c → c ≠ X.env.locals := fun x c e z => by
 obtain ⟨v, o, ho, hd⟩ := I.cell x c e
 obtain ⟨m, ⟨o', es, ep, ho', hd', _⟩, _⟩ := I.loc
 rw [z, ho'] at ho; cases ho; rw [hd'] at hd; cases hd
theorem Inv.funs (I : Inv X pins σ H s) : s.heap.FunFrames X.base X.outer := by
 have all : ∀ (l : List Env), (∀ b ∈ frs l, b ∈ X.fs) → X.s₀.heap.FunFrames X.base l → s.heap.FunFrames X.base l := by
  intro l
  induction l with
  | nil => intro _ _; trivial
  | cons env r ih =>
   intro hs hl
   obtain ⟨hk, ⟨L, o, hf, hn, ho, hd⟩, hr⟩ := hl
   have hL : L ∈ X.fs := hs L (by unfold frs; rw [List.filterMap_cons, hf]; exact List.mem_cons_self)
   obtain ⟨sl, e⟩ := I.base.slot L o ho (I.ok.frf L hL) hL fun z => I.ok.exfs L z hL
   exact ⟨hk, ⟨L, _, hf, hn, e, hd⟩, ih (fun b hb => hs b (by unfold frs; rw [List.filterMap_cons, hf]; exact List.mem_cons_of_mem _ hb)) hr⟩
 exact all X.outer (fun _ hb => hb) I.ok.funs
theorem Inv.stack (I : Inv X pins σ H s) : s.heap.FunFrames X.base X.stack := by
 rcases I.ok.stk with e | ⟨e, hf⟩
 ·rw [e]; exact I.funs
 ·rw [e]
  obtain ⟨m, hn, _⟩ := I.loc
  refine .cons (by rw [I.ok.kind]; decide) hf hn ?_ I.funs
  exact Heap.get?_none_of_le (Nat.le_trans I.ok.bsz I.ok.above)
theorem Inv.stkSub (I : Inv X pins σ H s) : ∀ b ∈ frs X.stack, b ∈ X.env.locals :: X.fs := fun b hb => by
 rcases I.ok.stk with e | ⟨e, hf⟩
 ·rw [e] at hb; exact List.mem_cons_of_mem _ hb
 ·rw [e] at hb
  unfold frs at hb
  rw [List.filterMap_cons, hf] at hb
  exact hb
theorem Inv.stkFree (I : Inv X pins σ H s) : ∀ b ∈ frs X.stack, H b = none := fun b hb => by
 rcases List.mem_cons.mp (I.stkSub b hb) with e | hb
 ·rw [e]; exact I.free
 ·obtain ⟨_, o, ho, _⟩ := I.ok.funs.mem hb
  exact I.base.free b o ho (I.ok.frf b hb) fun z => I.ok.exfs b z hb
theorem Inv.step {g' : Array GenState} {t' : Nat} {d' : Drawn} {ch : List Addr} (I : Inv X pins σ H s)
  (hch : ∀ b ∈ ch, (b ∈ X.ex ∨ X.s₀.heap.objs.size ≤ b) ∧ b ≠ X.env.locals ∧ (∀ x c, X.env.cells.lookup x = some c → c ≠ b) ∧ ∀ p ∈ X.pn ++ pins, p.1 ≠ b)
  (keep : ∀ b o, b ≠ X.env.locals → b ∉ X.fs → b ∉ ch → s.heap.get? b = some o → H b = none → h'.get? b = some o)
  (slot : ∀ b o, b ≠ X.env.locals → b ∈ X.fs → b ∉ ch → s.heap.get? b = some o → H b = none → ∃ sl, h'.get? b = some { o with slots := sl }) (free : ∀ b o, b ∉ ch → s.heap.get? b = some o → H b = none → H' b = none)
  (there : ∀ b o, b ∉ ch → s.heap.get? b = some o → ∃ o', h'.get? b = some o')
  (tups : ∀ b xs, H b = some (.tup xs) → H' b = some (.tup xs)) (frzs : ∀ b o u, H b = some (.frz o u) → H' b = some (.frz o u)) (tbls : ∀ b ps, H b = some (.tbl ps) → ∃ more, H' b = some (.tbl (ps ++ more)))
  (ns : ∀ m, s.heap.Ns X.env.locals m → h'.Ns X.env.locals m) (hok : HOk X.prog X.w H' h') (hg : AllBare g') :
  Inv X pins σ H' { s with heap := h', gens := g', drawn := d', toks := t' } := by
 have neL : ∀ b o, X.s₀.heap.get? b = some o → b ≠ X.env.locals := fun b o e => Nat.ne_of_lt (Nat.lt_of_lt_of_le (Heap.lt_size e) I.ok.above)
 have neC : ∀ b o, X.s₀.heap.get? b = some o → b ∉ X.ex → b ∉ ch := fun b o e hx hb => by
  rcases (hch b hb).1 with z | z
  ·exact hx z
  ·exact absurd (Nat.lt_of_lt_of_le (Heap.lt_size e) z) (Nat.lt_irrefl _)
 have cellK : ∀ x c, X.env.cells.lookup x = some c → ∀ v, s.heap.IsCell c v → h'.IsCell c v := fun x c e v ⟨o, ho, hd⟩ => by
  have nch : c ∉ ch := fun z => (hch c z).2.2.1 x c e rfl
  by_cases hc : c ∈ X.fs
  ·obtain ⟨sl, q⟩ := slot c o (I.cne x c e) hc nch ho (I.freeC x c e)
   exact ⟨_, q, hd⟩
  ·exact ⟨o, keep c o (I.cne x c e) hc nch ho (I.freeC x c e), hd⟩
 refine ⟨I.ok, I.os, hg, ⟨fun b o e n hb hx => ?_, fun b o e n hb hx => ?_, fun b o e n hx => ?_, fun b o e hx => ?_, fun b xs e => tups b xs (I.base.tups b xs e), fun b o xs e => frzs b o xs (I.base.frzs b o xs e), fun b ps e => ?_⟩, ?_, fun x c e => ?_, ?_, fun x c e => ?_, fun p hp => ?_, hok, I.len⟩
 ·exact keep b o (neL b o e) hb (neC b o e hx) (I.base.keep b o e n hb hx) (I.base.free b o e n hx)
 ·obtain ⟨sl, e1⟩ := I.base.slot b o e n hb hx
  obtain ⟨sl', e2⟩ := slot b _ (neL b o e) hb (neC b o e hx) e1 (I.base.free b o e n hx)
  exact ⟨sl', e2⟩
 ·obtain ⟨o', e1⟩ := I.base.there b o e hx
  exact free b o' (neC b o e hx) e1 (I.base.free b o e n hx)
 ·obtain ⟨o', e1⟩ := I.base.there b o e hx
  exact there b o' (neC b o e hx) e1
 ·obtain ⟨m1, e1⟩ := I.base.tbls b ps e
  obtain ⟨m2, e2⟩ := tbls b _ e1
  exact ⟨m1 ++ m2, by rw [e2, Array.append_assoc]⟩
 ·obtain ⟨m, hn, hl⟩ := I.loc
  refine ⟨m, ns m hn, fun i x v e1 e2 e3 => ?_⟩
  obtain ⟨u, r, l⟩ := hl i x v e1 e2 e3
  refine ⟨u, r, ?_⟩
  rcases l with l | ⟨k, c, e, z⟩
  ·exact .inl l
  ·exact .inr ⟨k, c, e, cellK x c e _ z⟩
 ·obtain ⟨v, z⟩ := I.cell x c e
  exact ⟨v, cellK x c e v z⟩
 ·obtain ⟨m, ⟨o, _, _, ho, _⟩, _⟩ := I.loc
  exact free _ o (fun z => (hch _ z).2.1 rfl) ho I.free
 ·obtain ⟨v, o, ho, hd⟩ := I.cell x c e
  exact free c o (fun z => (hch c z).2.2.1 x c e rfl) ho (I.freeC x c e)
 ·obtain ⟨e, n, ne, nf, d⟩ := I.pin p hp
  have nch : p.1 ∉ ch := fun z => (hch p.1 z).2.2.2 p hp rfl
  exact ⟨keep p.1 p.2 ne nf nch e n, free p.1 p.2 nch e n, ne, nf, d⟩
theorem Inv.un {t' : Nat} (I : Inv X pins σ H s) (u : Un X.fs [] H H' s.heap h') (hok : HOk X.prog X.w H' h') : Inv X pins σ H' { s with heap := h', toks := t' } := by
 obtain ⟨m, ⟨o, es, ep, ho, r⟩, _⟩ := id I.loc
 obtain ⟨sl, hL⟩ := u.any ho I.free (by simp)
 exact I.step (g' := s.gens) (d' := s.drawn) (ch := []) (fun _ z => nomatch z) (fun b o _ hb _ e n => u.keep b o e n hb (by simp)) (fun b o _ hb _ e n => u.slot b o e n hb (by simp)) (fun b o _ e n => u.free b o e n (by simp)) (fun b o _ e => u.there b o e (by simp)) u.tups u.frzs u.tbls (fun m' hm => by
  obtain ⟨o', es', ep', ho', r'⟩ := hm
  rw [ho] at ho'; cases ho'
  exact ⟨_, es', ep', hL, r'⟩) hok I.bare
theorem Inv.call {g' : Array GenState} {t' : Nat} {d' : Drawn} {ch : List Addr} (I : Inv X pins σ H s) (u : Un (frs X.stack) ch H H' s.heap h') (hok : HOk X.prog X.w H' h') (hg : AllBare g')
  (hch : ∀ b ∈ ch, (b ∈ X.ex ∨ X.s₀.heap.objs.size ≤ b) ∧ b ≠ X.env.locals ∧ (∀ x c, X.env.cells.lookup x = some c → c ≠ b) ∧ ∀ p ∈ X.pn ++ pins, p.1 ≠ b) :
  Inv X pins σ H' { s with heap := h', gens := g', drawn := d', toks := t' } := by
 obtain ⟨m, ⟨o, es, ep, ho, r⟩, _⟩ := id I.loc
 obtain ⟨sl, hL⟩ := u.any ho I.free fun z => (hch _ z).2.1 rfl
 exact I.step (ch := ch) hch (fun b o hL hb hc e n => u.keep b o e n (fun z => (List.mem_cons.mp (I.stkSub b z)).elim hL hb) hc) (fun b o _ _ hc e n => u.any e n hc) (fun b o hc e n => u.free b o e n hc) (fun b o hc e => u.there b o e hc) u.tups u.frzs u.tbls (fun m' hm => by
  obtain ⟨o', es', ep', ho', r'⟩ := hm
  rw [ho] at ho'; cases ho'
  exact ⟨_, es', ep', hL, r'⟩) hok hg
theorem Inv.turned {t' : Nat} {it : Addr} (I : Inv X pins σ H s) (k : ∀ b o, b ≠ it → s.heap.get? b = some o → h'.get? b = some o) (hn : H it = none) (hL : it ≠ X.env.locals)
  (h1 : it ∈ X.ex ∨ X.s₀.heap.objs.size ≤ it) (h2 : ∀ x c, X.env.cells.lookup x = some c → c ≠ it) (h3 : ∀ p ∈ X.pn ++ pins, p.1 ≠ it) : Inv X pins σ H { s with heap := h', toks := t' } := by
 have nit : ∀ b u, H b = some u → b ≠ it := fun b u e z => by rw [z, hn] at e; cases e
 refine I.step (g' := s.gens) (d' := s.drawn) (ch := [it]) (fun b hb => ?_) (fun b o _ _ hc e _ => k b o (fun z => hc (by simp [z])) e) (fun b o _ _ hc e _ => ⟨o.slots, k b o (fun z => hc (by simp [z])) e⟩) (fun _ _ _ _ n => n)
  (fun b o hc e => ⟨o, k b o (fun z => hc (by simp [z])) e⟩) (fun _ _ e => e) (fun _ _ _ e => e) (fun b ps e => ⟨#[], by rw [e]; simp⟩) (fun m hm => ?_) (fun b u e => ?_) I.bare
 ·have e : b = it := by simpa using hb
  subst e
  exact ⟨h1, hL, h2, h3⟩
 ·obtain ⟨o, es, ep, ho, r⟩ := hm
  exact ⟨o, es, ep, k _ o (Ne.symm hL) ho, r⟩
 ·refine (I.hok b u e).stay (fun c v hc q => k c v ?_ q) (fun _ q => q) fun _ _ q => q
  rcases hc with z | z
  ·rw [z]; exact nit b u e
  ·exact nit c _ z
theorem Inv.tok (I : Inv X pins σ H s) (t : Nat) : Inv X pins σ H { s with toks := t } := I.un (h' := s.heap) (t' := t) Un.refl I.hok
theorem Inv.kept {t' : Nat} (I : Inv X pins σ H s) (k : ∀ b u, s.heap.get? b = some u → h'.get? b = some u) : Inv X pins σ H { s with heap := h', toks := t' } := I.un (Un.kept k) (I.hok.kept k)
theorem Inv.laid {a : Addr} {o : HO} {t' : Nat} (I : Inv X pins σ H s) (k : ∀ b u, s.heap.get? b = some u → h'.get? b = some u) (hp : s.heap.objs.size ≤ a) (new : ObjOk X.prog X.w (upd H a o) h' a o) :
  Inv X pins σ (upd H a o) { s with heap := h', toks := t' } := I.un (Un.laid k hp (I.hok.fresh hp)) (I.hok.laid k hp new)
theorem Inv.write {x e : Addr} {o : HO} {t' : Nat} (I : Inv X pins σ H s) (mu : Mut (H x)) (he : e = x ∨ H e = some (.own x)) (k : ∀ b u, b ≠ e → s.heap.get? b = some u → h'.get? b = some u) (heo : ∃ u, h'.get? e = some u)
  (new : ObjOk X.prog X.w (upd H x o) h' x o) : Inv X pins σ (upd H x o) { s with heap := h', toks := t' } := I.un (Un.write mu he k heo) (I.hok.write mu he k heo new)
theorem Inv.pins_of {pins' : List (Addr × Obj)} (I : Inv X pins σ H s) (h : ∀ p ∈ pins', s.heap.get? p.1 = some p.2 ∧ H p.1 = none ∧ p.1 ≠ X.env.locals ∧ p.1 ∉ X.fs ∧ ∀ v, p.2.data ≠ .cell v) : Inv X pins' σ H s :=
 ⟨I.ok, I.os, I.bare, I.base, I.loc, I.cell, I.free, I.freeC, fun p hp => (List.mem_append.mp hp).elim (fun z => I.pin p (List.mem_append_left _ z)) (h p), I.hok, I.len⟩
theorem nodup_ix {N : List Str} (hN : N.Nodup) {i j : Nat} {x : Str} (a : N[i]? = some x) (b : N[j]? = some x) : i = j := by
 obtain ⟨h1, e1⟩ := List.getElem?_eq_some_iff.mp a
 obtain ⟨h2, e2⟩ := List.getElem?_eq_some_iff.mp b
 exact (List.getElem_inj hN).mp (e1.trans e2.symm)
theorem store_ok2 {M : Model} {A : Around} {E : Value → Shared → Prop} {i : Nat} {x : Str} {v : V} {u : Value} {Q : Unit → Shared → Prop} (I : Inv X pins σ H s) (hN : X.N.Nodup) (hi : X.N[i]? = some x) (hx : Loc X.env.scope x) (r : RelV v u)
  (h : ∀ s', Inv X pins (σ.set i (some v)) H s' → (∃ a, Heap.SameBut a s.heap s'.heap ∧ (a = X.env.locals ∨ X.env.cells.lookup x = some a)) → Q () s') (hf : X.fn x = true ∨ X.env.scope.names.lookup x = some .local := by first | exact .inl rfl | exact .inr rfl | assumption) : wpAny M A (storeName X.env x u) Q E s := by
 obtain ⟨m, hn, hl⟩ := id I.loc
 have hcls : (X.env.scope.kind == .class || (X.env.scope.kind == .module && X.env.locals != X.env.globals)) = false := by rw [I.ok.kind]; rfl
 have hiσ : i < σ.length := by rw [I.len]; exact (List.getElem?_eq_some_iff.mp hi).1
 have cne := I.cne
 have tracked : ∀ {a : Addr} {h' : Heap}, (∃ o, s.heap.get? a = some o ∧ H a = none) → Heap.SameBut a s.heap h' → HOk X.prog X.w H h' := fun {a h'} ha hs b ob e => by
  obtain ⟨_, _, hfree⟩ := ha
  refine (I.hok b ob e).stay (fun c w' hc q => (hs.2 c ?_).trans q) (fun _ q => q) fun _ _ q => q
  rintro rfl
  rcases hc with rfl | hc
  ·rw [hfree] at e; cases e
  ·rw [hfree] at hc; cases hc
 rcases hx with hk | hk
 ·refine wpAny_storeName_local hk hn (fun h' hn' hs => ?_) hcls
  obtain ⟨oL, _, _, hoL, _⟩ := id hn
  refine h _ ⟨I.ok, I.os, I.bare, ⟨fun b o e n hb hx => ?_, fun b o e n hb hx => ?_, I.base.free, fun b o e hx => ?_, I.base.tups, I.base.frzs, I.base.tbls⟩, ⟨_, hn', fun j y v' e1 e2 e3 => ?_⟩, fun y c e => ?_, I.free, I.freeC, fun p hp => ?_, tracked ⟨oL, hoL, I.free⟩ hs, by simpa using I.len⟩ ⟨_, hs, .inl rfl⟩
  ·exact (hs.2 b (Nat.ne_of_lt (Nat.lt_of_lt_of_le (Heap.lt_size e) I.ok.above))).trans (I.base.keep b o e n hb hx)
  ·obtain ⟨sl, e1⟩ := I.base.slot b o e n hb hx
   exact ⟨sl, (hs.2 b (Nat.ne_of_lt (Nat.lt_of_lt_of_le (Heap.lt_size e) I.ok.above))).trans e1⟩
  ·obtain ⟨o', e1⟩ := I.base.there b o e hx
   exact ⟨o', (hs.2 b (Nat.ne_of_lt (Nat.lt_of_lt_of_le (Heap.lt_size e) I.ok.above))).trans e1⟩
  ·by_cases hj : j = i
   ·subst hj
    rw [hi] at e1; cases e1
    rw [List.getElem?_set_self hiσ] at e2
    cases e2
    exact ⟨u, r, .inl ⟨hk, by simp⟩⟩
   ·rw [List.getElem?_set_ne (Ne.symm hj)] at e2
    obtain ⟨u', r', q⟩ := hl j y v' e1 e2 e3
    refine ⟨u', r', ?_⟩
    rcases q with ⟨k, e⟩ | ⟨k, c, e, z⟩
    ·refine .inl ⟨k, ?_⟩
     have : y ≠ x := fun e => hj (nodup_ix hN e1 (e ▸ hi))
     simp [this, e]
    ·exact .inr ⟨k, c, e, z.sameBut hs (cne y c e)⟩
  ·obtain ⟨w', z⟩ := I.cell y c e
   exact ⟨w', z.sameBut hs (cne y c e)⟩
  ·obtain ⟨e, n, ne, nf, d⟩ := I.pin p hp
   exact ⟨(hs.2 p.1 ne).trans e, n, ne, nf, d⟩
 ·have hfn : X.fn x = true := by
   rcases hf with z | z
   ·exact z
   ·rw [z] at hk; cases hk
  obtain ⟨c, hc⟩ := I.ok.has x (.inl hk)
  obtain ⟨w', z⟩ := I.cell x c hc
  refine wpAny_storeName_cell I.ok.kind hk hc z (fun h' hc' hs => ?_)
  obtain ⟨oc, hoc, hocd⟩ := id z
  refine h { s with heap := h' } ⟨I.ok, I.os, I.bare, ⟨fun b o e n hb hx => ?_, fun b o e n hb hx => ?_, I.base.free, fun b o e hx => ?_, I.base.tups, I.base.frzs, I.base.tbls⟩, ⟨m, hn.sameBut hs (Ne.symm (cne x c hc)), fun j y v' e1 e2 e3 => ?_⟩, fun y c' e => ?_, I.free, I.freeC, fun p hp => ?_, tracked ⟨oc, hoc, I.freeC x c hc⟩ hs, by simpa using I.len⟩ ⟨c, hs, .inr hc⟩
  ·exact (hs.2 b (Nat.ne_of_lt (Nat.lt_of_lt_of_le (Heap.lt_size e) (I.ok.cab x c hfn hc)))).trans (I.base.keep b o e n hb hx)
  ·obtain ⟨sl, e1⟩ := I.base.slot b o e n hb hx
   exact ⟨sl, (hs.2 b (Nat.ne_of_lt (Nat.lt_of_lt_of_le (Heap.lt_size e) (I.ok.cab x c hfn hc)))).trans e1⟩
  ·obtain ⟨o', e1⟩ := I.base.there b o e hx
   exact ⟨o', (hs.2 b (Nat.ne_of_lt (Nat.lt_of_lt_of_le (Heap.lt_size e) (I.ok.cab x c hfn hc)))).trans e1⟩
  ·by_cases hj : j = i
   ·subst hj
    rw [hi] at e1; cases e1
    rw [List.getElem?_set_self hiσ] at e2
    cases e2
    exact ⟨u, r, .inr ⟨.inl hk, c, hc, hc'⟩⟩
   ·rw [List.getElem?_set_ne (Ne.symm hj)] at e2
    obtain ⟨u', r', q⟩ := hl j y v' e1 e2 e3
    refine ⟨u', r', ?_⟩
    rcases q with q | ⟨k, c', e, z'⟩
    ·exact .inl q
    ·refine .inr ⟨k, c', e, z'.sameBut hs ?_⟩
     rintro rfl
     exact hj (nodup_ix hN e1 (I.ok.inj _ _ _ e hc ▸ hi))
  ·by_cases hcc : c' = c
   ·subst hcc; exact ⟨_, hc'⟩
   ·obtain ⟨w2, z2⟩ := I.cell y c' e
    exact ⟨w2, z2.sameBut hs hcc⟩
  ·obtain ⟨e, n, ne, nf, d⟩ := I.pin p hp
   refine ⟨(hs.2 p.1 ?_).trans e, n, ne, nf, d⟩
   intro q
   rw [q, hoc] at e
   have q' : oc = p.2 := Option.some.inj e
   exact d w' (by rw [← q']; exact hocd)
theorem store_ok {M : Model} {A : Around} {E : Value → Shared → Prop} {i : Nat} {x : Str} {v : V} {u : Value} {Q : Unit → Shared → Prop} (I : Inv X pins σ H s) (hN : X.N.Nodup) (hi : X.N[i]? = some x) (hx : Loc X.env.scope x) (r : RelV v u)
  (h : ∀ s', Inv X pins (σ.set i (some v)) H s' → Q () s') (hf : X.fn x = true ∨ X.env.scope.names.lookup x = some .local := by first | exact .inl rfl | exact .inr rfl | assumption) : wpAny M A (storeName X.env x u) Q E s :=
 store_ok2 I hN hi hx r (fun s' I' _ => h s' I') hf
theorem Inv.call' {s' : Shared} {ch : List Addr} (I : Inv X pins σ H s) (ho : s'.os = s.os) (u : Un (frs X.stack) ch H H' s.heap s'.heap) (hok : HOk X.prog X.w H' s'.heap) (hg : AllBare s'.gens)
  (hch : ∀ b ∈ ch, (b ∈ X.ex ∨ X.s₀.heap.objs.size ≤ b) ∧ b ≠ X.env.locals ∧ (∀ x c, X.env.cells.lookup x = some c → c ≠ b) ∧ ∀ p ∈ X.pn ++ pins, p.1 ≠ b) : Inv X pins σ H' s' := by
 obtain ⟨h', g', d', t', o'⟩ := s'
 have e : o' = s.os := ho
 subst e
 exact I.call (g' := g') (t' := t') (d' := d') u hok hg hch
end
abbrev XK := Value → Option Addr → Hp → Prop
abbrev St := List (Option V)
abbrev VK := V → Hp → Prop
abbrev TE := St → Hp → VK → Prop
abbrev TT := St → Hp → (Bool → Hp → Prop) → Prop
abbrev TA := St → Hp → (List V → Hp → Prop) → Prop
structure Ends where
 nx : St → Hp → Prop
 rt : VK
 bk : St → Hp → Prop := fun _ _ => False
 ct : St → Hp → Prop := fun _ _ => False
abbrev TS := Ends → St → Hp → Prop
def EP (X : Cx) (pins : List (Addr × Obj)) (σ : St) (Q : VK) (u : Value) (s' : Shared) : Prop := ∃ v H', Inv X pins σ H' s' ∧ RelV v u ∧ Q v H'
def TP (X : Cx) (pins : List (Addr × Obj)) (σ : St) (Q : Bool → Hp → Prop) (b : Bool) (s' : Shared) : Prop := ∃ H', Inv X pins σ H' s' ∧ Q b H'
def AP (X : Cx) (pins : List (Addr × Obj)) (σ : St) (Q : List V → Hp → Prop) (us : List Value) (s' : Shared) : Prop := ∃ vs H', Inv X pins σ H' s' ∧ Vals vs us ∧ Q vs H'
def SP (X : Cx) (pins : List (Addr × Obj)) (D : Ends) (f : Flow) (s' : Shared) : Prop :=
 match f with
 | .next => ∃ σ' H', Inv X pins σ' H' s' ∧ D.nx σ' H'
 | .brk => ∃ σ' H', Inv X pins σ' H' s' ∧ D.bk σ' H'
 | .cont => ∃ σ' H', Inv X pins σ' H' s' ∧ D.ct σ' H'
 | .ret u => ∃ v σ' H', Inv X pins σ' H' s' ∧ RelV v u ∧ D.rt v H'
def PE (X : Cx) (e : Expr) (t : TE) : Prop :=
 ∀ (pins : List (Addr × Obj)) (s : Shared) (σ : St) (H : Hp) (Q : VK), Inv X pins σ H s → t σ H Q → wpAny (model X.prog X.w) X.A (eval e X.env) (EP X pins σ Q) X.xe s
def PT (X : Cx) (e : Expr) (t : TT) : Prop :=
 ∀ (pins : List (Addr × Obj)) (s : Shared) (σ : St) (H : Hp) (Q : Bool → Hp → Prop), Inv X pins σ H s → t σ H Q → wpAny (model X.prog X.w) X.A (isTrue e X.env (eval e X.env)) (TP X pins σ Q) X.xe s
def PW (X : Cx) (e : Expr) (t : TT) : Prop :=
 ∀ (whole : Sem Value) (pins : List (Addr × Obj)) (s : Shared) (σ : St) (H : Hp) (Q : Bool → Hp → Prop), Inv X pins σ H s → t σ H Q → wpAny (model X.prog X.w) X.A (isTrue e X.env whole) (TP X pins σ Q) X.xe s
theorem PW.pt {X : Cx} {e : Expr} {t : TT} (h : PW X e t) : PT X e t := h _
def PA (X : Cx) (es : List Expr) (t : TA) : Prop :=
 ∀ (pos : Pos) (pins : List (Addr × Obj)) (s : Shared) (σ : St) (H : Hp) (Q : List V → Hp → Prop), Inv X pins σ H s → t σ H Q → wpAny (model X.prog X.w) X.A (spliced (backTo pos (starEach es X.env))) (AP X pins σ Q) X.xe s
def PS (X : Cx) (st : Stmt) (t : TS) : Prop :=
 ∀ (pins : List (Addr × Obj)) (s : Shared) (σ : St) (H : Hp) (D : Ends), Inv X pins σ H s → t D σ H → wpAny (model X.prog X.w) X.A (exec st X.env) (SP X pins D) X.xe s
def PSs (X : Cx) (st : List Stmt) (t : TS) : Prop :=
 ∀ (pins : List (Addr × Obj)) (s : Shared) (σ : St) (H : Hp) (D : Ends), Inv X pins σ H s → t D σ H → wpAny (model X.prog X.w) X.A (execs st X.env) (SP X pins D) X.xe s
theorem thn {α : Type} {t : Sem α} {Q Q' : α → Shared → Prop} {M : Model} {A : Around} {E : Value → Shared → Prop} {s : Shared} (h : wpAny M A t Q E s) (hQ : ∀ a s, Q a s → Q' a s) : wpAny M A t Q' E s := wpAny_mono h hQ fun _ _ x => x
end L2
namespace L2
open PySem PySem.Spec PyProof.Rows
section
variable {X : Cx}
def tVar (i : Nat) : TE := fun σ H Q => ∃ v, σ[i]? = some (some v) ∧ Q v H
def tC (v : V) : TE := fun _ H Q => Q v H
theorem pe_var {i : Nat} {x : Str} {pos : Pos} (hN : X.N[i]? = some x) (hv : Vis X.env.scope x) (hd : (x == ("__debug__" : Str)) = false := by decide) (hcd : (x == ("__classdict__" : Str)) = false := by decide) : PE X (.Name x pos) (tVar i) := by
 intro pins s σ H Q I h
 obtain ⟨v, e, h⟩ := h
 obtain ⟨m, hn, hl⟩ := I.loc
 obtain ⟨u, r, l⟩ := hl i x v hN e hv
 have fin : EP X pins σ Q u s := ⟨v, H, I, r, h⟩
 rcases l with ⟨hk, hm⟩ | ⟨hk, c, hc, hcell⟩
 ·exact wpAny_Name (wpAny_loadName_local I.ok.kind hk hn hm fin) hd
 ·rcases hk with hk | hk
  ·exact wpAny_Name (wpAny_loadName_cell I.ok.kind hk hc hcell fin) hd
  ·exact wpAny_Name (wpAny_loadName_free I.ok.kind hk hc hcell fin hcd) hd
theorem pe_int {i j pos} : PE X (.Constant (.int i) j pos) (tC (.int i)) := fun _ _ _ H _ I h => wpAny_Constant_int ⟨.int i, H, I.tok _, ⟨_, rfl⟩, h⟩
theorem pe_bl {b j pos} : PE X (.Constant (.bool b) j pos) (tC (.bl b)) := fun _ _ _ H _ I h => Constant_bool ⟨.bl b, H, I, rfl, h⟩
theorem pe_non {j pos} : PE X (.Constant .none j pos) (tC .non) := fun _ _ _ H _ I h => Constant_none ⟨.non, H, I, rfl, h⟩
theorem pe_str {x j pos} : PE X (.Constant (.str x) j pos) (tC (.str x)) := fun _ _ _ H _ I h => Calls.Constant_str ⟨.str x, H, I.tok _, ⟨_, rfl⟩, h⟩
def Gl (X : Cx) (x : Str) : Prop := X.env.kindOf x = some .globalImplicit
theorem ld_glob {E : Value → Shared → Prop} {pins : List (Addr × Obj)} {s : Shared} {σ : St} {H : Hp} {x : Str} {u : Value} {pos : Pos} {Q : Value → Shared → Prop} (I : Inv X pins σ H s) (hg : Gl X x) (hm : X.mg x = some u) (h : Q u s)
  (hd : (x == ("__debug__" : Str)) = false := by decide) : wpAny (model X.prog X.w) X.A (eval (.Name x pos) X.env) Q E s :=
 Calls.Name_function_global I.ok.kind hg (Calls.loadGlobal_global (by rw [I.ok.glob]; exact I.mod.glob.keeps I.bk) hm h) hd
theorem ld_blt {E : Value → Shared → Prop} {pins : List (Addr × Obj)} {s : Shared} {σ : St} {H : Hp} {x : Str} {u : Value} {pos : Pos} {Q : Value → Shared → Prop} (I : Inv X pins σ H s) (hg : Gl X x) (hm : X.mg x = none) (hv : bootBuiltins x = some u) (h : Q u s)
  (hn : x ≠ "__name__" := by decide) (hd : (x == ("__debug__" : Str)) = false := by decide) : wpAny (model X.prog X.w) X.A (eval (.Name x pos) X.env) Q E s := by
 obtain ⟨mb, h1, h2⟩ := I.mod.blt
 exact Calls.Name_function_global I.ok.kind hg (Calls.loadGlobal_builtin (by rw [I.ok.glob]; exact I.mod.glob.keeps I.bk) hm (by rw [I.ok.blt]; exact h1.keeps I.bk) ((h2 x hn).trans hv) h) hd
theorem pe_glob {x : Str} {v : V} {u : Value} {pos : Pos} (hg : Gl X x) (hm : X.mg x = some u) (r : RelV v u) (hd : (x == ("__debug__" : Str)) = false := by decide) : PE X (.Name x pos) (tC v) :=
 fun _ _ _ H _ I h => ld_glob I hg hm ⟨v, H, I, r, h⟩ hd
theorem pe_bltn {x : Str} {v : V} {u : Value} {pos : Pos} (hg : Gl X x) (hm : X.mg x = none) (hv : bootBuiltins x = some u) (r : RelV v u) (hn : x ≠ "__name__" := by decide) (hd : (x == ("__debug__" : Str)) = false := by decide) : PE X (.Name x pos) (tC v) :=
 fun _ _ _ H _ I h => ld_blt I hg hm hv ⟨v, H, I, r, h⟩ hn hd
variable {a b : Expr} {ta tb : TE} {pos : Pos}
def tB (t : TE) : TT := fun σ H Q => t σ H fun x H1 => ∃ c, x = .bl c ∧ Q c H1
theorem pt_val {e : Expr} {t : TE} (h : PE X e t) (he : ∀ whole, isTrue e X.env whole = (do let v ← whole; standAt e.pos; holding [v] (truthy v)) := by intro _; rfl) : PT X e (tB t) := by
 intro pins s σ H Q I hw
 refine isTrue_plain (thn (h pins s σ H _ I hw) fun v s1 ⟨x, H1, I1, r1, q1⟩ => ?_) (he _)
 obtain ⟨d, rfl, q⟩ := q1
 cases r1
 exact wpAny_truthy_bool ⟨H1, I1, q⟩
variable {tA tB' : TT} {rest : List Expr}
def tAnd (t u : TT) : TT := fun σ H Q => t σ H fun c H1 => if c = true then u σ H1 Q else Q false H1
def tOr (t u : TT) : TT := fun σ H Q => t σ H fun c H1 => if c = true then Q true H1 else u σ H1 Q
def tNot (t : TT) : TT := fun σ H Q => t σ H fun c H1 => Q (!c) H1
theorem pw_and1 (ha : PT X a tA) : PW X (.BoolOp .And [a] pos) tA := by
 intro wh pins s σ H Q I h
 refine isTrue_and (thn (ha pins s σ H Q I h) fun c s1 e => ?_)
 cases c with
 | true => exact isTrue_and_nil e
 | false => exact e
theorem pw_or1 (ha : PT X a tA) : PW X (.BoolOp .Or [a] pos) tA := by
 intro wh pins s σ H Q I h
 refine isTrue_or (thn (ha pins s σ H Q I h) fun c s1 e => ?_)
 cases c with
 | false => exact isTrue_or_nil e
 | true => exact e
theorem pw_and (ha : PT X a tA) (hb : PW X (.BoolOp .And (b :: rest) pos) tB') : PW X (.BoolOp .And (a :: b :: rest) pos) (tAnd tA tB') := by
 intro wh pins s σ H Q I h
 refine isTrue_and (thn (ha pins s σ H _ I h) fun c s1 ⟨H1, I1, q1⟩ => ?_)
 cases c with
 | true => exact hb wh pins s1 σ H1 Q I1 q1
 | false => exact ⟨H1, I1, q1⟩
theorem pw_or (ha : PT X a tA) (hb : PW X (.BoolOp .Or (b :: rest) pos) tB') : PW X (.BoolOp .Or (a :: b :: rest) pos) (tOr tA tB') := by
 intro wh pins s σ H Q I h
 refine isTrue_or (thn (ha pins s σ H _ I h) fun c s1 ⟨H1, I1, q1⟩ => ?_)
 cases c with
 | true => exact ⟨H1, I1, q1⟩
 | false => exact hb wh pins s1 σ H1 Q I1 q1
theorem pt_not (ha : PT X a tA) : PT X (.UnaryOp .Not a pos) (tNot tA) := by
 intro pins s σ H Q I h
 exact isTrue_not (ha pins s σ H (fun c H1 => Q (!c) H1) I h)
def tAndV (ta tb : TE) : TE := fun σ H Q => ta σ H fun x H1 => ∃ c, x = .bl c ∧ if c = true then tb σ H1 Q else Q (.bl false) H1
def tOrV (ta tb : TE) : TE := fun σ H Q => ta σ H fun x H1 => ∃ c, x = .bl c ∧ if c = true then Q (.bl true) H1 else tb σ H1 Q
def tNotV (ta : TE) : TE := fun σ H Q => ta σ H fun x H1 => ∃ c, x = .bl c ∧ Q (.bl (!c)) H1
theorem pe_one {op} {t : TE} (h : PE X a t) : PE X (.BoolOp op [a] pos) t := fun pins s σ H Q I hw => BoolOp_one (h pins s σ H Q I hw)
theorem pe_and (ha : PE X a ta) (hb : PE X (.BoolOp .And (b :: rest) pos) tb) : PE X (.BoolOp .And (a :: b :: rest) pos) (tAndV ta tb) := by
 intro pins s σ H Q I h
 refine BoolOp_and (thn (ha pins s σ H _ I h) fun v s1 ⟨x, H1, I1, r1, q1⟩ => ?_)
 obtain ⟨c, rfl, q1⟩ := q1
 cases r1
 refine wpAny_truthy_bool ?_
 cases c with
 | true => exact hb pins s1 σ H1 Q I1 q1
 | false => exact ⟨.bl false, H1, I1, rfl, q1⟩
theorem pe_or (ha : PE X a ta) (hb : PE X (.BoolOp .Or (b :: rest) pos) tb) : PE X (.BoolOp .Or (a :: b :: rest) pos) (tOrV ta tb) := by
 intro pins s σ H Q I h
 refine BoolOp_or (thn (ha pins s σ H _ I h) fun v s1 ⟨x, H1, I1, r1, q1⟩ => ?_)
 obtain ⟨c, rfl, q1⟩ := q1
 cases r1
 refine wpAny_truthy_bool ?_
 cases c with
 | false => exact hb pins s1 σ H1 Q I1 q1
 | true => exact ⟨.bl true, H1, I1, rfl, q1⟩
theorem pe_not (ha : PE X a ta) : PE X (.UnaryOp .Not a pos) (tNotV ta) := by
 intro pins s σ H Q I h
 refine UnaryOp_ (thn (ha pins s σ H _ I h) fun v s1 ⟨x, H1, I1, r1, q1⟩ => ?_)
 obtain ⟨c, rfl, q1⟩ := q1
 cases r1
 exact not_of (wpAny_truthy_bool ⟨.bl (!c), H1, I1, rfl, q1⟩)
def tIf (t : TT) (ta tb : TE) : TE := fun σ H Q => t σ H fun c H1 => if c = true then ta σ H1 Q else tb σ H1 Q
theorem pe_ifExp {c : Expr} (hc : PT X c tA) (ha : PE X a ta) (hb : PE X b tb) : PE X (.IfExp c a b pos) (tIf tA ta tb) := by
 intro pins s σ H Q I h
 refine wpAny_IfExp (thn (hc pins s σ H _ I h) fun d s1 ⟨H1, I1, q1⟩ => ?_)
 cases d with
 | true => exact ha pins s1 σ H1 Q I1 q1
 | false => exact hb pins s1 σ H1 Q I1 q1
end
end L2
namespace L2
open PySem PySem.Spec PyProof.Rows
def SqL (K : PySem.W.Frag) (H : Hp) (a : Addr) (xs : List V) : Prop :=
 Rd H a (.lst xs) ∨
  ∃ (o : Obj) (its : Array Value) (n : Nat), K.lookup a = some o ∧ o.cls = .type "list" ∧ o.dict = none ∧ o.data = .seq its n ∧ its.size ≤ sizeLine ∧ Vals xs its.toList
def SqT (K : PySem.W.Frag) (H : Hp) (a : Addr) (xs : List V) : Prop :=
 Rd H a (.tup xs) ∨
  ∃ (o : Obj) (its : Array Value) (n : Nat), K.lookup a = some o ∧ o.cls = .type "tuple" ∧ o.data = .seq its n ∧ its.size ≤ sizeLine ∧ Vals xs its.toList
def absV : Value → Option V
 | .none => some .non
 | .bool b => some (.bl b)
 | .int i _ => some (.int i)
 | .str x _ => some (.str x)
 | .bytes b _ => some (.byt b)
 | .float b _ => some (.flt b)
 | .ref a => some (.ref a)
 | .type n => some (.ty n)
 | _ => none
theorem RelV.abs {x : V} {u : Value} (r : RelV x u) : absV u = some x := by
 cases x with
 | non => cases r; rfl
 | bl _ => cases r; rfl
 | int _ => obtain ⟨t, rfl⟩ := r; rfl
 | str _ => obtain ⟨t, rfl⟩ := r; rfl
 | byt _ => obtain ⟨t, rfl⟩ := r; rfl
 | flt _ => obtain ⟨t, rfl⟩ := r; rfl
 | ref _ => cases r; rfl
 | ty _ => cases r; rfl
theorem RelV.inj {x y : V} {u : Value} (r : RelV x u) (q : RelV y u) : x = y := Option.some.inj (r.abs.symm.trans q.abs)
theorem Vals.inj : ∀ {xs ys : List V} {us : List Value}, Vals xs us → Vals ys us → xs = ys
 | _, _, _, .nil, .nil => rfl
 | _, _, _, .cons r t, .cons r' t' => by rw [r.inj r', Vals.inj t t']
section
variable {X : Cx} {pins : List (Addr × Obj)} {σ : St} {H : Hp} {s : Shared} {a : Addr} {xs ys : List V}
theorem SqL.of {K : PySem.W.Frag} (h : H a = some (.lst xs)) : SqL K H a xs := .inl (.inl h)
theorem Inv.list (I : Inv X pins σ H s) (h : SqL X.K H a xs) : ∃ its : List Value, Vals xs its ∧ PlainL s.heap a its.toArray ∧ xs.length ≤ sizeLine := by
 rcases h with h | ⟨o, its, n, hk, hc, hd, hs, hz, r⟩
 ·obtain ⟨z, its, n, r, e⟩ := h.ok I.hok
  exact ⟨its, r, ⟨_, n, e, rfl, rfl, rfl⟩, z⟩
 ·refine ⟨its.toList, r, ⟨o, n, I.kIn a o hk, hc, hd, by simpa using hs⟩, ?_⟩
  have e := r.length
  simp only [Array.length_toList] at e
  omega
theorem Inv.tuple (I : Inv X pins σ H s) (h : SqT X.K H a xs) : ∃ its : List Value, Vals xs its ∧ IsTup s.heap a its.toArray ∧ xs.length ≤ sizeLine := by
 rcases h with h | ⟨o, its, n, hk, hc, hs, hz, r⟩
 ·obtain ⟨z, its, r, p⟩ := h.ok I.hok
  exact ⟨its, r, p, z⟩
 ·refine ⟨its.toList, r, ⟨o, I.kIn a o hk, hc, n, by simpa using hs⟩, ?_⟩
  have e := r.length
  simp only [Array.length_toList] at e
  omega
theorem Inv.list_inj (I : Inv X pins σ H s) (h : SqL X.K H a xs) (h' : SqL X.K H a ys) : xs = ys := by
 obtain ⟨its, r, ⟨o, n, e, _, _, d⟩, _⟩ := I.list h
 obtain ⟨its', r', ⟨o', n', e', _, _, d'⟩, _⟩ := I.list h'
 rw [e] at e'; cases e'
 rw [d] at d'
 injection d' with d1 _
 have : its = its' := by simpa using congrArg Array.toList d1
 subst this
 exact r.inj r'
theorem Inv.tuple_inj (I : Inv X pins σ H s) (h : SqT X.K H a xs) (h' : SqT X.K H a ys) : xs = ys := by
 obtain ⟨its, r, ⟨o, e, _, n, d⟩, _⟩ := I.tuple h
 obtain ⟨its', r', ⟨o', e', _, n', d'⟩, _⟩ := I.tuple h'
 rw [e] at e'; cases e'
 rw [d] at d'
 injection d' with d1 _
 have : its = its' := by simpa using congrArg Array.toList d1
 subst this
 exact r.inj r'
end
abbrev Cx.wish (X : Cx) (E : Value → Shared → Prop) : Cx := { X with xe := E }
abbrev Cx.nox (X : Cx) : Cx := X.wish fun _ _ => False
theorem Cx.Ok.wish {X : Cx} (ok : X.Ok) (E : Value → Shared → Prop) : (X.wish E).Ok :=
 ⟨ok.mod, ok.kind, ok.glob, ok.blt, ok.above, ok.inj, ok.has, ok.cab, ok.hd, ok.frames, ok.stk, ok.exf, ok.bs, ok.bsz, ok.noex, ok.exfs, ok.funs, ok.frf⟩
theorem Cx.Ok.unwish {X : Cx} {E : Value → Shared → Prop} (ok : (X.wish E).Ok) : X.Ok :=
 ⟨ok.mod, ok.kind, ok.glob, ok.blt, ok.above, ok.inj, ok.has, ok.cab, ok.hd, ok.frames, ok.stk, ok.exf, ok.bs, ok.bsz, ok.noex, ok.exfs, ok.funs, ok.frf⟩
section
variable {X : Cx} {pins : List (Addr × Obj)} {σ : St} {H : Hp} {s : Shared} {E : Value → Shared → Prop}
theorem Inv.wish (I : Inv X pins σ H s) (E : Value → Shared → Prop) : Inv (X.wish E) pins σ H s := ⟨I.ok.wish E, I.os, I.bare, I.base, I.loc, I.cell, I.free, I.freeC, I.pin, I.hok, I.len⟩
theorem Inv.unwish (I : Inv (X.wish E) pins σ H s) : Inv X pins σ H s := ⟨I.ok.unwish, I.os, I.bare, I.base, I.loc, I.cell, I.free, I.freeC, I.pin, I.hok, I.len⟩
theorem SP.unwish {D : Ends} {f : Flow} {s' : Shared} (h : SP (X.wish E) pins D f s') : SP X pins D f s' := by
 cases f with
 | next => obtain ⟨σ', H', I, q⟩ := h; exact ⟨σ', H', I.unwish, q⟩
 | brk => obtain ⟨σ', H', I, q⟩ := h; exact ⟨σ', H', I.unwish, q⟩
 | cont => obtain ⟨σ', H', I, q⟩ := h; exact ⟨σ', H', I.unwish, q⟩
 | ret u => obtain ⟨v, σ', H', I, r, q⟩ := h; exact ⟨v, σ', H', I.unwish, r, q⟩
theorem PSs.nox {st : List Stmt} {t : TS} (h : PSs X.nox st t) : PSs X st t := fun pins s σ H D I hw =>
 wpAny_mono (h pins s σ H D (I.wish _) hw) (fun _ _ q => q.unwish) fun _ _ z => False.elim z
end
section
variable {X : Cx} {st : Stmt} {rest : List Stmt} {t u : TS} {e : Expr} {te : TE} {pos : Pos}
def tNext : TS := fun D σ H => D.nx σ H
def tSeq (t u : TS) : TS := fun D σ H => t { D with nx := u D } σ H
theorem pss_nil : PSs X [] tNext := fun _ _ σ H _ I h => wpAny_execs_nil ⟨σ, H, I, h⟩
theorem pss_cons (h1 : PS X st t) (h2 : PSs X rest u) : PSs X (st :: rest) (tSeq t u) := by
 intro pins s σ H D I h
 refine wpAny_execs_cons (thn (h1 pins s σ H { D with nx := u D } I h) fun f s1 q => ?_)
 cases f with
 | next =>
  obtain ⟨σ', H', I', q⟩ := q
  exact h2 pins s1 σ' H' D I' q
 | ret v => exact q
 | brk => exact q
 | cont => exact q
def tBreak : TS := fun D σ H => D.bk σ H
def tCont : TS := fun D σ H => D.ct σ H
theorem ps_pass : PS X (.Pass pos) tNext := fun _ _ σ H _ I h => wpAny_Pass ⟨σ, H, I, h⟩
theorem ps_break : PS X (.Break pos) tBreak := fun _ _ σ H _ I h => wpAny_Break ⟨σ, H, I, h⟩
theorem ps_continue : PS X (.Continue pos) tCont := fun _ _ σ H _ I h => wpAny_Continue ⟨σ, H, I, h⟩
theorem Inv.quiet {pins : List (Addr × Obj)} {σ : St} {H : Hp} {s : Shared} (I : Inv X pins σ H s) : interactive X.env = false := by simp [interactive, I.ok.kind]
def tDrop (te : TE) : TS := fun D σ H => te σ H fun _ H1 => D.nx σ H1
theorem ps_expr (he : PE X e te) (hs : swapsWith e none pos.line X.env = pure false := by rfl) : PS X (.Expr e pos) (tDrop te) := by
 intro pins s σ H D I h
 exact wpAny_Expr_any (thn (he pins s σ H _ I h) fun v s1 ⟨x, H1, I1, r1, q1⟩ => ⟨σ, H1, I1, q1⟩) I.quiet hs
def tRet (te : TE) : TS := fun D σ H => te σ H D.rt
theorem ps_ret (he : PE X e te) : PS X (.Return (some e) pos) (tRet te) := by
 intro pins s σ H D I h
 exact wpAny_Return_some (thn (he pins s σ H _ I h) fun v s1 ⟨x, H1, I1, r1, q1⟩ => ⟨x, σ, H1, I1, r1, q1⟩)
def tRetN : TS := fun D _ H => D.rt .non H
theorem ps_retN : PS X (.Return none pos) tRetN := fun _ _ σ H _ I h => wpAny_Return_none ⟨.non, σ, H, I, rfl, h⟩
def tIfS (c : TT) (t u : TS) : TS := fun D σ H => c σ H fun b H1 => if b = true then t D σ H1 else u D σ H1
theorem ps_if {c : Expr} {a b : List Stmt} {tc : TT} (hc : PT X c tc) (ha : PSs X a t) (hb : PSs X b u) : PS X (.If c a b pos) (tIfS tc t u) := by
 intro pins s σ H D I h
 refine wpAny_If (thn (hc pins s σ H _ I h) fun d s1 ⟨H1, I1, q1⟩ => ?_)
 cases d with
 | true => exact ha pins s1 σ H1 D I1 q1
 | false => exact hb pins s1 σ H1 D I1 q1
end
abbrev TG := V → St → Hp → (St → Hp → Prop) → Prop
abbrev TGs := List V → St → Hp → (St → Hp → Prop) → Prop
def PG (X : Cx) (target : Expr) (t : TG) : Prop :=
 ∀ (pins : List (Addr × Obj)) (s : Shared) (σ : St) (H : Hp) (v : V) (u : Value) (Q : St → Hp → Prop), Inv X pins σ H s → RelV v u → t v σ H Q →
  wpAny (model X.prog X.w) X.A (assign target X.env u) (fun _ s' => ∃ σ' H', Inv X pins σ' H' s' ∧ Q σ' H') X.xe s
def PGs (X : Cx) (ts : List Expr) (t : TGs) : Prop :=
 ∀ (pins : List (Addr × Obj)) (s : Shared) (σ : St) (H : Hp) (vs : List V) (us : List Value) (Q : St → Hp → Prop), Inv X pins σ H s → Vals vs us → t vs σ H Q →
  wpAny (model X.prog X.w) X.A (assignInOrder ((assignEach ts X.env).map (·.2)) us) (fun _ s' => ∃ σ' H', Inv X pins σ' H' s' ∧ Q σ' H') X.xe s
abbrev TSet := V → V → V → Hp → (Hp → Prop) → Prop
def PSet (X : Cx) (t : TSet) : Prop :=
 ∀ (pins : List (Addr × Obj)) (s : Shared) (σ : St) (H : Hp) (o i v : V) (ov iv u : Value) (Q : Hp → Prop), Inv X pins σ H s → RelV o ov → RelV i iv → RelV v u → t o i v H Q →
  wpAny (model X.prog X.w) X.A (setItem ov iv u) (fun _ s' => ∃ H', Inv X pins σ H' s' ∧ Q H') X.xe s
section
variable {X : Cx} {pos : Pos}
def gName (i : Nat) : TG := fun v σ H Q => Q (σ.set i (some v)) H
theorem pg_name {i : Nat} {x : Str} (hN : X.N.Nodup) (hi : X.N[i]? = some x) (hx : Loc X.env.scope x) (hf : X.fn x = true ∨ X.env.scope.names.lookup x = some .local := by first | exact .inl rfl | exact .inr rfl | assumption) : PG X (.Name x pos) (gName i) := by
 intro pins s σ H v u Q I r h
 exact wpAny_assign_Name (store_ok I hN hi hx r (fun s' I' => ⟨_, H, I', h⟩) hf)
def gNil : TGs := fun vs σ H Q => vs = [] ∧ Q σ H
def gCons (t : TG) (u : TGs) : TGs := fun vs σ H Q => ∃ v r, vs = v :: r ∧ t v σ H fun σ' H' => u r σ' H' Q
theorem pgs_nil : PGs X [] gNil := by
 intro pins s σ H vs us Q I r h
 obtain ⟨e, h⟩ := h
 subst e
 cases r
 exact assignInOrder_nil ⟨σ, H, I, h⟩
theorem pgs_cons {e : Expr} {es : List Expr} {t : TG} {u : TGs} (h1 : PG X e t) (h2 : PGs X es u)
  (hs : (assignEach (e :: es) X.env).map (·.2) = assign e X.env :: (assignEach es X.env).map (·.2) := by rfl) : PGs X (e :: es) (gCons t u) := by
 intro pins s σ H vs us Q I r h
 obtain ⟨v, vr, e1, h⟩ := h
 subst e1
 cases r with
 | cons r rr =>
  rw [hs]
  refine assignInOrder_cons (thn (h1 pins s σ H _ _ _ I r h) fun _ s1 ⟨σ1, H1, I1, q1⟩ => ?_)
  exact h2 pins s1 σ1 H1 _ _ Q I1 rr q1
def gTup (K : PySem.W.Frag) (n : Nat) (t : TGs) : TG := fun v σ H Q => ∃ a xs, v = .ref a ∧ SqT K H a xs ∧ xs.length = n ∧ t xs σ H Q
theorem pg_tup {es : List Expr} {k : Nat} {t : TGs} {n : Nat} (hc : X.calm = true) (h : PGs X es t)
  (hn : (assignEach es X.env).length = n := by rfl) (hst : (assignEach es X.env).findIdx? (·.1) = none := by rfl) : PG X (.Tuple es k pos) (gTup X.K n t) := by
 intro pins s σ H v u Q I r hw
 obtain ⟨a, xs, e1, hq, hl, hw⟩ := hw
 subst e1
 cases r
 obtain ⟨its, rv, ht, hz⟩ := I.tuple hq
 refine assign_Tuple_tuple (I.ok.hd hc) ht (by simp [hn, ← hl, rv.length]) hst fun h' hx => ?_
 have I1 : Inv X pins σ H { s with heap := h' } := I.kept (t' := s.toks) fun b o e => hx b o (Nat.ne_of_lt (Heap.lt_size e)) e
 exact h pins _ σ H xs _ Q I1 (by simpa using rv) hw
def gSub (to ti : TE) (t : TSet) : TG := fun v σ H Q => to σ H fun o H1 => ti σ H1 fun i H2 => t o i v H2 fun H3 => Q σ H3
theorem pg_sub {o i : Expr} {to ti : TE} {t : TSet} (ho : PE X o to) (hi : PE X i ti) (hs : PSet X t)
  (ha : ∀ v, assign (.Subscript o i pos) X.env v = (do
   let ov ← holding [v] (eval o X.env)
   let iv ← holding [v, ov] (eval i X.env)
   standAt pos
   holding [v, ov, iv] (setItem ov iv v)
   release [v, ov, iv] []) := by intro _; rfl) : PG X (.Subscript o i pos) (gSub to ti t) := by
 intro pins s σ H v u Q I r h
 rw [ha]
 refine wpAny_bind (wpAny_holding (thn (ho pins s σ H _ I h) fun ov s1 ⟨x, H1, I1, r1, q1⟩ => ?_))
 refine wpAny_bind (wpAny_holding (thn (hi pins s1 σ H1 _ I1 q1) fun iv s2 ⟨y, H2, I2, r2, q2⟩ => ?_))
 refine wpAny_bind (wpAny_standAt (wpAny_bind (wpAny_holding (thn (hs pins s2 σ H2 x y v ov iv u _ I2 r1 r2 r q2) fun _ s3 ⟨H3, I3, q3⟩ => ?_))))
 exact wpAny_release ⟨σ, H3, I3, q3⟩
def tAsg (te : TE) (g : TG) : TS := fun D σ H => te σ H fun x H1 => g x σ H1 D.nx
theorem ps_asg {tg e : Expr} {te : TE} {g : TG} (he : PE X e te) (hg : PG X tg g) (hs : swapsWithSole [tg] e pos.line X.env = pure false := by rfl) (hw : swappedStores [tg] e X.env = pure none := by rfl)
  (h1 : (assignEach [tg] X.env).map (·.2) = [assign tg X.env] := by rfl) : PS X (.Assign [tg] e pos) (tAsg te g) := by
 intro pins s σ H D I h
 refine wpAny_Assign_stores (thn (he pins s σ H _ I h) fun v s1 ⟨x, H1, I1, r1, q1⟩ => ?_) hs hw
 rw [h1]
 exact thn (hg pins s1 σ H1 x v _ I1 r1 q1) fun _ s2 q => q
theorem ps_set {i : Nat} {x : Str} {e : Expr} {te : TE} {pos' : Pos} (hN : X.N.Nodup) (hi : X.N[i]? = some x) (hx : Loc X.env.scope x) (he : PE X e te) (hs : swapsWith e (some (.Name x pos')) pos.line X.env = pure false := by rfl) (hf : X.fn x = true ∨ X.env.scope.names.lookup x = some .local := by first | exact .inl rfl | exact .inr rfl | assumption) :
  PS X (.Assign [.Name x pos'] e pos) (tAsg te (gName i)) := by
 intro pins s σ H D I h
 refine wpAny_Assign_Name (thn (he pins s σ H _ I h) fun v s1 ⟨y, H1, I1, r1, q1⟩ => ?_) hs
 exact store_ok I1 hN hi hx r1 (fun s2 I2 => ⟨_, H1, I2, q1⟩) hf
end
section
variable {X : Cx} {pos : Pos}
end
structure It where
 go : Nat → Hp → Prop
 yld : Nat → Hp → V → Hp → Prop
 stop : Nat → Hp → Prop
def FpOk (X : Cx) (pins : List (Addr × Obj)) (H : Hp) (b : Addr) : Prop :=
 H b = none ∧ b ≠ X.env.locals ∧ b ∉ X.fs ∧ (b ∈ X.ex ∨ X.s₀.heap.objs.size ≤ b) ∧ (∀ x c, X.env.cells.lookup x = some c → c ≠ b) ∧ ∀ p ∈ X.pn ++ pins, p.1 ≠ b
theorem Inv.fpOk {X : Cx} {pins : List (Addr × Obj)} {σ : St} {H H' : Hp} {s : Shared} {b : Addr} (I : Inv X pins σ H s) (hb : s.heap.objs.size ≤ b) (hn : H' b = none) : FpOk X pins H' b := by
 refine ⟨hn, Nat.ne_of_gt (Nat.lt_of_lt_of_le I.lt hb), I.nofs hb, .inr (Nat.le_trans I.sz hb), fun x c e z => ?_, fun p hp z => ?_⟩
 ·obtain ⟨v, q⟩ := I.cell x c e
  exact absurd (Nat.lt_of_lt_of_le q.lt (by rw [z]; exact hb)) (Nat.lt_irrefl _)
 ·exact absurd (Nat.lt_of_lt_of_le (Heap.lt_size (I.pin p hp).1) (by rw [z]; exact hb)) (Nat.lt_irrefl _)
structure Turn (P : Program) (w : World) (K : PySem.W.Frag) (tg : Expr) (J : It) (fp : List Addr) (it : Addr) (tn : Nat → Heap → Prop) : Prop where
 mem : it ∈ fp
 obj : ∀ i h, tn i h → ∀ b ∈ fp, ∃ o, h.get? b = some o ∧ ∀ v, o.data ≠ .cell v
 keep : ∀ i h h', tn i h → (∀ b ∈ fp, ∀ o, h.get? b = some o → h'.get? b = some o) → tn i h'
 item : ∀ (X : Cx), X.prog = P → X.w = w → X.K = K → X.calm = true → ∀ (i : Nat) (pins : List (Addr × Obj)) (s : Shared) (σ : St) (H : Hp) (E : Value → Shared → Prop), Inv X pins σ H s → (∀ b ∈ fp, FpOk X pins H b) → tn i s.heap → J.go i H →
  wpAny (model P w) X.A (pyNext (.ref it)) (fun r s1 => ∃ u, r = some u ∧
   wpAny (model P w) X.A (letOwnedTupleGo tg (.ref it) u) (fun _ s2 => ∃ x H', Inv X pins σ H' s2 ∧ RelV x u ∧ J.yld i H x H' ∧ tn (i + 1) s2.heap ∧ ∀ b ∈ fp, H' b = none) E s1) E s
 done : ∀ (X : Cx), X.prog = P → X.w = w → X.K = K → X.calm = true → ∀ (i : Nat) (pins : List (Addr × Obj)) (s : Shared) (σ : St) (H : Hp) (E : Value → Shared → Prop), Inv X pins σ H s → (∀ b ∈ fp, FpOk X pins H b) → tn i s.heap → J.stop i H →
  wpAny (model P w) X.A (pyNext (.ref it)) (fun r s1 => r = none ∧ Inv X pins σ H s1) E s
 self : ∀ (A : Around) (i : Nat) (s : Shared) (Q : Value → Shared → Prop) (E : Value → Shared → Prop), tn i s.heap → Q (.ref it) s → wpAny (model P w) A (pyIter (.ref it)) Q E s
abbrev TI := St → Hp → (It → Hp → Prop) → Prop
def PIE (X : Cx) (pins : List (Addr × Obj)) (σ : St) (tg : Expr) (R : It → Hp → Prop) (itv : Value) (s2 : Shared) : Prop :=
 ∃ (it : Addr) (fp : List Addr) (tn : Nat → Heap → Prop) (J : It) (H' : Hp), itv = .ref it ∧ Inv X pins σ H' s2 ∧ Turn X.prog X.w X.K tg J fp it tn ∧ tn 0 s2.heap ∧ (∀ b ∈ fp, FpOk X pins H' b) ∧ R J H'
def PI (X : Cx) (tg iter : Expr) (wi : TI) : Prop :=
 ∀ (pins : List (Addr × Obj)) (s : Shared) (σ : St) (H : Hp) (R : It → Hp → Prop), Inv X pins σ H s → wi σ H R →
  wpAny (model X.prog X.w) X.A (eval iter X.env) (fun v s1 => wpAny (model X.prog X.w) X.A (pyIter v) (PIE X pins σ tg R) X.xe s1) X.xe s
theorem go_of {M : Model} {A : Around} {E : Value → Shared → Prop} {s : Shared} {tg : Expr} {it : Addr} {u : Value} {o : Obj} {n : String} {vs : Array Value} {Q : Unit → Shared → Prop} (ho : s.heap.get? it = some o) (hc : o.cls = .type n) (hd : o.data = .fields vs)
    (hn : ["enumerate", "zip", "dict_itemiterator", "dict_reverseitemiterator", "odict_iterator", "itertools.zip_longest", "itertools.pairwise"].contains n = false) (hQ : Q () s) : wpAny M A (letOwnedTupleGo tg (.ref it) u) Q E s := by
  unfold letOwnedTupleGo
  cases tg <;> first
    | exact wpAny_pure hQ
    | (cases u <;> first
        | exact wpAny_pure hQ
        | (refine wpAny_bind (wpAny_load ho ?_)
           rw [hc, hd]
           show wpAny M A (if (["enumerate", "zip", "dict_itemiterator", "dict_reverseitemiterator", "odict_iterator", "itertools.zip_longest", "itertools.pairwise"].contains n && vs[0]? == some (rawInt _)) = true then _ else _) Q E s
           rw [if_neg (by intro h; rw [hn, Bool.false_and] at h; cases h)]
           exact wpAny_pure hQ))
def Itl (K : PySem.W.Frag) (a : Addr) : It :=
 ⟨fun i H => ∃ xs x, SqL K H a xs ∧ xs[i]? = some x, fun i H x H' => H' = H ∧ ∀ xs, SqL K H a xs → xs[i]? = some x, fun i H => ∃ xs, SqL K H a xs ∧ xs.length ≤ i⟩
def Itt (K : PySem.W.Frag) (a : Addr) : It :=
 ⟨fun i H => ∃ xs x, SqT K H a xs ∧ xs[i]? = some x, fun i H x H' => H' = H ∧ ∀ xs, SqT K H a xs → xs[i]? = some x, fun i H => ∃ xs, SqT K H a xs ∧ xs.length ≤ i⟩
def Itr (lo : Int) (n : Nat) : It := ⟨fun i _ => i < n, fun i H x H' => H' = H ∧ x = .int (lo + i), fun i _ => n ≤ i⟩
theorem turn_list {P : Program} {w : World} {K : PySem.W.Frag} {tg : Expr} (a it : Addr) : Turn P w K tg (Itl K a) [it] it (fun i h => h.IsListIter it a i) where
 mem := by simp
 obj := fun i h st b hb => by
  have e : b = it := by simpa using hb
  subst e
  obtain ⟨o, e, c, d⟩ := st
  exact ⟨o, e, fun v z => by rw [d] at z; cases z⟩
 keep := fun i h h' st k => st.at fun o e => k it (by simp) o e
 item := by
  intro X hP hw hK hc i pins s σ H E I hf st hg
  subst hP hw hK
  obtain ⟨xs, x, hq, hx⟩ := hg
  obtain ⟨its, rv, p, hz⟩ := I.list hq
  obtain ⟨u, hu, ru⟩ := rv.get hx
  obtain ⟨f0, f1, f2, f3, f4, f5⟩ := hf it (by simp)
  refine wpAny_pyNext_list_item st p.isList (x := u) (by simpa using hu) fun h' st' sb => ?_
  have I1 : Inv X pins σ H { s with heap := h' } := I.turned (t' := s.toks) (fun b o hb e => (sb.2 b hb).trans e) f0 f1 f3 f4 f5
  obtain ⟨o, e, c, d⟩ := id st'
  exact ⟨u, rfl, go_of (s := { s with heap := h' }) e c d (by decide) ⟨x, H, I1, ru, ⟨rfl, fun ys hy => by rw [I.list_inj hy hq]; exact hx⟩, st', fun b hb => (hf b hb).1⟩⟩
 done := by
  intro X hP hw hK hc i pins s σ H E I hf st hg
  subst hP hw hK
  obtain ⟨xs, hq, hx⟩ := hg
  obtain ⟨its, rv, p, hz⟩ := I.list hq
  obtain ⟨f0, f1, f2, f3, f4, f5⟩ := hf it (by simp)
  have hl := rv.length
  exact wpAny_pyNext_list_end (I.ok.hd hc) st p.isList (by simp; omega) fun h' eb => ⟨rfl, I.turned (t' := s.toks) (fun b o hb e => eb b o hb e) f0 f1 f3 f4 f5⟩
 self := fun _ _ _ _ _ st h => wpAny_pyIter_listiter st h
theorem turn_tuple {P : Program} {w : World} {K : PySem.W.Frag} {tg : Expr} (a it : Addr) : Turn P w K tg (Itt K a) [it] it (fun i h => h.IsTupleIter it a i) where
 mem := by simp
 obj := fun i h st b hb => by
  have e : b = it := by simpa using hb
  subst e
  obtain ⟨o, e, c, d⟩ := st
  exact ⟨o, e, fun v z => by rw [d] at z; cases z⟩
 keep := fun i h h' st k => st.at fun o e => k it (by simp) o e
 item := by
  intro X hP hw hK hc i pins s σ H E I hf st hg
  subst hP hw hK
  obtain ⟨xs, x, hq, hx⟩ := hg
  obtain ⟨its, rv, p, hz⟩ := I.tuple hq
  obtain ⟨u, hu, ru⟩ := rv.get hx
  obtain ⟨f0, f1, f2, f3, f4, f5⟩ := hf it (by simp)
  refine wpAny_pyNext_tuple_item st (show s.heap.IsTuple a its.toArray from p) (x := u) (by simpa using hu) fun h' st' sb => ?_
  have I1 : Inv X pins σ H { s with heap := h' } := I.turned (t' := s.toks) (fun b o hb e => (sb.2 b hb).trans e) f0 f1 f3 f4 f5
  obtain ⟨o, e, c, d⟩ := id st'
  exact ⟨u, rfl, go_of (s := { s with heap := h' }) e c d (by decide) ⟨x, H, I1, ru, ⟨rfl, fun ys hy => by rw [I.tuple_inj hy hq]; exact hx⟩, st', fun b hb => (hf b hb).1⟩⟩
 done := by
  intro X hP hw hK hc i pins s σ H E I hf st hg
  subst hP hw hK
  obtain ⟨xs, hq, hx⟩ := hg
  obtain ⟨its, rv, p, hz⟩ := I.tuple hq
  obtain ⟨f0, f1, f2, f3, f4, f5⟩ := hf it (by simp)
  have hl := rv.length
  exact wpAny_pyNext_tuple_end (I.ok.hd hc) st (show s.heap.IsTuple a its.toArray from p) (by simp; omega) fun h' eb => ⟨rfl, I.turned (t' := s.toks) (fun b o hb e => eb b o hb e) f0 f1 f3 f4 f5⟩
 self := fun _ _ _ _ _ st h => wpAny_pyIter_tupleiter st h
theorem turn_range {P : Program} {w : World} {K : PySem.W.Frag} {tg : Expr} (it : Addr) (lo : Int) (n : Nat) : Turn P w K tg (Itr lo n) [it] it (fun i h => IsRangeIter h it (lo + (i : Nat) * 1) ((n : Int) - (i : Nat)) 1) where
 mem := by simp
 obj := fun i h st b hb => by
  have e : b = it := by simpa using hb
  subst e
  exact ⟨_, st, fun v z => by
   have z' : Data.fields _ = Data.cell v := z
   cases z'⟩
 keep := fun i h h' st k => k it (by simp) _ st
 item := by
  intro X hP hw hK hc i pins s σ H E I hf st hg
  subst hP hw hK
  obtain ⟨f0, f1, f2, f3, f4, f5⟩ := hf it (by simp)
  have W := Walks.range (prog := X.prog) (w := X.w) (I.ok.hd hc) it lo 1 n
  refine W.item i s _ _ hg st fun v h' tk hv st' kk => ?_
  obtain ⟨t, rfl⟩ := hv
  have I1 : Inv X pins σ H { s with heap := h', toks := tk } := I.turned (fun b o hb e => kk b o (by simpa using hb) e) f0 f1 f3 f4 f5
  refine ⟨_, rfl, go_of (s := { s with heap := h', toks := tk }) (n := "range_iterator") st' rfl rfl (by decide) ⟨.int (lo + i), H, I1, ⟨t, ?_⟩, ⟨rfl, rfl⟩, st', fun b hb => (hf b hb).1⟩⟩
  rw [Int.mul_one]
 done := by
  intro X hP hw hK hc i pins s σ H E I hf st hg
  subst hP hw hK
  obtain ⟨f0, f1, f2, f3, f4, f5⟩ := hf it (by simp)
  exact wpAny_pyNext_range_end (I.ok.hd hc) st (by have : n ≤ i := hg; omega) fun h' eb => ⟨rfl, I.turned (t' := s.toks) (fun b o hb e => eb b o hb e) f0 f1 f3 f4 f5⟩
 self := fun _ _ _ _ _ st h => wpAny_pyIter_rangeiter st h
end L2
namespace L2
open PySem PySem.Spec PyProof.Rows
section
variable {X : Cx} {tg : Expr}
theorem range_it {pins : List (Addr × Obj)} {σ : St} {H : Hp} {s : Shared} {R : It → Hp → Prop} {E : Value → Shared → Prop} {lo hi : Int} {t u v : Tok} {tk : Nat} (I : Inv X pins σ H s) (h1 : -(2 ^ 62) ≤ lo) (h2 : lo < 2 ^ 62) (h3 : -(2 ^ 62) ≤ hi) (h4 : hi < 2 ^ 62)
  (q : R (Itr lo (hi - lo).toNat) H) : wpAny (model X.prog X.w) X.A (pyIter (.ref s.heap.objs.size)) (PIE X pins σ tg R) E { s with heap := s.heap.push { cls := .type "range", data := .fields #[.int lo t, .int hi u, .int 1 v] }, toks := tk } := by
 refine wpAny_pyIter_range (IsRange.new ..) (small_one h1 h2 h3 h4) ?_
 have I1 : Inv X pins σ H { s with heap := s.heap.push { cls := .type "range", data := .fields #[.int lo t, .int hi u, .int 1 v] }, toks := tk } := I.kept fun b o e => Heap.get?_push_of_some _ e
 refine ⟨(s.heap.push { cls := .type "range", data := .fields #[.int lo t, .int hi u, .int 1 v] }).objs.size, [(s.heap.push { cls := .type "range", data := .fields #[.int lo t, .int hi u, .int 1 v] }).objs.size], _, _, H, rfl,
  I1.kept (t' := tk) fun b o e => Heap.get?_push_of_some _ e, turn_range _ lo (hi - lo).toNat, ?_, fun b hb => ?_, q⟩
 ·have e1 : lo + ((0 : Nat) : Int) * 1 = lo := by simp
  have e2 : (((hi - lo).toNat : Nat) : Int) - ((0 : Nat) : Int) = Builtin.Range.rangeSize lo hi 1 := by rw [rangeSize_one]; split <;> omega
  show IsRangeIter _ _ (lo + ((0 : Nat) : Int) * 1) ((((hi - lo).toNat : Nat) : Int) - ((0 : Nat) : Int)) 1
  rw [e1, e2]
  exact Heap.get?_push_size _ rfl
 ·have e : b = (s.heap.push { cls := .type "range", data := .fields #[.int lo t, .int hi u, .int 1 v] }).objs.size := by simpa using hb
  subst e
  exact I1.fpOk (Nat.le_refl _) (I1.hok.fresh (Nat.le_refl _))
def iRng1 (ta : TA) : TI := fun σ H R => ta σ H fun vs H1 => ∃ j : Int, vs = [.int j] ∧ -(2 ^ 62) ≤ j ∧ j < 2 ^ 62 ∧ R (Itr 0 j.toNat) H1
def iRng2 (ta : TA) : TI := fun σ H R => ta σ H fun vs H1 => ∃ i j : Int, vs = [.int i, .int j] ∧ (-(2 ^ 62) ≤ i ∧ i < 2 ^ 62 ∧ -(2 ^ 62) ≤ j ∧ j < 2 ^ 62) ∧ R (Itr i (j - i).toNat) H1
theorem pi_range1 {a : Expr} {ta : TA} {p pos : Pos} (hg : Gl X "range") (hm : X.mg "range" = none) (ha : PA X [a] ta) (hs : starEach [a] X.env = [(false, eval a X.env)] := by rfl) : PI X tg (.Call (.Name "range" p) [a] [] pos) (iRng1 ta) := by
 intro pins s σ H R I h
 refine Call_ (ld_blt I hg hm boot_range (PyProof.Rows.callWith_type1 (thn (ha pos pins s σ H _ I h) fun us s1 ⟨vs, H1, I1, r1, q1⟩ => ?_) hs rfl))
 obtain ⟨j, e, q1, q2, q⟩ := q1
 subst e
 cases r1 with
 | cons r rr =>
  cases rr
  obtain ⟨t, rfl⟩ := r
  exact call_range_1 (range_it I1 (by omega) (by omega) q1 q2 (by simpa using q))
theorem pi_range2 {a b : Expr} {ta : TA} {p pos : Pos} (hg : Gl X "range") (hm : X.mg "range" = none) (ha : PA X [a, b] ta) (hs : starEach [a, b] X.env = [(false, eval a X.env), (false, eval b X.env)] := by rfl) (hs2 : starEach [b] X.env = [(false, eval b X.env)] := by rfl) :
  PI X tg (.Call (.Name "range" p) [a, b] [] pos) (iRng2 ta) := by
 intro pins s σ H R I h
 refine Call_ (ld_blt I hg hm boot_range (PyProof.Rows.callWith_type1 (thn (ha pos pins s σ H _ I h) fun us s1 ⟨vs, H1, I1, r1, q1⟩ => ?_) (by rw [hs, hs2]) (by rw [hs2]; rfl)))
 obtain ⟨i, j, e, ⟨q1, q2, q3, q4⟩, q⟩ := q1
 subst e
 cases r1 with
 | cons r rr =>
  cases rr with
  | cons r' rr =>
   cases rr
   obtain ⟨t, rfl⟩ := r
   obtain ⟨t', rfl⟩ := r'
   exact call_range_2 (range_it I1 q1 q2 q3 q4 q)
def tFor (wi : TI) (g : TG) (tb : TS) : TS := fun D σ H => wi σ H fun J H1 => ∃ W : Nat → Nat → St → Hp → Prop, (∃ m, W 0 m σ H1) ∧ ∀ i m σ H, W i m σ H →
 (J.stop i H ∧ D.nx σ H) ∨ (J.go i H ∧ ∃ N : St → Hp → Prop, (∀ σ' H', N σ' H' → ∃ m', m' < m ∧ W (i + 1) m' σ' H') ∧ ∀ x H', J.yld i H x H' → g x σ H' fun σ2 H2 => tb { D with nx := N, ct := N, bk := D.nx } σ2 H2)
def pinsAt (fp : List Addr) (h : Heap) : List (Addr × Obj) := fp.filterMap fun b => (h.get? b).map fun o => (b, o)
theorem mem_pinsAt {fp : List Addr} {h : Heap} {b : Addr} {o : Obj} (hb : b ∈ fp) (e : h.get? b = some o) : (b, o) ∈ pinsAt fp h := List.mem_filterMap.mpr ⟨b, hb, by rw [e]; rfl⟩
theorem of_pinsAt {fp : List Addr} {h : Heap} {p : Addr × Obj} (hp : p ∈ pinsAt fp h) : p.1 ∈ fp ∧ h.get? p.1 = some p.2 := by
 obtain ⟨b, hb, e⟩ := List.mem_filterMap.mp hp
 cases q : h.get? b with
 | none => rw [q] at e; cases e
 | some o =>
  rw [q] at e
  have e' : (b, o) = p := Option.some.inj e
  subst e'
  exact ⟨hb, q⟩
theorem Inv.pinned {pins : List (Addr × Obj)} {σ : St} {H : Hp} {s : Shared} {fp : List Addr} (I : Inv X pins σ H s) (hf : ∀ b ∈ fp, FpOk X pins H b) (ho : ∀ b ∈ fp, ∃ o, s.heap.get? b = some o ∧ ∀ v, o.data ≠ .cell v) : Inv X (pins ++ pinsAt fp s.heap) σ H s :=
 I.pins_of fun p hp => (List.mem_append.mp hp).elim (fun z => I.pin p (List.mem_append_right _ z)) fun z => by
  obtain ⟨hb, e⟩ := of_pinsAt z
  obtain ⟨f0, f1, f2, _⟩ := hf p.1 hb
  obtain ⟨o, e', d⟩ := ho p.1 hb
  rw [e] at e'; cases e'
  exact ⟨e, f0, f1, f2, d⟩
theorem Inv.unpinned {pins pl : List (Addr × Obj)} {σ : St} {H : Hp} {s : Shared} (I : Inv X (pins ++ pl) σ H s) : Inv X pins σ H s := I.pins_of fun p hp => I.pin p (List.mem_append_right _ (List.mem_append_left _ hp))
theorem ps_for {iter : Expr} {body : List Stmt} {wi : TI} {g : TG} {tb : TS} {pos : Pos} (hp : PassesOwn (model X.prog X.w) X.A X.env X.xe) (hc : X.calm = true) (hi : PI X tg iter wi) (hg : PG X tg g) (hb : PSs X body tb)
  (hs : ∀ x, foldedSetIterable iter X.env x = pure x := by intro _; rfl) : PS X (.For tg iter body [] pos) (tFor wi g tb) := by
 intro pins s σ H D I h
 refine wpAny_For (thn (hi pins s σ H _ I h) fun v s1 h1 => thn h1 fun itv s2 h2 => ?_) hs
 obtain ⟨it, fp, tn, J, H2, e, I2, T, st2, f2, W, ⟨m0, w0⟩, turn⟩ := h2
 subst e
 have stat : ∀ {H' : Hp}, (∀ b ∈ fp, H' b = none) → ∀ b ∈ fp, FpOk X pins H' b := fun hn b hb => ⟨hn b hb, (f2 b hb).2⟩
 refine codeAny_forLoop_any (fun n s' => ∃ i σ' H', Inv X pins σ' H' s' ∧ tn i s'.heap ∧ (∀ b ∈ fp, H' b = none) ∧ W i n σ' H') ?_ m0 ⟨0, σ, H2, I2, st2, fun b hb => (f2 b hb).1, w0⟩
 rintro n s3 ⟨i, σ3, H3, I3, st3, fr3, w3⟩
 rcases turn i n σ3 H3 w3 with ⟨stop, qn⟩ | ⟨go, N, hN, step⟩
 ·refine wpAny_passesOwn hp (thn (T.done X rfl rfl rfl hc i pins s3 σ3 H3 X.xe I3 (stat fr3) st3 stop) fun r s4 ⟨hr, I4⟩ => ?_)
  subst hr
  exact wpAny_execs_nil ⟨σ3, H3, I4, qn⟩
 ·refine wpAny_passesOwn hp (thn (T.item X rfl rfl rfl hc i pins s3 σ3 H3 X.xe I3 (stat fr3) st3 go) fun r s4 ⟨u, hr, h4⟩ => ?_)
  subst hr
  refine wpAny_passesOwn hp (thn h4 fun _ s5 ⟨x, H5, I5, r5, y5, st5, fr5⟩ => ?_)
  have I5' := I5.pinned (stat fr5) (T.obj _ _ st5)
  refine wpAny_passesOwn hp (thn (hg _ s5 σ3 H5 x u _ I5' r5 (step x H5 y5)) fun _ s6 ⟨σ6, H6, I6, q6⟩ => ?_)
  refine wpAny_passesOwn hp (thn (hb _ s6 σ6 H6 _ I6 q6) fun f s7 q7 => ?_)
  have again : ∀ {σ7 : St} {H7 : Hp}, Inv X (pins ++ pinsAt fp s5.heap) σ7 H7 s7 → N σ7 H7 → ∃ m, m < n ∧ ∃ i σ' H', Inv X pins σ' H' s7 ∧ tn i s7.heap ∧ (∀ b ∈ fp, H' b = none) ∧ W i m σ' H' := fun {σ7 H7} I7 n7 => by
   obtain ⟨m', hm, w7⟩ := hN σ7 H7 n7
   refine ⟨m', hm, i + 1, σ7, H7, I7.unpinned, T.keep _ _ _ st5 fun b hb o e => (I7.pin (b, o) (List.mem_append_right _ (List.mem_append_right _ (mem_pinsAt hb e)))).1, fun b hb => ?_, w7⟩
   obtain ⟨o, e, d⟩ := T.obj _ _ st5 b hb
   exact (I7.pin (b, o) (List.mem_append_right _ (List.mem_append_right _ (mem_pinsAt hb e)))).2.1
  cases f with
  | next => obtain ⟨σ7, H7, I7, n7⟩ := q7; exact again I7 n7
  | cont => obtain ⟨σ7, H7, I7, n7⟩ := q7; exact again I7 n7
  | brk => obtain ⟨σ7, H7, I7, q7⟩ := q7; exact ⟨σ7, H7, I7.unpinned, q7⟩
  | ret v => obtain ⟨x7, σ7, H7, I7, r7, q7⟩ := q7; exact ⟨x7, σ7, H7, I7.unpinned, r7, q7⟩
end
end L2
namespace L2
open PySem PySem.Spec PyProof.Rows
abbrev R2 := V → V → Hp → VK → Prop
def OpR (X : Cx) (f : Value → Value → Sem Value) (r : R2) : Prop :=
 ∀ (pins : List (Addr × Obj)) (s : Shared) (σ : St) (H : Hp) (x y : V) (v u : Value) (Q : VK), Inv X pins σ H s → RelV x v → RelV y u → r x y H Q →
  wpAny (model X.prog X.w) X.A (f v u) (EP X pins σ Q) X.xe s
def UnR (X : Cx) (f : Value → Sem Value) (r : V → Hp → VK → Prop) : Prop :=
 ∀ (pins : List (Addr × Obj)) (s : Shared) (σ : St) (H : Hp) (x : V) (v : Value) (Q : VK), Inv X pins σ H s → RelV x v → r x H Q →
  wpAny (model X.prog X.w) X.A (f v) (EP X pins σ Q) X.xe s
def CallR (X : Cx) (f : Value) (r : List V → Hp → VK → Prop) : Prop :=
 ∀ (pins : List (Addr × Obj)) (s : Shared) (σ : St) (H : Hp) (xs : List V) (us : List Value) (Q : VK), Inv X pins σ H s → Vals xs us → r xs H Q →
  wpAny (model X.prog X.w) X.A (call f us) (EP X pins σ Q) X.xe s
def tOp (r : R2) (ta tb : TE) : TE := fun σ H Q => ta σ H fun x H1 => tb σ H1 fun y H2 => r x y H2 Q
def tUn (r : V → Hp → VK → Prop) (ta : TE) : TE := fun σ H Q => ta σ H fun x H1 => r x H1 Q
def rI (C : Int → Int → Prop) (g : Int → Int → V) : R2 := fun x y H Q => ∃ i j, x = .int i ∧ y = .int j ∧ C i j ∧ Q (g i j) H
def rI0 (g : Int → Int → V) : R2 := fun x y H Q => ∃ i j, x = .int i ∧ y = .int j ∧ Q (g i j) H
def rU (g : Int → V) : V → Hp → VK → Prop := fun x H Q => ∃ i, x = .int i ∧ Q (g i) H
section
variable {X : Cx} {a b c : Expr} {ta tb tc : TE} {pos : Pos}
theorem binT (ha : PE X a ta) (hb : PE X b tb) {pins : List (Addr × Obj)} {s : Shared} {σ : St} {H : Hp} {R : V → V → Hp → Prop} (I : Inv X pins σ H s)
  (h : ta σ H fun x H1 => tb σ H1 fun y H2 => R x y H2) {Q : Value → Shared → Prop} {f : Value → Value → Sem Value}
  (hf : ∀ v u s2 x y H2, Inv X pins σ H2 s2 → RelV x v → RelV y u → R x y H2 → wpAny (model X.prog X.w) X.A (f v u) Q X.xe s2) :
  wpAny (model X.prog X.w) X.A (eval a X.env) (fun v s₁ => wpAny (model X.prog X.w) X.A (eval b X.env) (fun u s₂ => wpAny (model X.prog X.w) X.A (f v u) Q X.xe s₂) X.xe s₁) X.xe s := by
 refine thn (ha pins s σ H _ I h) fun v s1 ⟨x, H1, I1, r1, q1⟩ => ?_
 refine thn (hb pins s1 σ H1 _ I1 q1) fun u s2 ⟨y, H2, I2, r2, q2⟩ => ?_
 exact hf v u s2 x y H2 I2 r1 r2 q2
theorem pe_op {op : Operator} {r : R2} (ho : OpR X (binaryOp op) r) (ha : PE X a ta) (hb : PE X b tb) : PE X (.BinOp a op b pos) (tOp r ta tb) := by
 intro pins s σ H Q I h
 exact wpAny_BinOp (binT ha hb I h fun v u s2 x y H2 I2 rx ry q => ho pins s2 σ H2 x y v u Q I2 rx ry q)
theorem pe_un {op : UnaryOp} {r : V → Hp → VK → Prop} (ho : UnR X (unaryOp op) r) (ha : PE X a ta) : PE X (.UnaryOp op a pos) (tUn r ta) := by
 intro pins s σ H Q I h
 exact UnaryOp_ (thn (ha pins s σ H _ I h) fun v s1 ⟨x, H1, I1, r1, q1⟩ => ho pins s1 σ H1 x v Q I1 r1 q1)
theorem opI {f : Value → Value → Sem Value} {C : Int → Int → Prop} {g : Int → Int → Int}
  (rule : ∀ (i j : Int) (t u : Tok) (s : Shared) (Q : Value → Shared → Prop) (E : Value → Shared → Prop), C i j → Q (.int (g i j) s.toks) { s with toks := s.toks + 1 } → wpAny (model X.prog X.w) X.A (f (.int i t) (.int j u)) Q E s) :
  OpR X f (rI C fun i j => .int (g i j)) := by
 intro pins s σ H x y v u Q I rx ry h
 obtain ⟨i, j, rfl, rfl, hc, q⟩ := h
 obtain ⟨t, rfl⟩ := rx
 obtain ⟨t', rfl⟩ := ry
 exact rule i j t t' s _ _ hc ⟨.int (g i j), H, I.tok _, ⟨_, rfl⟩, q⟩
theorem opI0 {f : Value → Value → Sem Value} {g : Int → Int → Int}
  (rule : ∀ (i j : Int) (t u : Tok) (s : Shared) (Q : Value → Shared → Prop) (E : Value → Shared → Prop), Q (.int (g i j) s.toks) { s with toks := s.toks + 1 } → wpAny (model X.prog X.w) X.A (f (.int i t) (.int j u)) Q E s) :
  OpR X f (rI0 fun i j => .int (g i j)) := by
 intro pins s σ H x y v u Q I rx ry h
 obtain ⟨i, j, rfl, rfl, q⟩ := h
 obtain ⟨t, rfl⟩ := rx
 obtain ⟨t', rfl⟩ := ry
 exact rule i j t t' s _ _ ⟨.int (g i j), H, I.tok _, ⟨_, rfl⟩, q⟩
theorem opB0 {f : Value → Value → Sem Value} {g : Int → Int → Bool}
  (rule : ∀ (i j : Int) (t u : Tok) (s : Shared) (Q : Value → Shared → Prop) (E : Value → Shared → Prop), Q (.bool (g i j)) s → wpAny (model X.prog X.w) X.A (f (.int i t) (.int j u)) Q E s) :
  OpR X f (rI0 fun i j => .bl (g i j)) := by
 intro pins s σ H x y v u Q I rx ry h
 obtain ⟨i, j, rfl, rfl, q⟩ := h
 obtain ⟨t, rfl⟩ := rx
 obtain ⟨t', rfl⟩ := ry
 exact rule i j t t' s _ _ ⟨.bl (g i j), H, I, rfl, q⟩
def CDiv (i j : Int) : Prop := 0 < j ∧ j < 1073741824
def CMul (i j : Int) : Prop := (-(2 ^ 64) < i ∧ i < 2 ^ 64) ∨ (-(2 ^ 64) < j ∧ j < 2 ^ 64)
theorem CMul.ok {i j : Int} (h : CMul i j) : IntMulOk i j := by
 rcases h with ⟨h1, h2⟩ | ⟨h1, h2⟩
 ·exact .of_left (intBits_le_64 h1 h2)
 ·exact .of_right (intBits_le_64 h1 h2)
theorem op_add : OpR X (binaryOp .Add) (rI0 fun i j => .int (i + j)) := opI0 fun _ _ _ _ _ _ _ q => add_int q
theorem op_sub : OpR X (binaryOp .Sub) (rI0 fun i j => .int (i - j)) := opI0 fun _ _ _ _ _ _ _ q => sub_int q
theorem op_mul : OpR X (binaryOp .Mult) (rI CMul fun i j => .int (i * j)) := opI fun _ _ _ _ _ _ _ hc q => mul_int q hc.ok
theorem op_fdiv : OpR X (binaryOp .FloorDiv) (rI CDiv fun i j => .int (i / j)) := opI fun i j _ _ _ _ _ hc q => by
 have h1 : (0 : Int) < j := hc.1
 have h2 : j < 1073741824 := hc.2
 exact floordiv_int (by omega) (by rw [Int.fdiv_eq_ediv_of_nonneg i (by omega)]; exact q) (.inl (PyProof.noPylong_small (by omega)))
theorem op_mod : OpR X (binaryOp .Mod) (rI (fun _ j => 0 < j) fun i j => .int (i % j)) := opI fun i j _ _ _ _ _ hc q => by
 have h1 : (0 : Int) < j := hc
 exact mod_int' (by omega) (by rw [Int.fmod_eq_emod_of_nonneg i (by omega)]; exact q)
theorem unI {f : Value → Sem Value} {g : Int → Int}
  (rule : ∀ (i : Int) (t : Tok) (s : Shared) (Q : Value → Shared → Prop) (E : Value → Shared → Prop), Q (.int (g i) s.toks) { s with toks := s.toks + 1 } → wpAny (model X.prog X.w) X.A (f (.int i t)) Q E s) :
  UnR X f (rU fun i => .int (g i)) := by
 intro pins s σ H x v Q I rx h
 obtain ⟨i, rfl, q⟩ := h
 obtain ⟨t, rfl⟩ := rx
 exact rule i t s _ _ ⟨.int (g i), H, I.tok _, ⟨_, rfl⟩, q⟩
theorem un_neg : UnR X (unaryOp .USub) (rU fun i => .int (-i)) := unI fun _ _ _ _ _ q => neg_int q
end
section
variable {X : Cx} {a b c : Expr} {ta tb tc : TE} {pos : Pos}
theorem fin_bl {pins : List (Addr × Obj)} {σ : St} {H : Hp} {s : Shared} {Q : VK} {k k' : Bool} (I : Inv X pins σ H s) (q : Q (.bl k) H) (e : k = k') : EP X pins σ Q (.bool k') s := by
 subst e
 exact ⟨.bl k, H, I, rfl, q⟩
theorem op_lt : OpR X (compareOp .Lt) (rI0 fun i j => .bl (decide (i < j))) := opB0 fun _ _ _ _ _ _ _ q => lt_int q
theorem op_le : OpR X (compareOp .LtE) (rI0 fun i j => .bl (decide (i ≤ j))) := opB0 fun _ _ _ _ _ _ _ q => le_int q
theorem op_gt : OpR X (compareOp .Gt) (rI0 fun i j => .bl (decide (j < i))) := opB0 fun _ _ _ _ _ _ _ q => gt_int q
theorem op_lt_str : OpR X (compareOp .Lt) (fun x y H Q => ∃ i j, x = .str i ∧ y = .str j ∧ Q (.bl (decide (i.cps.toList < j.cps.toList))) H) := by
 intro pins s σ H x y v u Q I rx ry h
 obtain ⟨i, j, rfl, rfl, q⟩ := h
 obtain ⟨t, rfl⟩ := rx
 obtain ⟨t', rfl⟩ := ry
 exact lt_str (fin_bl I q rfl)
theorem op_in_str : OpR X (compareOp .In) (fun x y H Q => ∃ i j, x = .str i ∧ y = .str j ∧ Q (.bl (!(Builtin.Str.occurrences j i 0 j.length 1).isEmpty)) H) := by
 intro pins s σ H x y v u Q I rx ry h
 obtain ⟨i, j, rfl, rfl, q⟩ := h
 obtain ⟨t, rfl⟩ := rx
 obtain ⟨t', rfl⟩ := ry
 exact in_str (fin_bl I q rfl)
theorem pe_cmpR {op : CmpOp} {r : R2} (ho : OpR X (compareOp op) r) (ha : PE X a ta) (hb : PE X b tb) (hm : behindInMarks op b = false) : PE X (.Compare a [op] [b] pos) (tOp r ta tb) := by
 intro pins s σ H Q I h
 exact wpAny_Compare1 (binT ha hb I h fun v u s2 x y H2 I2 rx ry q => ho pins s2 σ H2 x y v u Q I2 rx ry q) hm
def tTest (t : TE) : TT := fun σ H Q => t σ H fun x H' => ∃ k, x = .bl k ∧ Q k H'
theorem pt_cmpR {op : CmpOp} {r : R2} (ho : OpR X (compareOp op) r) (ha : PE X a ta) (hb : PE X b tb) (hm : behindInMarks op b = false) : PT X (.Compare a [op] [b] pos) (tTest (tOp r ta tb)) := by
 intro pins s σ H Q I h
 refine wpAny_isTrue_Compare1 (thn (ha pins s σ H _ I h) fun v s1 ⟨x, H1, I1, r1, q1⟩ => thn (hb pins s1 σ H1 _ I1 q1) fun u s2 ⟨y, H2, I2, r2, q2⟩ =>
  thn (ho pins s2 σ H2 x y v u _ I2 r1 r2 q2) fun c s3 ⟨z, H3, I3, r3, k, e, q3⟩ => ?_) hm
 subst e
 cases r3
 exact wpAny_truthy_bool ⟨H3, I3, q3⟩
def tChain (r r' : R2) (ta tb tc : TE) : TE := fun σ H Q => ta σ H fun x H1 => tb σ H1 fun y H2 => r x y H2 fun z H3 => ∃ k, z = .bl k ∧
 (if k = true then tc σ H3 fun w' H4 => r' y w' H4 Q else Q (.bl false) H3)
theorem pe_chain {op op' : CmpOp} {r r' : R2} (ho : OpR X (compareOp op) r) (ho' : OpR X (compareOp op') r') (ha : PE X a ta) (hb : PE X b tb) (hc : PE X c tc)
  (hm : lastMarks [op, op'] [b, c] = false := by with_unfolding_all rfl) : PE X (.Compare a [op, op'] [b, c] pos) (tChain r r' ta tb tc) := by
 intro pins s σ H Q I h
 refine Compare_chain (thn (ha pins s σ H _ I h) fun v s1 ⟨x, H1, I1, r1, q1⟩ => chain_link (thn (hb pins s1 σ H1 _ I1 q1) fun u s2 ⟨y, H2, I2, r2, q2⟩ =>
  thn (ho pins s2 σ H2 x y v u _ I2 r1 r2 q2) fun d s3 ⟨z, H3, I3, r3, k, e, q3⟩ => ?_)) hm
 subst e
 cases r3
 refine wpAny_truthy_bool ?_
 cases k with
 | false => exact ite_ff ⟨.bl false, H3, I3, rfl, q3⟩
 | true => exact ite_tt (chain_last (thn (hc pins s3 σ H3 _ I3 q3) fun w' s4 ⟨z', H4, I4, r4, q4⟩ => ho' pins s4 σ H4 y z' u w' Q I4 r2 r4 q4))
theorem pt_chain {op op' : CmpOp} {r r' : R2} (ho : OpR X (compareOp op) r) (ho' : OpR X (compareOp op') r') (ha : PE X a ta) (hb : PE X b tb) (hc : PE X c tc)
  (hm : lastMarks [op, op'] [b, c] = false := by with_unfolding_all rfl) : PT X (.Compare a [op, op'] [b, c] pos) (tTest (tChain r r' ta tb tc)) := by
 intro pins s σ H Q I h
 refine isTrue_chain (thn (ha pins s σ H _ I h) fun v s1 ⟨x, H1, I1, r1, q1⟩ => test_link (thn (hb pins s1 σ H1 _ I1 q1) fun u s2 ⟨y, H2, I2, r2, q2⟩ =>
  thn (ho pins s2 σ H2 x y v u _ I2 r1 r2 q2) fun d s3 ⟨z, H3, I3, r3, k, e, q3⟩ => ?_)) hm
 subst e
 cases r3
 refine wpAny_truthy_bool ?_
 cases k with
 | false =>
  obtain ⟨k', e', q'⟩ := q3
  cases e'
  exact ite_ff ⟨H3, I3, q'⟩
 | true =>
  refine ite_tt (test_last (thn (hc pins s3 σ H3 _ I3 q3) fun w' s4 ⟨z', H4, I4, r4, q4⟩ => thn (ho' pins s4 σ H4 y z' u w' _ I4 r2 r4 q4) fun d' s5 ⟨z2, H5, I5, r5, k2, e2, q5⟩ => ?_))
  subst e2
  cases r5
  exact wpAny_truthy_bool ⟨H5, I5, q5⟩
theorem line63 : (sizeLine : Nat) < 2 ^ 63 := by rw [sizeLine_eq]; decide
theorem op_add_str : OpR X (binaryOp .Add) (fun x y H Q => ∃ i j, x = .str i ∧ y = .str j ∧ i.length + j.length ≤ sizeLine ∧ Q (.str (i ++ j)) H) := by
 intro pins s σ H x y v u Q I rx ry h
 obtain ⟨i, j, rfl, rfl, hz, q⟩ := h
 obtain ⟨t, rfl⟩ := rx
 obtain ⟨t', rfl⟩ := ry
 exact add_str (fun t' tk => ⟨.str (i ++ j), H, I.tok _, ⟨_, rfl⟩, q⟩) hz
theorem vals1 {x : V} {us : List Value} (r : Vals [x] us) : ∃ u, us = [u] ∧ RelV x u := by
 cases r with
 | cons r1 r2 => cases r2; exact ⟨_, rfl, r1⟩
end
end L2
namespace L2
open PySem PySem.Spec PyProof.Rows
section
variable {prog : Program} {w : World} {A : Around} {E : Value → Shared → Prop} {s : Shared} {K : PySem.W.Frag} {x dx C f : Addr} {mA : Str → Option Value} {name : Str} {v : Value}
end
theorem RelO.some_of {v : V} {o : Option Value} (r : RelO (some v) o) : ∃ u, o = some u ∧ RelV v u := by
 cases o with
 | none => exact (show False from r).elim
 | some u => exact ⟨u, rfl, r⟩
section
variable {P : Program} {w : World} {H H' : Hp} {h h' : Heap} {a C dx : Addr} {fs fs' : List (Str × V)}
end
section
variable {X : Cx} {pins : List (Addr × Obj)} {σ : St} {H : Hp} {s : Shared} {a C dx : Addr} {fs : List (Str × V)} {f : Str} {v : V} {A : Around} {E : Value → Shared → Prop}
end
section
variable {X : Cx} {o e value : Expr} {f : Str} {pos pos' tpos : Pos} {ta tv : TE}
end
section
variable {X : Cx} {pins : List (Addr × Obj)} {σ : St} {H : Hp} {s : Shared} {A : Around} {E : Value → Shared → Prop} {Q : Value → Shared → Prop} {c : Value} {b : Bool}
end
end L2
namespace L2
open PySem PySem.Spec PyProof.Rows
structure Room (k : Nat) (A : Around) : Prop where
 hd : A.handled = none
 dp : A.depth + 3 * k + 5 < recursionLimit
 un : A.units + 16 * k + 200 < cLine
theorem Room.mono {j k : Nat} {A : Around} (r : Room k A) (h : j ≤ k) : Room j A := ⟨r.hd, by have := r.dp; omega, by have := r.un; omega⟩
theorem Room.deeper {k : Nat} {A : Around} (r : Room (k + 1) A) (env : Env) : Room k (A.deeper env) :=
 ⟨r.hd, by have := r.dp; show A.depth + 1 + 3 * k + 5 < _; omega, by have := r.un; show A.units + 3 + 16 * k + 200 < _; omega⟩
theorem Room.depth {k : Nat} {A : Around} (r : Room k A) : A.depth < recursionLimit := by have := r.dp; omega
def tNil : TA := fun _ H Q => Q [] H
def tCons (ta : TE) (tr : TA) : TA := fun σ H Q => ta σ H fun x H1 => tr σ H1 fun xs H2 => Q (x :: xs) H2
section
variable {X : Cx} {e : Expr} {es : List Expr} {te : TE} {t : TA} {pos : Pos}
theorem pa_nil : PA X [] tNil := fun _ _ _ _ H Q I h => Calls.spliced_nil ⟨[], H, I, .nil, h⟩
theorem pa_cons (ha : PE X e te) (hr : PA X es t) (hs : starEach (e :: es) X.env = (false, eval e X.env) :: starEach es X.env := by rfl) : PA X (e :: es) (tCons te t) := by
 intro pos pins s σ H Q I h
 rw [hs]
 show wpAny _ _ (spliced ((false, eval e X.env) :: backTo pos (starEach es X.env))) _ _ s
 refine Calls.spliced_cons (thn (ha pins s σ H _ I h) fun u s1 ⟨x, H1, I1, r1, q1⟩ => ?_)
 exact thn (hr pos pins s1 σ H1 _ I1 q1) fun us s2 ⟨xs, H2, I2, r2, q2⟩ => ⟨x :: xs, H2, I2, .cons r1 r2, q2⟩
def tTup (t : TA) : TE := fun σ H Q => t σ H fun xs H1 => xs.length ≤ sizeLine ∧ ∀ p, H1 p = none → Q (.ref p) (upd H1 p (.tup xs))
def tLst (t : TA) : TE := fun σ H Q => t σ H fun xs H1 => xs.length ≤ sizeLine ∧ ∀ p, H1 p = none → Q (.ref p) (upd H1 p (.lst xs))
theorem pe_tup {x1} (h : PA X es t) : PE X (.Tuple es x1 pos) (tTup t) := by
 intro pins s σ H Q I hq
 refine wpAny_Tuple_spliced (thn (h pos pins s σ H _ I hq) fun us s1 ⟨xs, H1, I1, r, z, q⟩ => ⟨by rw [← r.length]; exact z, ?_⟩)
 have hf : H1 s1.heap.objs.size = none := I1.hok.fresh (Nat.le_refl _)
 refine ⟨.ref s1.heap.objs.size, upd H1 s1.heap.objs.size (.tup xs), I1.laid (t' := s1.toks) (fun b u e => Heap.get?_push_of_some _ e) (Nat.le_refl _) ?_, rfl, q _ hf⟩
 exact ⟨z, us, r, ⟨_, Heap.get?_push_size _ rfl, rfl, _, rfl⟩⟩
theorem pe_lst (h : PA X es t) : PE X (.List es pos) (tLst t) := by
 intro pins s σ H Q I hq
 refine wpAny_List_spliced (thn (h pos pins s σ H _ I hq) fun us s1 ⟨xs, H1, I1, r, z, q⟩ => ⟨by rw [← r.length]; exact z, ?_⟩)
 have hf : H1 s1.heap.objs.size = none := I1.hok.fresh (Nat.le_refl _)
 refine ⟨.ref s1.heap.objs.size, upd H1 s1.heap.objs.size (.lst xs), I1.laid (t' := s1.toks) (fun b u e => Heap.get?_push_of_some _ e) (Nat.le_refl _) ?_, rfl, q _ hf⟩
 exact ⟨z, us, 0, r, Heap.get?_push_size _ rfl⟩
end
abbrev Sp := List V → Hp → VK → XK → Prop
abbrev CXT := List Env → Hp → Shared → XK → Value → Shared → Prop
structure Env0 (P : Program) (w : World) (K : PySem.W.Frag) (mg : Str → Option Value) (base : Heap) (A : Around) (outer : List Env) (s : Shared) (H : Hp) : Prop where
 frames : A.frames = some outer
 mod : Mod K mg base
 bs : ∀ b o, base.get? b = some o → s.heap.get? b = some o ∧ H b = none
 bsz : base.objs.size ≤ s.heap.objs.size
 funs : s.heap.FunFrames base outer
 frf : ∀ b ∈ frs outer, H b = none
 hok : HOk P w H s.heap
 bare : AllBare s.gens
def CE (outer : List Env) (P : Program) (w : World) (H : Hp) (s : Shared) (Q : VK) (u : Value) (s' : Shared) : Prop :=
 ∃ v H', s'.os = s.os ∧ AllBare s'.gens ∧ Un (frs outer) [] H H' s.heap s'.heap ∧ HOk P w H' s'.heap ∧ RelV v u ∧ Q v H'
def CR (CX : CXT) (outer : List Env) (P : Program) (w : World) (H : Hp) (s : Shared) (Q : VK) (E : XK) (r : Result) (s' : Shared) : Prop :=
 match r with
 | .ok (.ret u) => CE outer P w H s Q u s'
 | .ok _ => False
 | .error e => CX outer H s E e s'
structure FnOk (P : Program) (w : World) (K : PySem.W.Frag) (mg : Str → Option Value) (base : Heap) (CX : CXT) (k : Nat) (f : Addr) (fd : FuncData) (ps : List Str) (sp : Sp) : Prop where
 len : ∀ vs H Q E, sp vs H Q E → vs.length = ps.length
 run : ∀ (A : Around) (outer : List Env) (s : Shared) (H : Hp) (args : Args) (us : List Value) (vs : List V) (Q : VK) (E : XK), Room k A → Env0 P w K mg base A outer s H → BindsTo s fd args (ps.zip us) → Vals vs us → sp vs H Q E →
  codeAny (model P w) A (.call (.ref f) args) (CR CX outer P w H s Q E) s
theorem FnOk.mono {P : Program} {w : World} {K : PySem.W.Frag} {mg : Str → Option Value} {base : Heap} {CX : CXT} {j k : Nat} {f : Addr} {fd : FuncData} {ps : List Str} {sp : Sp} (F : FnOk P w K mg base CX j f fd ps sp) (h : j ≤ k) :
  FnOk P w K mg base CX k f fd ps sp := ⟨F.len, fun A outer s H args us vs Q E hr => F.run A outer s H args us vs Q E (hr.mono h)⟩
section
variable {X : Cx} {pins : List (Addr × Obj)} {σ : St} {H : Hp} {s s' : Shared}
theorem Inv.env0 (I : Inv X pins σ H s) : Env0 X.prog X.w X.K X.mg X.base X.A X.stack s H :=
 ⟨I.ok.frames, I.ok.mod, I.bs, Nat.le_trans I.ok.bsz I.sz, I.stack, I.stkFree, I.hok, I.bare⟩
theorem Inv.after {Q : VK} {u : Value} (I : Inv X pins σ H s) (h : CE X.stack X.prog X.w H s Q u s') : EP X pins σ Q u s' := by
 obtain ⟨v, H', os, bare, un, hok, r, q⟩ := h
 obtain ⟨hh, g, d, t, os'⟩ := s'
 obtain rfl : os' = s.os := os
 exact ⟨v, H', I.call (h' := hh) (g' := g) (d' := d) (t' := t) (ch := []) un hok bare (fun b z => absurd z (by simp)), r, q⟩
end
def tCall (sp : Sp) (dvs : List V) (E : XK) (t : TA) : TE := fun σ H Q => t σ H fun vs H1 => sp (vs ++ dvs) H1 Q E
def Binds (K : PySem.W.Frag) (fd : FuncData) (ps : List Str) (ds : List Value) : Prop :=
 ∀ (s : Shared) (us : List Value), K.In s.heap → (us ++ ds).length = ps.length → BindsTo s fd ⟨us, []⟩ (ps.zip (us ++ ds))
theorem Binds.all {K : PySem.W.Frag} {fd : FuncData} {ps : List Str} (h : ∀ us : List Value, us.length = ps.length → bindArgs fd ⟨us, []⟩ = pure (ps.zip us)) : Binds K fd ps [] := fun s us _ hl => by
 rw [List.append_nil] at hl ⊢
 exact .of_eq (h us hl)
def Passes (CX : CXT) (X : Cx) (E : XK) : Prop := ∀ (pins : List (Addr × Obj)) (σ : St) (H : Hp) (s : Shared) (e : Value) (s' : Shared), Inv X pins σ H s → CX X.stack H s E e s' → X.xe e s'
section
variable {X : Cx} {CX : CXT} {k : Nat} {f C : Addr} {fd : FuncData} {ps : List Str} {sp : Sp} {dvs : List V} {ds : List Value} {E : XK} {x m : Str} {p pos apos : Pos} {e o : Expr} {es : List Expr} {ta : TE} {t : TA}
theorem run_fn {pins : List (Addr × Obj)} {σ : St} {H : Hp} {s : Shared} {Q : VK} {us : List Value} {vs : List V} (F : FnOk X.prog X.w X.K X.mg X.base CX k f fd ps sp) (hr : Room k X.A) (hb : Binds X.K fd ps ds) (hd : Vals dvs ds) (hx : Passes CX X E)
  (I : Inv X pins σ H s) (r : Vals vs us) (h : sp (vs ++ dvs) H Q E) : wpAny (model X.prog X.w) X.A (call (.ref f) us) (EP X pins σ Q) X.xe s := by
 have r2 : Vals (vs ++ dvs) (us ++ ds) := r.append hd
 have hl : (us ++ ds).length = ps.length := by rw [← r2.length]; exact F.len _ _ _ _ h
 refine wpAny_call (codeAny_mono (F.run X.A X.stack s H ⟨us, []⟩ (us ++ ds) (vs ++ dvs) Q E hr I.env0 (hb s us I.kIn hl) r2 h) fun r s' hq => ?_)
 cases r with
 | error e => exact hx pins σ H s e s' I hq
 | ok fl =>
  cases fl with
  | ret u => exact I.after hq
  | next => exact False.elim hq
  | brk => exact False.elim hq
  | cont => exact False.elim hq
theorem pe_call (F : FnOk X.prog X.w X.K X.mg X.base CX k f fd ps sp) (hr : Room k X.A) (hg : Gl X x) (hm : X.mg x = some (.ref f)) (hk : PySem.W.keepIn X.K (.ref f) = true) (hb : Binds X.K fd ps ds) (hd : Vals dvs ds) (hx : Passes CX X E)
  (ha : PA X (e :: es) t) (hdb : (x == ("__debug__" : Str)) = false := by decide) (he : starEach (e :: es) X.env = (false, eval e X.env) :: starEach es X.env := by rfl) (hpl : (backTo pos (starEach es X.env)).any (·.1) = false := by rfl) :
  PE X (.Call (.Name x p) (e :: es) [] pos) (tCall sp dvs E t) := by
 intro pins s σ H Q I h
 refine wpAny_Call_Name_kw (ld_glob I hg hm ?_ hdb)
 refine PySem.W.callWith_K (h₀ := X.base) I.ok.mod.kin hk (thn (ha pos pins s σ H _ I h) fun us s1 ⟨vs, H1, I1, r, q⟩ => ⟨I1.kIn, ?_⟩) he hpl
 exact run_fn F hr hb hd hx I1 r q
end
section
variable {X : Cx} {CX : CXT} {k : Nat} {f C : Addr} {fd : FuncData} {ps ks : List Str} {sp : Sp} {E : XK} {x m : Str} {p pos apos kpos : Pos} {e o : Expr} {es : List Expr} {kws : List Keyword} {te ta : TE} {t tk : TA} {nm : Option Str}
variable {g : List Value → List Value → List Value} {gV : List V → List V → List V}
end
structure FnScope (N P : List Str) (sc : Scope) : Prop where
 kind : sc.kind = .function
 co : sc.isCoroutine = false
 gen : sc.isGenerator = false
 nd : N.Nodup
 pre : N.take P.length = P
 par : ∀ x ∈ P, sc.names.lookup x = some .local ∨ sc.names.lookup x = some .cell
 nofree : ∀ y ∈ sc.names, y.2 ≠ .free
theorem bindL_out {kindOf : Str → Option NameKind} {x : Str} : ∀ {binds : List (Str × Value)} {m : Str → Option Value}, (∀ v, (x, v) ∉ binds) → bindL kindOf binds m x = m x
 | [], _, _ => rfl
 | (n, v) :: r, m, h => by
  unfold bindL
  rw [bindL_out fun w hw => h w (List.mem_cons_of_mem _ hw)]
  split
  ·have : x ≠ n := by rintro rfl; exact h v List.mem_cons_self
   simp [this]
  ·rfl
theorem bindC_out {kindOf : Str → Option NameKind} {x : Str} : ∀ {binds : List (Str × Value)} {m : Str → Option Value}, (∀ v, (x, v) ∉ binds) → bindC kindOf binds m x = m x
 | [], _, _ => rfl
 | (n, v) :: r, m, h => by
  unfold bindC
  rw [bindC_out fun w hw => h w (List.mem_cons_of_mem _ hw)]
  split
  ·rfl
  ·have : x ≠ n := by rintro rfl; exact h v List.mem_cons_self
   simp [this]
theorem bindL_get {kindOf : Str → Option NameKind} {x : Str} {v : Value} : ∀ {P : List Str} {vs : List Value} {i : Nat} {m : Str → Option Value}, P.Nodup → P[i]? = some x → vs[i]? = some v → kindOf x = some .local →
  bindL kindOf (P.zip vs) m x = some v
 | [], _, _, _, _, h, _, _ => by simp at h
 | _ :: _, [], _, _, _, _, h, _ => by simp at h
 | p :: P, w :: vs, 0, m, nd, h1, h2, hk => by
  simp at h1 h2; subst h1; subst h2
  show bindL kindOf ((p, w) :: P.zip vs) m p = _
  unfold bindL
  rw [bindL_out fun v hv => (List.nodup_cons.mp nd).1 (List.of_mem_zip hv).1, if_pos hk]
  simp
 | p :: P, w :: vs, i + 1, m, nd, h1, h2, hk => by
  show bindL kindOf ((p, w) :: P.zip vs) m x = _
  unfold bindL
  exact bindL_get (i := i) (List.nodup_cons.mp nd).2 (by simpa using h1) (by simpa using h2) hk
theorem bindC_get {kindOf : Str → Option NameKind} {x : Str} {v : Value} : ∀ {P : List Str} {vs : List Value} {i : Nat} {m : Str → Option Value}, P.Nodup → P[i]? = some x → vs[i]? = some v → kindOf x ≠ some .local →
  bindC kindOf (P.zip vs) m x = some v
 | [], _, _, _, _, h, _, _ => by simp at h
 | _ :: _, [], _, _, _, _, h, _ => by simp at h
 | p :: P, w :: vs, 0, m, nd, h1, h2, hk => by
  simp at h1 h2; subst h1; subst h2
  show bindC kindOf ((p, w) :: P.zip vs) m p = _
  unfold bindC
  rw [bindC_out fun v hv => (List.nodup_cons.mp nd).1 (List.of_mem_zip hv).1, if_neg hk]
  simp
 | p :: P, w :: vs, i + 1, m, nd, h1, h2, hk => by
  show bindC kindOf ((p, w) :: P.zip vs) m x = _
  unfold bindC
  exact bindC_get (i := i) (List.nodup_cons.mp nd).2 (by simpa using h1) (by simpa using h2) hk
def start (N : List Str) (vs : List V) : St := vs.map some ++ List.replicate (N.length - vs.length) none
def cxOf (CX : CXT) (P : Program) (w : World) (K : PySem.W.Frag) (mg : Str → Option Value) (base : Heap) (N : List Str) (qual : Str) (scope : Scope) (f : Addr) (cd : Value) (A : Around) (outer : List Env) (s : Shared) (H : Hp) (E : XK) : Cx where
 prog := P
 w := w
 K := K
 mg := mg
 base := base
 A := A.deeper (envOfC qual scope s.heap.objs.size f cd)
 N := N
 s₀ := s
 H₀ := H
 env := envOfC qual scope s.heap.objs.size f cd
 outer := outer
 stack := envOfC qual scope s.heap.objs.size f cd :: outer
 ex := []
 calm := true
 fn := fun _ => true
 pn := []
 xe := fun e s' => wpAny (model P w) (A.deeper (envOfC qual scope s.heap.objs.size f cd)) (leaving (envOfC qual scope s.heap.objs.size f cd) e) (fun _ s'' => CX outer H s E e s'') (fun e' s'' => CX outer H s E e' s'') s'
theorem cell_has {sc : Scope} {n : Nat} {x : Str} (h : sc.names.lookup x = some .cell) : ∃ c, (cellsFrom n sc.names []).lookup x = some c := by
 have q := PySem.W.cellsFrom_some sc.names n [] (.inl h)
 exact Option.isSome_iff_exists.mp q
theorem inv_start {CX : CXT} {P : Program} {w : World} {K : PySem.W.Frag} {mg : Str → Option Value} {base : Heap} {N ps : List Str} {qual : Str} {scope : Scope} {f : Addr} {cd : Value} {A : Around} {outer : List Env} {s s1 : Shared} {H : Hp} {E : XK} {us : List Value} {vs : List V}
  (S : FnScope N ps scope) (hd : A.handled = none) (e0 : Env0 P w K mg base A outer s H) (hl : vs.length = ps.length) (r : Vals vs us)
  (x : InCallC s s.heap.objs.size (bindL (envOfC qual scope s.heap.objs.size f cd).kindOf (ps.zip us) fun _ => none) (cellsFrom (s.heap.objs.size + 1) scope.names []) (bindC (envOfC qual scope s.heap.objs.size f cd).kindOf (ps.zip us) fun _ => none) s1) :
  Inv (cxOf CX P w K mg base N qual scope f cd A outer s H E) [] (start N vs) H s1 := by
 have hpl : ps.length ≤ N.length := by have := congrArg List.length S.pre; rw [List.length_take] at this; omega
 obtain ⟨h1, tk, rfl, hk⟩ := x.done
 have noA : ∀ b : Addr, b ∉ (cxOf CX P w K mg base N qual scope f cd A outer s H E).ex := fun b z => absurd (show b ∈ ([] : List Addr) from z) (by simp)
 refine ⟨⟨e0.mod, S.kind, rfl, rfl, Nat.le_refl _, fun y z c h1 h2 => ?_, fun y hy => ?_, fun y c _ h => ?_, fun _ => hd, Around.frames_deeper e0.frames, .inr ⟨rfl, rfl⟩, fun b z => absurd z (noA b), e0.bs, e0.bsz, fun b _ _ => noA b, fun b z => absurd z (noA b), e0.funs, e0.frf⟩,
  rfl, e0.bare, Un.kept hk, ⟨_, x.toInCall.ns, fun i y v h1 h2 h3 => ?_⟩, fun y c h => ⟨_, x.cell y c h⟩, e0.hok.fresh (Nat.le_refl _), fun y c h => ?_, fun p hp => absurd (show p ∈ ([] : List (Addr × Obj)) from hp) (by simp), e0.hok.kept hk, ?_⟩
 ·exact name_of_addr x.apart (PySem.mem_of_lookup h1) (PySem.mem_of_lookup h2)
 ·have hy : scope.names.lookup y = some .cell ∨ scope.names.lookup y = some .free := hy
  rcases hy with hy | hy
  ·exact cell_has hy
  ·exact absurd rfl (S.nofree _ (PySem.mem_of_lookup hy))
 ·exact Nat.le_of_lt (x.above y c (PySem.mem_of_lookup h))
 ·have hi : i < vs.length := by
   unfold start at h2
   by_cases hi : i < vs.length
   ·exact hi
   ·rw [List.getElem?_append_right (by simpa using hi)] at h2
    rw [List.getElem?_replicate] at h2
    split at h2 <;> cases h2
  have ha : vs[i]? = some v := by
   unfold start at h2
   rw [List.getElem?_append_left (by simpa using hi), List.getElem?_map] at h2
   cases e : vs[i]? with
   | none => rw [e] at h2; cases h2
   | some a => rw [e] at h2; cases h2; rfl
  obtain ⟨u, hu, rv⟩ := r.get ha
  have hp : ps[i]? = some y := by
   rw [← S.pre, List.getElem?_take_of_lt (by omega)]; exact h1
  have ndP : ps.Nodup := by rw [← S.pre]; exact S.nd.sublist (List.take_sublist _ _)
  refine ⟨u, rv, ?_⟩
  rcases S.par y (List.mem_of_getElem? hp) with k | k
  ·exact .inl ⟨k, bindL_get ndP hp hu k⟩
  ·obtain ⟨c, e⟩ := cell_has (n := s.heap.objs.size + 1) k
   refine .inr ⟨.inl k, c, e, ?_⟩
   have q := x.cell y c e
   rw [bindC_get ndP hp hu (by show scope.names.lookup y ≠ _; rw [k]; decide)] at q
   exact q
 ·exact e0.hok.fresh (Nat.le_of_lt (x.above y c (PySem.mem_of_lookup h)))
 ·unfold start
  show _ = N.length
  rw [List.length_append, List.length_map, List.length_replicate]
  omega
theorem fn_of {CX : CXT} {P : Program} {w : World} {K : PySem.W.Frag} {mg : Str → Option Value} {base : Heap} {k : Nat} {f : Addr} {name qual : Str} {params : Arguments} {body : List Stmt} {scope : Scope} {dV kV doc pm cdv ct oc : Value} {an od : Option Addr}
  {osl : Array (Option Value)} {N ps : List Str} {sp : Sp} (lk : K.lookup f = some ⟨oc, od, .func (PySem.W.fnOf name qual params body scope dV kV doc pm an cdv ct), osl⟩) (hcd : PySem.W.codeIn K cdv qual = true) (S : FnScope N ps scope)
  (len : ∀ vs H Q E, sp vs H Q E → vs.length = ps.length)
  (hbody : ∀ (A : Around) (outer : List Env) (s : Shared) (H : Hp) (vs : List V) (Q : VK) (E : XK), Room k (A.deeper (envOfC qual scope s.heap.objs.size f cdv)) → sp vs H Q E →
   ∃ t, PSs (cxOf CX P w K mg base N qual scope f cdv A outer s H E) body t ∧ t { nx := fun _ H' => Q .non H', rt := Q } (start N vs) H) :
  FnOk P w K mg base CX (k + 1) f (PySem.W.fnOf name qual params body scope dV kV doc pm an cdv ct) ps sp := by
 refine ⟨len, fun A outer s H args us vs Q E hr e0 hb r hsp => ?_⟩
 have hl := len _ _ _ _ hsp
 have KX : K.In s.heap := e0.mod.kin.keeps fun b o e => (e0.bs b o e).1
 have lim : s.heap.NoLimit := e0.mod.nolimit.keeps fun b o e => (e0.bs b o e).1
 have hkind : ∀ y ∈ ps.zip us, scope.names.lookup y.1 = some .local ∨ (scope.names.lookup y.1 = some .cell ∧ ((cellsFrom (s.heap.objs.size + 1) scope.names []).lookup y.1).isSome = true) := fun ⟨n, v⟩ hy => by
  rcases S.par n (List.of_mem_zip hy).1 with q | q
  ·exact .inl q
  ·exact .inr ⟨q, PySem.W.cellsFrom_some _ _ _ (.inl q)⟩
 refine codeAny_call_function hr.depth (KX _ _ lk) rfl S.co S.gen rfl (PySem.W.codeRec_of KX hcd) (hb _ _ _ _ ?_)
 refine wpAny_newFunctionEnv_cells S.kind hkind fun env he s1 x => ?_
 subst he
 refine ⟨lim.keeps x.toInCall.keep, codeAny_func ?_⟩
 obtain ⟨t, ht, hq⟩ := hbody A outer s H vs Q E (hr.deeper _) hsp
 have I : Inv (cxOf CX P w K mg base N qual scope f cdv A outer s H E) [] (start N vs) H s1 := inv_start S hr.hd e0 hl r x
 refine wpAny_mono (ht [] s1 (start N vs) H _ I hq) (fun fl s' hs => ?_) fun e s' hs => hs
 have fin : ∀ {σ' : St} {H' : Hp} {v : V} {u : Value}, Inv (cxOf CX P w K mg base N qual scope f cdv A outer s H E) [] σ' H' s' → RelV v u → Q v H' → CE outer P w H s Q u s' :=
  fun {σ' H' v u} J rv q => ⟨v, H', J.os, J.bare, J.base, J.hok, rv, q⟩
 cases fl with
 | ret u =>
  obtain ⟨v, σ', H', J, rv, q⟩ := hs
  exact fin J rv q
 | next =>
  obtain ⟨σ', H', J, q⟩ := hs
  exact fin (v := V.non) (u := Value.none) J rfl q
 | brk =>
  obtain ⟨_, _, _, q⟩ := hs
  exact False.elim q
 | cont =>
  obtain ⟨_, _, _, q⟩ := hs
  exact False.elim q
end L2
namespace L2
open PySem PySem.Spec PyProof.Rows
section
variable {X : Cx} {x : Str} {p pos : Pos} {e : Expr} {es : List Expr} {t : TA} {id T : String} {r : List V → Hp → VK → Prop}
def tCB (r : List V → Hp → VK → Prop) (t : TA) : TE := fun σ H Q => t σ H fun vs H1 => r vs H1 Q
theorem pe_callB (hc : CallR X (.builtin id) r) (hg : Gl X x) (hm : X.mg x = none) (hv : bootBuiltins x = some (.builtin id)) (ha : PA X (e :: es) t) (hn : x ≠ "__name__" := by decide) (hdb : (x == ("__debug__" : Str)) = false := by decide)
  (he : starEach (e :: es) X.env = (false, eval e X.env) :: starEach es X.env := by rfl) (hpl : (backTo pos (starEach es X.env)).any (·.1) = false := by rfl) : PE X (.Call (.Name x p) (e :: es) [] pos) (tCB r t) := by
 intro pins s σ H Q I h
 refine wpAny_Call_Name_kw (ld_blt I hg hm hv ?_ hn hdb)
 exact PyProof.Rows.callWith_builtin1 (thn (ha pos pins s σ H _ I h) fun us s1 ⟨vs, H1, I1, r1, q1⟩ => hc pins s1 σ H1 vs us Q I1 r1 q1) he hpl
theorem pe_callTy (hc : CallR X (.type T) r) (hg : Gl X x) (hm : X.mg x = none) (hv : bootBuiltins x = some (.type T)) (ha : PA X (e :: es) t) (hn : x ≠ "__name__" := by decide) (hdb : (x == ("__debug__" : Str)) = false := by decide)
  (he : starEach (e :: es) X.env = (false, eval e X.env) :: starEach es X.env := by rfl) (hpl : (backTo pos (starEach es X.env)).any (·.1) = false := by rfl) : PE X (.Call (.Name x p) (e :: es) [] pos) (tCB r t) := by
 intro pins s σ H Q I h
 refine wpAny_Call_Name_kw (ld_blt I hg hm hv ?_ hn hdb)
 exact PyProof.Rows.callWith_type1 (thn (ha pos pins s σ H _ I h) fun us s1 ⟨vs, H1, I1, r1, q1⟩ => hc pins s1 σ H1 vs us Q I1 r1 q1) he hpl
end
end L2
namespace HT
open PySem PyProof.Rows
section
open PySem.SeqAt
open PySem.AutoSeq1 (wpAny_loadPart')
open PySem.MeetsSeq PySem.MeetsSeq2 PySem.MeetsSeq3
end
section
variable {prog : Program} {w : World} {A : Around} {E : Value → Shared → Prop} {s : Shared}
theorem cat_tup {t b : Addr} {vs ws : List Value} {Q : Value → Shared → Prop} (ht : IsTup s.heap t vs.toArray) (hb : IsTup s.heap b ws.toArray) (hv : vs ≠ [])
  (h1 : ws = [] → Q (.ref t) s) (h2 : ws ≠ [] → Q (.ref s.heap.objs.size) { s with heap := s.heap.push { cls := .type "tuple", data := .seq (vs ++ ws).toArray } })
  (hsz : vs.length + ws.length ≤ sizeLine) : wpAny (model prog w) A (binaryOp .Add (.ref t) (.ref b)) Q E s := by
 obtain ⟨⟨cls, dd, data, sl⟩, ho, hc, n, hd⟩ := id ht
 obtain ⟨⟨cls2, dd2, data2, sl2⟩, ho2, hc2, n2, hd2⟩ := id hb
 simp only at hc hd hc2 hd2
 subst hc hd hc2 hd2
 have e : vs.toArray ++ ws.toArray = (vs ++ ws).toArray := by simp
 by_cases hw : ws = []
 ·exact concat_meets ⟨_, ho, rfl⟩ ⟨_, ho2, rfl⟩ noFill_tuple_add seq_tuple_add PySem.F.slot_tuple_add PySem.F.entry_tuple_add (PySem.F.args_tuple_add_2 _ _)
   (tuple_addW1 t b vs.toArray ws.toArray n n2 dd dd2 sl sl2 (by simpa using hv) (by simp [hw])) ⟨ho, ho2, h1 hw⟩
 ·refine concat_meets ⟨_, ho, rfl⟩ ⟨_, ho2, rfl⟩ noFill_tuple_add seq_tuple_add PySem.F.slot_tuple_add PySem.F.entry_tuple_add (PySem.F.args_tuple_add_2 _ _)
   (tuple_addW2 t b vs.toArray ws.toArray n n2 dd dd2 sl sl2 (by simpa using hv) (by simpa using hw) (by rw [List.size_toArray, List.size_toArray]; exact hsz)) ⟨ho, ho2, ?_⟩
  rw [e]
  exact h2 hw
def sIx (n d : Nat) : Option Int → Nat
 | none => d
 | some v => if v < 0 then (v + (n : Int)).toNat else min v.toNat n
theorem sIx_none (n d : Nat) : sIx n d none = d := rfl
theorem sIx_nat (n d k : Nat) : sIx n d (some (k : Int)) = min k n := by
 show (if (k : Int) < 0 then ((k : Int) + (n : Int)).toNat else min (k : Int).toNat n) = min k n
 rw [if_neg (by omega), Int.toNat_natCast]
theorem sIx_le (n d : Nat) (hd : d ≤ n) (o : Option Int) : sIx n d o ≤ n := by
 cases o with
 | none => exact hd
 | some v =>
  show (if v < 0 then (v + (n : Int)).toNat else min v.toNat n) ≤ n
  by_cases hv : v < 0
  ·rw [if_pos hv]; omega
  ·rw [if_neg hv]; exact Nat.min_le_right _ _
theorem clip_eq (v : Int) (n d : Nat) : (if v < 0 then max (v + (n : Int)) 0 else min v (n : Int)) = ((sIx n d (some v) : Nat) : Int) := by
 show (if v < 0 then max (v + (n : Int)) 0 else min v (n : Int)) = (((if v < 0 then (v + (n : Int)).toNat else min v.toNat n) : Nat) : Int)
 by_cases hv : v < 0
 ·simp only [if_pos hv]; omega
 ·simp only [if_neg hv]; omega
theorem adjust_gen (lo hi : Option Int) (n : Nat) : Builtin.Slice.sliceAdjust lo hi 1 (n : Int) = (((sIx n 0 lo : Nat) : Int), ((sIx n n hi : Nat) : Int)) := by
 have h1 : ¬ ((1 : Int) < 0) := by omega
 unfold Builtin.Slice.sliceAdjust
 simp only [h1, if_false]
 refine Prod.ext ?_ ?_
 ·cases lo with
  | none => rfl
  | some v => exact clip_eq v n 0
 ·cases hi with
  | none => rfl
  | some v => exact clip_eq v n n
theorem places_gen (i j : Nat) : Builtin.Slice.slicePlaces (i : Int) (j : Int) 1 = j - i := by
 unfold Builtin.Slice.slicePlaces
 have h1 : (1 : Int) > 0 := by omega
 simp only [h1, if_true, Int.ediv_one]
 split <;> omega
theorem slicePart_ {v : Value} {o : Option Int} {Q : Option Int → Shared → Prop} (p : IsPart v o) (h : Q o s) : wpAny (model prog w) A (Builtin.Slice.slicePartIndex v) Q E s := by
 cases p with
 | none => exact slicePart_none h
 | int i t => exact slicePart_int h
theorem sliceApplied_gen {sl : Addr} {vl vu : Value} {lo hi : Option Int} {n : Nat} {Q : Int × Int × Nat → Shared → Prop} (hs : s.heap.IsSliceOf sl vl vu .none) (pl : IsPart vl lo) (pu : IsPart vu hi)
  (h : Q (((sIx n 0 lo : Nat) : Int), 1, sIx n n hi - sIx n 0 lo) s) : wpAny (model prog w) A (Builtin.Slice.sliceApplied (.ref sl) (pure (n : Int))) Q E s := by
 obtain ⟨os, hos, hcs, hds⟩ := id hs
 unfold Builtin.Slice.sliceApplied Builtin.Slice.sliceFields
 refine wpAny_bind (wpAny_bind (wpAny_field hos hds (x := vl) rfl (wpAny_bind (wpAny_field hos hds (x := vu) rfl (wpAny_bind (wpAny_field hos hds (x := .none) rfl (wpAny_pure ?_)))))))
 refine wpAny_bind (slicePart_none ?_)
 show wpAny _ _ (if ((1 : Int) == 0) = true then _ else _) _ _ s
 rw [if_neg (by decide)]
 refine wpAny_bind (slicePart_ pl (wpAny_bind (slicePart_ pu (wpAny_bind (wpAny_pure ?_)))))
 show wpAny _ _ (match Builtin.Slice.sliceAdjust lo hi 1 (n : Int) with | (lo, hi) => pure (lo, (1 : Int), Builtin.Slice.slicePlaces lo hi 1)) _ _ s
 rw [adjust_gen lo hi n]
 show wpAny _ _ (pure (((sIx n 0 lo : Nat) : Int), (1 : Int), Builtin.Slice.slicePlaces ((sIx n 0 lo : Nat) : Int) ((sIx n n hi : Nat) : Int) 1)) _ _ s
 rw [places_gen]
 exact wpAny_pure h
theorem pick_gen (xs : Array Value) (i k : Nat) : ((List.range k).filterMap fun (m : Nat) => xs[((i : Int) + (m : Int) * 1).toNat]?).toArray = ((xs.toList.drop i).take k).toArray := by
 have e : (fun (m : Nat) => xs[((i : Int) + (m : Int) * 1).toNat]?) = fun m => xs[i + m]? := by
  funext m
  have : ((i : Int) + (m : Int) * 1).toNat = i + m := by omega
  rw [this]
 rw [e]
 have := pick_run xs i k
 rw [List.filterMap_map] at this
 have e2 : ((fun x => xs[x]?) ∘ fun x => i + x) = fun m => xs[i + m]? := rfl
 rw [e2] at this
 rw [this]
theorem getItem_tuple_cut {t sl : Addr} {items : Array Value} {vl vu : Value} {lo hi : Option Int} {Q : Value → Shared → Prop} (ht : IsTup s.heap t items) (hs : s.heap.IsSliceOf sl vl vu .none) (pl : IsPart vl lo) (pu : IsPart vu hi)
  (hw : ¬ (sIx items.size 0 lo = 0 ∧ sIx items.size items.size hi = items.size))
  (h : Q (.ref s.heap.objs.size) { s with heap := s.heap.push { cls := .type "tuple", data := .seq ((items.toList.drop (sIx items.size 0 lo)).take (sIx items.size items.size hi - sIx items.size 0 lo)).toArray } })
  (hsz : items.size ≤ sizeLine) : wpAny (model prog w) A (getItem (.ref t) (.ref sl)) Q E s := by
 have htake : sizeOk (.seq ((items.toList.drop (sIx items.size 0 lo)).take (sIx items.size items.size hi - sIx items.size 0 lo)).toArray) := by
  show ((items.toList.drop (sIx items.size 0 lo)).take (sIx items.size items.size hi - sIx items.size 0 lo)).toArray.size ≤ sizeLine
  rw [List.size_toArray, List.length_take, List.length_drop, Array.length_toList]
  omega
 have hj : sIx items.size items.size hi ≤ items.size := sIx_le _ _ (Nat.le_refl _) hi
 obtain ⟨os, hos, hcs, hds⟩ := id hs
 have hTs : s.TypeIs (.ref sl) "slice" := ⟨os, hos, hcs⟩
 unfold getItem
 try with_reducible refine wpAny_holding ?_
 first | refine wpAny_bind (wpAny_pure ?_) | skip
 refine wpAny_bind (wpAny_sequenceKey ht.typeIs (by decide) ?_)
 refine wpAny_bind (wpAny_callSpecial?_slot (name := Str.ofString "__getitem__") ht.typeIs PyProof.Rows.slot_tuple_getitem
  (wpAny_call_entry PyProof.Rows.slot_tuple_getitem ht.typeIs entry_tuple_getitem ?_ (args_tuple_getitem _ _)))
 show wpAny _ _ (Builtin.Tuple.tupleItemsOf (.ref t) >>= _) _ _ s
 refine wpAny_bind (tupleItemsOf_ ht ?_)
 refine wpAny_bind (wpAny_typeOf hTs ?_)
 rw [if_pos (by decide)]
 refine wpAny_bind (sliceApplied_gen hs pl pu ?_)
 have hno : ¬ ((((sIx items.size 0 lo : Nat) : Int) == 0 && (1 : Int) == 1 && (sIx items.size items.size hi - sIx items.size 0 lo) == items.size) = true) := by
  intro q
  rw [Bool.and_eq_true, Bool.and_eq_true] at q
  have q1 : ((sIx items.size 0 lo : Nat) : Int) = 0 := eq_of_beq q.1.1
  have q2 : sIx items.size items.size hi - sIx items.size 0 lo = items.size := eq_of_beq q.2
  exact hw ⟨by omega, by omega⟩
 show wpAny _ _ (if (((sIx items.size 0 lo : Nat) : Int) == 0 && (1 : Int) == 1 && (sIx items.size items.size hi - sIx items.size 0 lo) == items.size) = true then _ else _) _ _ s
 rw [if_neg hno, pick_gen]
 first
  | exact wpAny_bind (m := Builtin.Tuple.tupleExact _) (wpAny_newObj_type (wpAny_pure ⟨_, rfl, wpAny_pure h⟩) htake)
  | exact wpAny_bind (m := Builtin.Tuple.tupleExact _) (wpAny_newObj_type (wpAny_bind (wpAny_pure (wpAny_pure ⟨_, rfl, wpAny_pure h⟩))) htake)
  | exact wpAny_bind (wpAny_bind (m := Builtin.Tuple.tupleExact _) (wpAny_newObj_type (wpAny_pure (wpAny_pure ⟨_, rfl, wpAny_pure h⟩)) htake))
  | exact wpAny_bind (wpAny_bind (m := Builtin.Tuple.tupleExact _) (wpAny_newObj_type (wpAny_pure ⟨_, rfl, wpAny_pure h⟩) htake))
end
end HT
namespace L2
open PySem PySem.Spec PyProof.Rows
abbrev TO := St → Hp → (Option Int → Hp → Prop) → Prop
def PO (X : Cx) (e : Option Expr) (t : TO) : Prop :=
 ∀ (pins : List (Addr × Obj)) (s : Shared) (σ : St) (H : Hp) (Q : Option Int → Hp → Prop), Inv X pins σ H s → t σ H Q →
  wpAny (model X.prog X.w) X.A (evalPart e X.env) (fun u s' => ∃ o H', Inv X pins σ H' s' ∧ IsPart u o ∧ Q o H') X.xe s
def tNoPart : TO := fun _ H Q => Q none H
def tPart (t : TE) : TO := fun σ H Q => t σ H fun x H1 => ∃ i, x = .int i ∧ Q (some i) H1
section
variable {X : Cx} {e : Expr} {te : TE} {lo hi : Option Expr} {tl th : TO} {pos p2 : Pos}
theorem po_none : PO X none tNoPart := by
 intro pins s σ H Q I h
 rw [evalPart_none]
 exact wpAny_pure ⟨none, H, I, .none, h⟩
theorem po_some (h : PE X e te) : PO X (some e) (tPart te) := by
 intro pins s σ H Q I hw
 rw [evalPart_some]
 refine thn (h pins s σ H _ I hw) fun u s1 ⟨x, H1, I1, r1, q1⟩ => ?_
 obtain ⟨i, rfl, q⟩ := q1
 obtain ⟨t, rfl⟩ := r1
 exact ⟨some i, H1, I1, .int i t, q⟩
def SlR (X : Cx) (r : V → Option Int → Option Int → Hp → VK → Prop) : Prop :=
 ∀ (pins : List (Addr × Obj)) (s : Shared) (σ : St) (H : Hp) (x : V) (v vl vu : Value) (lo hi : Option Int) (sl : Addr) (Q : VK), Inv X pins σ H s → RelV x v → s.heap.IsSliceOf sl vl vu .none → IsPart vl lo → IsPart vu hi → r x lo hi H Q →
  ∃ T id, typeLookup (.type T) "__getitem__" = pure (some (.builtin id)) ∧ s.TypeIs v T ∧ wpAny (model X.prog X.w) X.A (getItem v (.ref sl)) (EP X pins σ Q) X.xe s
def tSl (r : V → Option Int → Option Int → Hp → VK → Prop) (te : TE) (tl th : TO) : TE := fun σ H Q => te σ H fun x H1 => tl σ H1 fun l H2 => th σ H2 fun u H3 => r x l u H3 Q
theorem pe_slice {r : V → Option Int → Option Int → Hp → VK → Prop} (hr : SlR X r) (he : PE X e te) (hl : PO X lo tl) (hu : PO X hi th) : PE X (.Subscript e (.Slice lo hi none p2) pos) (tSl r te tl th) := by
 intro pins s σ H Q I h
 refine Subscript_ (thn (he pins s σ H _ I h) fun v s1 ⟨x, H1, I1, r1, q1⟩ => ?_)
 refine wpAny_Slice (thn (hl pins s1 σ H1 _ I1 q1) fun vl s2 ⟨l, H2, I2, pl, q2⟩ => thn (hu pins s2 σ H2 _ I2 q2) fun vu s3 ⟨u, H3, I3, pu, q3⟩ => ?_)
 rw [evalPart_none]
 refine wpAny_pure ?_
 have I4 : Inv X pins σ H3 { s3 with heap := s3.heap.push { cls := .type "slice", data := .fields #[vl, vu, .none] } } := I3.kept (t' := s3.toks) fun b ob q => Heap.get?_push_of_some _ q
 obtain ⟨T, id, hT, ht, hg⟩ := hr pins { s3 with heap := s3.heap.push { cls := .type "slice", data := .fields #[vl, vu, .none] } } σ H3 x v vl vu l u s3.heap.objs.size Q I4 r1 (Heap.IsSliceOf.new ..) pl pu q3
 show wpAny (model X.prog X.w) X.A (subscriptTail e (.Slice lo hi none p2) v (.ref s3.heap.objs.size)) (EP X pins σ Q) X.xe { s3 with heap := s3.heap.push { cls := .type "slice", data := .fields #[vl, vu, .none] } }
 exact tail_any (ops := [.ref s3.heap.objs.size, v]) ht hT hg (by with_unfolding_all rfl)
def cutV (xs : List V) (lo hi : Option Int) : List V := (xs.drop (HT.sIx xs.length 0 lo)).take (HT.sIx xs.length xs.length hi - HT.sIx xs.length 0 lo)
theorem cutV_length (xs : List V) (lo hi : Option Int) : (cutV xs lo hi).length ≤ xs.length := by
 unfold cutV
 rw [List.length_take, List.length_drop]
 omega
def rSlT (K : PySem.W.Frag) : V → Option Int → Option Int → Hp → VK → Prop := fun x lo hi H Q => ∃ a xs, x = .ref a ∧ SqT K H a xs ∧
 ¬ (HT.sIx xs.length 0 lo = 0 ∧ HT.sIx xs.length xs.length hi = xs.length) ∧ ∀ p, H p = none → Q (.ref p) (upd H p (.tup (cutV xs lo hi)))
theorem sl_tup : SlR X (rSlT X.K) := by
 intro pins s σ H x v vl vu lo hi sl Q I rx hs pl pu h
 obtain ⟨a, xs, rfl, hx, hw, q⟩ := h
 cases rx
 obtain ⟨its, r, ht, hz⟩ := I.tuple hx
 have hlen : its.toArray.size = xs.length := by rw [List.size_toArray]; exact r.length.symm
 refine ⟨"tuple", _, PyProof.Rows.slot_tuple_getitem.lookup, ht.typeIs, ?_⟩
 refine HT.getItem_tuple_cut ht hs pl pu (by rw [hlen]; exact hw) ?_ (by rw [hlen]; exact hz)
 rw [hlen]
 refine ⟨.ref s.heap.objs.size, _, I.laid (t' := s.toks) (o := .tup (cutV xs lo hi)) (fun b ob q => Heap.get?_push_of_some _ q) (Nat.le_refl _) ?_, rfl, q _ (I.hok.fresh (Nat.le_refl _))⟩
 exact ⟨Nat.le_trans (cutV_length xs lo hi) hz, _, (r.drop (HT.sIx xs.length 0 lo)).take (HT.sIx xs.length xs.length hi - HT.sIx xs.length 0 lo), IsTup.new _ _⟩
def rCatT (K : PySem.W.Frag) : R2 := fun x y H Q => ∃ a b xs ys, x = .ref a ∧ y = .ref b ∧ SqT K H a xs ∧ SqT K H b ys ∧ xs ≠ [] ∧ xs.length + ys.length ≤ sizeLine ∧
 (ys = [] → Q (.ref a) H) ∧ (ys ≠ [] → ∀ p, H p = none → Q (.ref p) (upd H p (.tup (xs ++ ys))))
theorem Vals.nil_iff {xs : List V} {us : List Value} (r : Vals xs us) : us = [] ↔ xs = [] := by
 cases r with
 | nil => simp
 | cons _ _ => simp
theorem op_catT : OpR X (binaryOp .Add) (rCatT X.K) := by
 intro pins s σ H x y v u Q I rx ry h
 obtain ⟨a, b, xs, ys, rfl, rfl, ha, hb, hx, hz, q1, q2⟩ := h
 cases rx
 cases ry
 obtain ⟨its, r1, p1, _⟩ := I.tuple ha
 obtain ⟨its2, r2, p2, _⟩ := I.tuple hb
 refine HT.cat_tup p1 p2 (fun z => hx (r1.nil_iff.mp z)) (fun z => ⟨.ref a, H, I, rfl, q1 (r2.nil_iff.mp z)⟩) (fun z => ?_) (by rw [← r1.length, ← r2.length]; exact hz)
 refine ⟨.ref s.heap.objs.size, _, I.laid (t' := s.toks) (o := .tup (xs ++ ys)) (fun b ob q => Heap.get?_push_of_some _ q) (Nat.le_refl _) ?_, rfl, q2 (fun w => z (r2.nil_iff.mpr w)) _ (I.hok.fresh (Nat.le_refl _))⟩
 exact ⟨by rw [List.length_append]; exact hz, _, r1.append r2, IsTup.new _ _⟩
end
end L2
namespace L2
open PySem PySem.Spec PyProof.Rows
def ixN (n : Nat) (i : Int) : Option Nat := if 0 ≤ i then (if i < n then some i.toNat else none) else if -(n : Int) ≤ i then some (i + n).toNat else none
def atI {α : Type} (xs : List α) (i : Int) : Option α := (ixN xs.length i).bind fun j => xs[j]?
theorem ixN_seq {n : Nat} {i : Int} {j : Nat} (h : ixN n i = some j) : seqIndex? i n = some j ∧ j < n ∧ -(n : Int) ≤ i ∧ i < n := by
 unfold ixN at h
 by_cases h0 : 0 ≤ i
 ·rw [if_pos h0] at h
  by_cases h1 : i < n
  ·rw [if_pos h1] at h
   have e : i.toNat = j := Option.some.inj h
   exact ⟨by rw [seqIndex_of h0 h1, e], by omega, by omega, h1⟩
  ·rw [if_neg h1] at h; cases h
 ·rw [if_neg h0] at h
  by_cases h1 : -(n : Int) ≤ i
  ·rw [if_pos h1] at h
   have e : (i + n).toNat = j := Option.some.inj h
   exact ⟨by rw [seqIndex_neg (by omega) h1, e], by omega, h1, by omega⟩
  ·rw [if_neg h1] at h; cases h
theorem atI_get {α : Type} {xs : List α} {i : Int} {v : α} (h : atI xs i = some v) : ∃ j, seqIndex? i xs.length = some j ∧ xs[j]? = some v ∧ j < xs.length ∧ -(xs.length : Int) ≤ i ∧ i < xs.length := by
 unfold atI at h
 cases e : ixN xs.length i with
 | none => rw [e] at h; cases h
 | some j =>
  rw [e] at h
  obtain ⟨h1, h2, h3, h4⟩ := ixN_seq e
  exact ⟨j, h1, h, h2, h3, h4⟩
theorem atI_nat {α : Type} {xs : List α} {j : Nat} {v : α} (h : xs[j]? = some v) : atI xs (j : Int) = some v := by
 have hj : j < xs.length := (List.getElem?_eq_some_iff.mp h).1
 have e : ixN xs.length (j : Int) = some j := by
  unfold ixN
  rw [if_pos (by omega), if_pos (by omega)]; simp
 unfold atI; rw [e]; exact h
def PlainIx (b : Expr) : Prop := ∀ o i, subscripted b false o i = operate [o, i] (getItem o i)
def IxR (X : Cx) (r : R2) : Prop :=
 ∀ (value slice : Expr) (pins : List (Addr × Obj)) (s : Shared) (σ : St) (H : Hp) (x y : V) (v u : Value) (Q : VK), Inv X pins σ H s → RelV x v → RelV y u → r x y H Q →
  subscripted slice false v u = operate [v, u] (getItem v u) → wpAny (model X.prog X.w) X.A (subscriptTail value slice v u) (EP X pins σ Q) X.xe s
def MtR (X : Cx) (id : String) (r : V → List V → Hp → VK → Prop) : Prop :=
 ∀ (pins : List (Addr × Obj)) (s : Shared) (σ : St) (H : Hp) (x : V) (xs : List V) (v : Value) (us : List Value) (Q : VK), Inv X pins σ H s → RelV x v → Vals xs us → r x xs H Q →
  wpAny (model X.prog X.w) X.A (call (.builtin id) (v :: us)) (EP X pins σ Q) X.xe s
section
variable {X : Cx} {a b : Expr} {ta tb : TE} {pos : Pos}
theorem pe_ix {r : R2} (hr : IxR X r) (ha : PE X a ta) (hb : PE X b tb) (hs : PlainIx b) : PE X (.Subscript a b pos) (tOp r ta tb) := by
 intro pins s σ H Q I h
 exact Subscript_ (binT ha hb I h fun v u s2 x y H2 I2 rx ry q => hr a b pins s2 σ H2 x y v u Q I2 rx ry q (hs _ _))
def rIxL (K : PySem.W.Frag) : R2 := fun x y H Q => ∃ p xs i v, x = .ref p ∧ y = .int i ∧ SqL K H p xs ∧ atI xs i = some v ∧ Q v H
def rIxT (K : PySem.W.Frag) : R2 := fun x y H Q => ∃ p xs i v, x = .ref p ∧ y = .int i ∧ SqT K H p xs ∧ atI xs i = some v ∧ Q v H
def rIxS : R2 := fun x y H Q => ∃ z i c, x = .str z ∧ y = .int i ∧ z.length ≤ sizeLine ∧ atI z.cps.toList i = some c ∧ Q (.str ⟨#[c]⟩) H
theorem ix_list : IxR X (rIxL X.K) := by
 intro value slice pins s σ H x y v u Q I rx ry h hs
 obtain ⟨p, xs, i, z, rfl, rfl, hq, he, q⟩ := h
 cases rx
 obtain ⟨t, rfl⟩ := ry
 obtain ⟨its, r, pl, hz⟩ := I.list hq
 obtain ⟨j, h1, h2, h3, h4, h5⟩ := atI_get he
 obtain ⟨w, ew, rw'⟩ := r.get h2
 have hl := r.length
 have hn := line63
 have fin : EP X pins σ Q w s := ⟨z, H, I, rw', q⟩
 by_cases h0 : 0 ≤ i
 ·have hj : i.toNat = j := by
   rw [seqIndex_of h0 h5] at h1
   exact Option.some.inj h1
  exact item_listR pl.isList h0 (by omega) (by rw [hj]; simpa using ew) fin hs
 ·have hj : (i + (its.toArray.size : Int)).toNat = j := by
   rw [seqIndex_neg (by omega) h4] at h1
   rw [List.size_toArray, ← hl]
   exact Option.some.inj h1
  exact subscriptTail_builtinR (x := w) pl.isList.typeIs slot_list_getitem.lookup
   (wpAny_getItem_list_neg (Q := fun r s' => r = w ∧ EP X pins σ Q r s') pl.isList (by omega) (by rw [List.size_toArray] <;> omega) (by omega) (by rw [hj]; simpa using ew) ⟨rfl, fin⟩) hs
theorem ix_tup : IxR X (rIxT X.K) := by
 intro value slice pins s σ H x y v u Q I rx ry h hs
 obtain ⟨p, xs, i, z, rfl, rfl, hq, he, q⟩ := h
 cases rx
 obtain ⟨t, rfl⟩ := ry
 obtain ⟨its, r, pl, hz⟩ := I.tuple hq
 obtain ⟨j, h1, h2, h3, h4, h5⟩ := atI_get he
 obtain ⟨w, ew, rw'⟩ := r.get h2
 have hl := r.length
 have hn := line63
 have fin : EP X pins σ Q w s := ⟨z, H, I, rw', q⟩
 exact subscriptTail_builtinR (x := w) pl.typeIs slot_tuple_getitem.lookup
  (getItem_tuple (j := j) (Q := fun r s' => r = w ∧ EP X pins σ Q r s') pl (by omega) (by omega) (by rw [List.size_toArray, ← hl]; exact h1) (by simpa using ew) ⟨rfl, fin⟩) hs
theorem ix_str : IxR X rIxS := by
 intro value slice pins s σ H x y v u Q I rx ry h hs
 obtain ⟨z, i, c, rfl, rfl, hz, he, q⟩ := h
 obtain ⟨t, rfl⟩ := rx
 obtain ⟨t', rfl⟩ := ry
 obtain ⟨j, h1, h2, h3, h4, h5⟩ := atI_get he
 have hl : z.cps.toList.length = z.length := by simp [Str.length]
 rw [hl] at h1 h4 h5
 have hn := line63
 exact tail_any (typeIs_str s z t) slot_str_getitem.lookup (getItem_str (c := c) (by
  have e1 : decide (i < -(2 ^ 63 : Int)) = false := decide_eq_false (by omega)
  have e2 : decide (i ≥ 2 ^ 63) = false := decide_eq_false (by omega)
  rw [e1, e2, Bool.or_false]) (by rw [h1]; simpa using h2) ⟨.str ⟨#[c]⟩, H, I.tok _, ⟨_, rfl⟩, q⟩) hs
theorem mapSeq_set (its : List Value) (n j : Nat) (u : Value) : Obj.mapSeq (·.setIfInBounds j u) { cls := .type "list", data := .seq its.toArray n } = { cls := .type "list", data := .seq (its.set j u).toArray n } := by
 simp [Obj.mapSeq]
theorem Inv.lst {pins : List (Addr × Obj)} {σ : St} {H : Hp} {s : Shared} {p : Addr} {xs : List V} (I : Inv X pins σ H s) (h : H p = some (.lst xs)) :
  ∃ (its : List Value) (n : Nat), Vals xs its ∧ s.heap.get? p = some { cls := .type "list", data := .seq its.toArray n } ∧ xs.length ≤ sizeLine := by
 obtain ⟨z, its, n, r, e⟩ := I.hok p _ h
 exact ⟨its, n, r, e, z⟩
theorem Inv.lstUpd {pins : List (Addr × Obj)} {σ : St} {H : Hp} {s : Shared} {p : Addr} {xs ys : List V} {its its' : List Value} {n n' : Nat} {f : Obj → Obj} (I : Inv X pins σ H s) (h : H p = some (.lst xs))
  (ho : s.heap.get? p = some { cls := .type "list", data := .seq its.toArray n }) (hf : f { cls := .type "list", data := .seq its.toArray n } = { cls := .type "list", data := .seq its'.toArray n' }) (r : Vals ys its') (hz : ys.length ≤ sizeLine) (t : Nat) :
  Inv X pins σ (upd H p (.lst ys)) { s with heap := s.heap.update p f, toks := t } := by
 have e : (s.heap.update p f).get? p = some { cls := .type "list", data := .seq its'.toArray n' } := by
  rw [Heap.get?_update_self f ho (by rw [hf] <;> rfl), hf]
 refine I.write (x := p) (e := p) (by rw [h]; trivial) (.inl rfl) (fun b u hb q => (Heap.get?_update_other _ _ (Ne.symm hb)).trans q) ⟨_, e⟩ ?_
 exact ⟨hz, its', n', r, e⟩
def rSetL : V → V → V → Hp → (Hp → Prop) → Prop := fun o i v H Q => ∃ p xs k j, o = .ref p ∧ i = .int k ∧ H p = some (.lst xs) ∧ ixN xs.length k = some j ∧ Q (upd H p (.lst (xs.set j v)))
theorem set_list : PSet X rSetL := by
 intro pins s σ H o i v ov iv u Q I ro ri rv h
 obtain ⟨p, xs, k, j, rfl, rfl, hp, hj, q⟩ := h
 cases ro
 obtain ⟨t, rfl⟩ := ri
 obtain ⟨its, n, r, ho, hz⟩ := I.lst hp
 obtain ⟨h1, h2, h3, h4⟩ := ixN_seq hj
 have hl := r.length
 have hn := line63
 have I' : Inv X pins σ (upd H p (.lst (xs.set j v))) { s with heap := s.heap.update p (Obj.mapSeq (·.setIfInBounds j u)) } :=
  I.lstUpd hp ho (mapSeq_set its n j u) (r.set rv j) (by rw [List.length_set]; exact hz) s.toks
 by_cases h0 : 0 ≤ k
 ·have hk : k.toNat = j := by
   rw [seqIndex_of h0 h4] at h1
   exact Option.some.inj h1
  exact PySem.W.ki_setAt ho h0 (by omega) (by rw [List.size_toArray, ← hl]; exact h4) (by rw [hk]; exact ⟨_, I', q⟩)
 ·have hk : (k + (its.toArray.size : Int)).toNat = j := by
   rw [seqIndex_neg (by omega) h3] at h1
   rw [List.size_toArray, ← hl]
   exact Option.some.inj h1
  exact PySem.W.ki_setBack ho (by omega) (by rw [List.size_toArray, ← hl]; exact h3) (by omega) (by rw [hk]; exact ⟨_, I', q⟩)
theorem slice_bounds (lo hi : Option Int) (n : Nat) : (sliceBounds lo hi none n).1 = ((HT.sIx n 0 lo : Nat) : Int) ∧ (sliceBounds lo hi none n).2.1 = ((HT.sIx n n hi : Nat) : Int) ∧ (sliceBounds lo hi none n).2.2 = 1 := by
 refine ⟨?_, ?_, rfl⟩
 ·cases lo with
  | none => simp [sliceBounds, HT.sIx]
  | some i =>
   simp only [sliceBounds, HT.sIx, Option.getD_none, show (1 : Int) > 0 by decide, if_true]
   by_cases h : i < 0
   ·simp only [h, if_true] <;> omega
   ·simp only [h, if_false] <;> omega
 ·cases hi with
  | none => simp [sliceBounds, HT.sIx]
  | some i =>
   simp only [sliceBounds, HT.sIx, Option.getD_none, show (1 : Int) > 0 by decide, if_true]
   by_cases h : i < 0
   ·simp only [h, if_true] <;> omega
   ·simp only [h, if_false] <;> omega
theorem slicePick_cut (its : List Value) (lo hi : Option Int) : slicePick its.toArray lo hi none = ((its.drop (HT.sIx its.length 0 lo)).take (HT.sIx its.length its.length hi - HT.sIx its.length 0 lo)).toArray := by
 obtain ⟨h1, h2, h3⟩ := slice_bounds lo hi its.toArray.size
 unfold slicePick
 rw [h1, h2, h3]
 simp only [sliceRange_one, pick_run, List.size_toArray] <;> rfl
def rSlL (K : PySem.W.Frag) : V → Option Int → Option Int → Hp → VK → Prop := fun x lo hi H Q => ∃ a xs, x = .ref a ∧ SqL K H a xs ∧ ∀ p, H p = none → Q (.ref p) (upd H p (.lst (cutV xs lo hi)))
theorem sl_list : SlR X (rSlL X.K) := by
 intro pins s σ H x v vl vu lo hi sl Q I rx hs pl pu h
 obtain ⟨a, xs, rfl, hx, q⟩ := h
 cases rx
 obtain ⟨its, r, ht, hz⟩ := I.list hx
 have hlen := r.length
 refine ⟨"list", _, slot_list_getitem.lookup, ht.isList.typeIs, ?_⟩
 refine wpAny_getItem_list_slice ht.isList hs pl pu .none (by simp) ?_ (by rw [List.size_toArray] <;> omega)
 rw [slicePick_cut, ← hlen]
 refine ⟨.ref s.heap.objs.size, _, I.laid (t' := s.toks) (o := .lst (cutV xs lo hi)) (fun b ob q => Heap.get?_push_of_some _ q) (Nat.le_refl _) ?_, rfl, q _ (I.hok.fresh (Nat.le_refl _))⟩
 exact ⟨Nat.le_trans (cutV_length xs lo hi) hz, _, 0, (r.drop (HT.sIx xs.length 0 lo)).take (HT.sIx xs.length xs.length hi - HT.sIx xs.length 0 lo), Heap.get?_push_size _ rfl⟩
def flatV : V → Bool
 | .non => true
 | .bl _ => true
 | .int _ => true
 | .str _ => true
 | _ => false
def eqV : V → V → Bool
 | .non, .non => true
 | .bl a, .bl b => a == b
 | .bl a, .int b => (if a then 1 else 0) == b
 | .int a, .bl b => a == (if b then 1 else 0)
 | .int a, .int b => a == b
 | .str a, .str b => a == b
 | _, _ => false
theorem eqAt_V {A : Around} {s : Shared} {y x : V} {u v : Value} (ry : RelV y u) (rx : RelV x v) (fy : flatV y = true) (fx : flatV x = true) : SeqAt.EqAt A s u v (eqV y x) := by
 cases y with
 | non =>
  cases ry
  cases x with
  | non => cases rx; exact SeqAt.EqAt.same _
  | bl b => cases rx; exact SeqAt.EqAt.none_bool b
  | int b => obtain ⟨t, rfl⟩ := rx; exact SeqAt.EqAt.none_int b t
  | str b => obtain ⟨t, rfl⟩ := rx; exact SeqAt.EqAt.none_str b t
  | _ => exact absurd (show false = true from fx) Bool.false_ne_true
 | bl a =>
  cases ry
  cases x with
  | non => cases rx; exact SeqAt.EqAt.bool_none a
  | bl b => cases rx; exact SeqAt.EqAt.bool_bool a b
  | int b => obtain ⟨t, rfl⟩ := rx; exact SeqAt.EqAt.bool_int a b t
  | str b => obtain ⟨t, rfl⟩ := rx; exact SeqAt.EqAt.bool_str a b t
  | _ => exact absurd (show false = true from fx) Bool.false_ne_true
 | int a =>
  obtain ⟨t', rfl⟩ := ry
  cases x with
  | non => cases rx; exact SeqAt.EqAt.int_none a t'
  | bl b => cases rx; exact SeqAt.EqAt.int_bool a t' b
  | int b => obtain ⟨t, rfl⟩ := rx; exact SeqAt.EqAt.int_int a t' b t
  | str b => obtain ⟨t, rfl⟩ := rx; exact SeqAt.EqAt.int_str a t' b t
  | _ => exact absurd (show false = true from fx) Bool.false_ne_true
 | str a =>
  obtain ⟨t', rfl⟩ := ry
  cases x with
  | non => cases rx; exact SeqAt.EqAt.str_none a t'
  | bl b => cases rx; exact SeqAt.EqAt.str_bool a t' b
  | int b => obtain ⟨t, rfl⟩ := rx; exact SeqAt.EqAt.str_int a t' b t
  | str b => obtain ⟨t, rfl⟩ := rx; exact SeqAt.EqAt.str_str a t' b t
  | _ => exact absurd (show false = true from fx) Bool.false_ne_true
 | _ => exact absurd (show false = true from fy) Bool.false_ne_true
def eqU (x : V) (u : Value) : Bool := match u with
 | .none => eqV .non x
 | .bool b => eqV (.bl b) x
 | .int i _ => eqV (.int i) x
 | .str z _ => eqV (.str z) x
 | _ => false
theorem eqU_of {x y : V} {u : Value} (r : RelV y u) (f : flatV y = true) : eqU x u = eqV y x := by
 cases y with
 | non => cases r; rfl
 | bl b => cases r; rfl
 | int i => obtain ⟨t, rfl⟩ := r; rfl
 | str z => obtain ⟨t, rfl⟩ := r; rfl
 | _ => exact absurd (show false = true from f) Bool.false_ne_true
theorem mem_eqAt {A : Around} {s : Shared} {x : V} {v : Value} (rx : RelV x v) (fx : flatV x = true) : ∀ {xs : List V} {us : List Value}, Vals xs us → xs.all flatV = true → ∀ u ∈ us, SeqAt.EqAt A s u v (eqU x u)
 | _, _, .nil, _ => fun u hu => by cases hu
 | y :: xs, u :: us, .cons r t, f => fun u' hu => by
  rw [List.all_cons, Bool.and_eq_true] at f
  rcases List.mem_cons.mp hu with rfl | hu
  ·rw [eqU_of r f.1]; exact eqAt_V r rx f.1 fx
  ·exact mem_eqAt rx fx t f.2 u' hu
theorem op_notIn_str : OpR X (compareOp .NotIn) (fun x y H Q => ∃ i j, x = .str i ∧ y = .str j ∧ Q (.bl (!(!(Builtin.Str.occurrences j i 0 j.length 1).isEmpty))) H) := by
 intro pins s σ H x y v u Q I rx ry h
 obtain ⟨i, j, rfl, rfl, q⟩ := h
 obtain ⟨t, rfl⟩ := rx
 obtain ⟨t', rfl⟩ := ry
 exact notIn_str ⟨.bl _, H, I, rfl, q⟩
theorem call_len_seq : CallR X (.builtin "len") (fun xs H Q => ∃ p ys, xs = [.ref p] ∧ (SqL X.K H p ys ∨ SqT X.K H p ys) ∧ Q (.int ys.length) H) := by
 intro pins s σ H xs us Q I r h
 obtain ⟨p, ys, rfl, hq, q⟩ := h
 obtain ⟨u, rfl, rx⟩ := vals1 r
 cases rx
 have hn := line63
 rcases hq with hq | hq
 ·obtain ⟨its, r', pl, hz⟩ := I.list hq
  have hlen := r'.length
  exact Calls.call_len_list pl.isList (by simp only [List.size_toArray] <;> omega) ⟨.int ys.length, H, I.tok _, ⟨s.toks + 1, by rw [List.size_toArray, hlen]⟩, q⟩
 ·obtain ⟨its, r', pl, hz⟩ := I.tuple hq
  have hlen := r'.length
  exact len_tuple pl (by simp only [List.size_toArray] <;> omega) ⟨.int ys.length, H, I.tok _, ⟨s.toks + 1, by rw [List.size_toArray, hlen]⟩, q⟩
theorem call_len_str : CallR X (.builtin "len") (fun xs H Q => ∃ z, xs = [.str z] ∧ z.length ≤ sizeLine ∧ Q (.int z.length) H) := by
 intro pins s σ H xs us Q I r h
 obtain ⟨z, rfl, hz, q⟩ := h
 obtain ⟨u, rfl, t, rfl⟩ := vals1 r
 have hn := line63
 exact len_str (by omega) ⟨.int z.length, H, I.tok _, ⟨_, rfl⟩, q⟩
theorem call_list_of : CallR X (.type "list") (fun xs H Q => ∃ p ys, xs = [.ref p] ∧ (SqL X.K H p ys ∨ SqT X.K H p ys) ∧ ∀ l, H l = none → Q (.ref l) (upd H l (.lst ys))) := by
 intro pins s σ H xs us Q I r h
 obtain ⟨p, ys, rfl, hq, q⟩ := h
 obtain ⟨u, rfl, rx⟩ := vals1 r
 cases rx
 have fin : ∀ (its : List Value), Vals ys its → ys.length ≤ sizeLine → ∀ (h' : Heap) (c' : Nat), (∀ b o', s.heap.get? b = some o' → h'.get? b = some o') →
   h'.get? s.heap.objs.size = some { cls := .type "list", dict := none, data := .seq its.toArray c', slots := #[] } → EP X pins σ Q (.ref s.heap.objs.size) { s with heap := h' } := fun its r' hz h' c' kp e =>
  ⟨.ref s.heap.objs.size, _, I.laid (t' := s.toks) kp (Nat.le_refl _) (show ObjOk X.prog X.w _ h' _ (.lst ys) from ⟨hz, its, c', r', e⟩), rfl, q _ (I.hok.fresh (Nat.le_refl _))⟩
 rcases hq with hq | hq
 ·obtain ⟨its, r', pl, hz⟩ := I.list hq
  have hlen := r'.length
  obtain ⟨o, ho, hc, n, hd⟩ := pl.isList
  exact call_list_seq p (.inl rfl) ho hc hd (fun h' c' kp e => fin its r' hz h' c' kp e) (by simp only [List.size_toArray] <;> omega)
 ·obtain ⟨its, r', pl, hz⟩ := I.tuple hq
  have hlen := r'.length
  obtain ⟨o, ho, hc, n, hd⟩ := pl
  exact call_list_seq p (.inr rfl) ho hc hd (fun h' c' kp e => fin its r' hz h' c' kp e) (by simp only [List.size_toArray] <;> omega)
theorem call_tuple_of : CallR X (.type "tuple") (fun xs H Q => ∃ p ys, xs = [.ref p] ∧ ((SqL X.K H p ys ∧ ∀ l, H l = none → Q (.ref l) (upd H l (.tup ys))) ∨ (SqT X.K H p ys ∧ Q (.ref p) H))) := by
 intro pins s σ H xs us Q I r h
 obtain ⟨p, ys, rfl, h⟩ := h
 obtain ⟨u, rfl, rx⟩ := vals1 r
 cases rx
 rcases h with ⟨hq, q⟩ | ⟨hq, q⟩
 ·obtain ⟨its, r', pl, hz⟩ := I.list hq
  have hlen := r'.length
  refine call_tuple_list pl.isList (fun h' kp => ?_) (by simp only [List.size_toArray] <;> omega)
  have I1 : Inv X pins σ H { s with heap := h' } := I.kept (t' := s.toks) kp
  have I2 : Inv X pins σ (upd H h'.objs.size (.tup ys)) { s with heap := h'.push { cls := .type "tuple", data := .seq its.toArray } } :=
   I1.laid (t' := s.toks) (fun b o e => Heap.get?_push_of_some _ e) (Nat.le_refl _) (show ObjOk X.prog X.w _ _ _ (.tup ys) from ⟨hz, its, r', IsTup.new _ _⟩)
  exact ⟨.ref h'.objs.size, _, I2, rfl, q _ (I1.hok.fresh (Nat.le_refl _))⟩
 ·obtain ⟨its, r', pl, hz⟩ := I.tuple hq
  exact call_tuple_same pl ⟨.ref p, H, I, rfl, q⟩
def tyV (K : PySem.W.Frag) (T : String) (x : V) (H : Hp) : Prop := match x with
 | .str _ => T = "str"
 | .int _ => T = "int"
 | .ref p => (T = "list" ∧ ∃ xs, SqL K H p xs) ∨ (T = "tuple" ∧ ∃ o, K.lookup p = some o ∧ o.cls = .type "tuple" ∧ o.dict = none) ∨
   (T = "dict" ∧ ((∃ kvs, H p = some (.dK kvs)) ∨ ∃ kvs, H p = some (.dT kvs))) ∨ (T = "set" ∧ ∃ S n, H p = some (.set S n))
 | _ => False
theorem tyV_is {pins : List (Addr × Obj)} {σ : St} {H : Hp} {s : Shared} {T : String} {x : V} {v : Value} (I : Inv X pins σ H s) (r : RelV x v) (ty : tyV X.K T x H) :
  s.TypeIs v T ∧ ∀ a, v = .ref a → ∃ ob, s.heap.get? a = some ob ∧ ob.dict = none := by
 cases x with
 | str z =>
  obtain ⟨t, rfl⟩ := r
  cases (show T = "str" from ty)
  exact ⟨typeIs_str s z t, fun _ e => nomatch e⟩
 | int i =>
  obtain ⟨t, rfl⟩ := r
  cases (show T = "int" from ty)
  exact ⟨typeIs_int s i t, fun _ e => nomatch e⟩
 | ref p =>
  cases r
  rcases ty with ⟨rfl, xs, hq⟩ | ⟨rfl, o, hk, hc, hd⟩ | ⟨rfl, hk⟩ | ⟨rfl, S, n, hk⟩
  ·obtain ⟨its, _, pl, _⟩ := I.list hq
   refine ⟨pl.isList.typeIs, fun a e => ?_⟩
   cases e
   obtain ⟨o, n, e, c, hd, _⟩ := pl
   exact ⟨o, e, hd⟩
  ·refine ⟨⟨o, I.kIn p o hk, hc⟩, fun a e => ?_⟩
   cases e
   exact ⟨o, I.kIn _ o hk, hd⟩
  ·have z : ∃ o, s.heap.get? p = some o ∧ o.ExactDict := by
    rcases hk with ⟨kvs, hk⟩ | ⟨kvs, hk⟩
    ·obtain ⟨_, _, _, _, o, _, _, e, ex, _⟩ := I.hok p _ hk
     exact ⟨o, e, ex⟩
    ·obtain ⟨_, _, _, _, o, _, _, e, ex, _⟩ := I.hok p _ hk
     exact ⟨o, e, ex⟩
   obtain ⟨o, e, ex⟩ := z
   refine ⟨⟨o, e, ex.1⟩, fun a e2 => ?_⟩
   cases e2
   exact ⟨o, e, ex.2.1⟩
  ·obtain ⟨o, _, _, _, e, ex, _⟩ := I.hok p _ hk
   refine ⟨⟨o, e, ex.1⟩, fun a e2 => ?_⟩
   cases e2
   exact ⟨o, e, ex.2.1⟩
 | _ => exact False.elim ty
def tBM0 (K : PySem.W.Frag) (T : String) (r : V → List V → Hp → VK → Prop) (to : TE) : TE := fun σ H Q => to σ H fun x H1 => tyV K T x H1 ∧ r x [] H1 Q
def tBM (K : PySem.W.Frag) (T : String) (r : V → List V → Hp → VK → Prop) (to : TE) (t : TA) : TE := fun σ H Q => to σ H fun x H1 => tyV K T x H1 ∧ t σ H1 fun xs H2 => r x xs H2 Q
variable {o e : Expr} {es : List Expr} {to : TE} {t : TA} {name : Str} {apos cpos : Pos} {T id : String} {r : V → List V → Hp → VK → Prop}
theorem pe_bm0 (pa : PlainAttrs T) (slot : Slot T name id) (hty : typeOf (.builtin id) = pure (.type "method_descriptor")) (hm : MtR X id r) (ho : PE X o to)
  (hbase : attributeBase o name X.env (eval o X.env) = eval o X.env := by rfl) (hline : (apos.endLine == cpos.line) = true := by rfl) : PE X (.Call (.Attribute o name apos) [] [] cpos) (tBM0 X.K T r to) := by
 intro pins s σ H Q I h
 refine wpAny_Call_method0_late hbase hline (thn (ho pins s σ H _ I h) fun v s1 ⟨x, H1, I1, r1, ty, q1⟩ => ?_)
 obtain ⟨h1, h2⟩ := tyV_is I1 r1 ty
 exact ⟨T, id, pa, slot, hty, h1, h2, Calls.callWith_builtin rfl (PySem.evalArgs_none (hm pins s1 σ H1 x [] v [] Q I1 r1 .nil q1))⟩
theorem pe_bm (pa : PlainAttrs T) (slot : Slot T name id) (hty : typeOf (.builtin id) = pure (.type "method_descriptor")) (hm : MtR X id r) (ho : PE X o to) (ha : PA X (e :: es) t)
  (hbase : attributeBase o name X.env (eval o X.env) = eval o X.env := by rfl)
  (hfew : ((backTo cpos (starEach (e :: es) X.env)).all (fun x => !x.1) && (backToKw cpos (keywordEach [] X.env)).all (fun x => x.1.isSome)
   && decide ((e :: es).length + ([] : List Keyword).length + (if ([] : List Keyword).isEmpty then 0 else 1) < 30)) = true := by rfl)
  (hline : (apos.endLine == cpos.line) = true := by rfl) (hs : starEach (e :: es) X.env = (false, eval e X.env) :: starEach es X.env := by rfl) (hplain : (backTo cpos (starEach es X.env)).any (·.1) = false := by rfl) :
  PE X (.Call (.Attribute o name apos) (e :: es) [] cpos) (tBM X.K T r to t) := by
 intro pins s σ H Q I h
 refine wpAny_Call_method_late hbase hfew hline rfl (thn (ho pins s σ H _ I h) fun v s1 ⟨x, H1, I1, r1, ty, q1⟩ => ?_)
 obtain ⟨h1, h2⟩ := tyV_is I1 r1 ty
 refine ⟨T, id, pa, slot, hty, h1, h2, ?_⟩
 have hA := ha cpos pins s1 σ H1 _ I1 q1
 rw [hs] at hA ⊢
 refine Calls.callWith_builtin (by show (false || (backTo cpos (starEach es X.env)).any (·.1)) = false; rw [hplain] <;> rfl) (Calls.evalArgs_plain ?_)
 exact thn hA fun us s2 ⟨vs, H2, I2, r2, q2⟩ => hm pins s2 σ H2 x vs v us Q I2 r1 r2 q2
end
end L2
namespace L2
open PySem PySem.Spec PyProof.Rows
def MtM (X : Cx) (id : String) (r : V → List V → Hp → VK → Prop) : Prop :=
 ∀ (pins : List (Addr × Obj)) (s : Shared) (σ : St) (H : Hp) (x : V) (xs : List V) (v : Value) (us : List Value) (Q : VK), Inv X pins σ H s → RelV x v → Vals xs us → r x xs H Q →
  wpAny (model X.prog X.w) X.A (call (.builtin id) (v :: us)) (EP X pins σ Q) X.xe s
theorem Vals.one : ∀ {x : V} {us : List Value}, Vals [x] us → ∃ u, us = [u] ∧ RelV x u
 | _, _, .cons r .nil => ⟨_, rfl, r⟩
theorem Vals.rep {xs : List V} {us : List Value} (h : Vals xs us) : ∀ k : Nat, Vals (List.replicate k xs).flatten (List.replicate k us).flatten
 | 0 => .nil
 | k + 1 => by
  rw [List.replicate_succ, List.replicate_succ, List.flatten_cons, List.flatten_cons]
  exact Vals.append h (Vals.rep h k)
theorem foldl_rep (its : List Value) : ∀ (k : Nat) (acc : List Value),
  List.foldl (fun x1 x2 => x1 ++ x2) acc.toArray (List.replicate k its.toArray) = (acc ++ (List.replicate k its).flatten).toArray
 | 0, acc => by simp
 | k + 1, acc => by
  have e : acc.toArray ++ its.toArray = (acc ++ its).toArray := by simp
  have e2 : (acc ++ its) ++ (List.replicate k its).flatten = acc ++ (List.replicate (k + 1) its).flatten := by
   rw [List.replicate_succ, List.flatten_cons, List.append_assoc]
  rw [← e2, ← foldl_rep its k (acc ++ its), ← e, List.replicate_succ, List.foldl_cons]
section
variable {X : Cx} {pins : List (Addr × Obj)} {σ : St} {H : Hp} {s : Shared} {l b : Addr} {xs ys zs : List V}
theorem Inv.lset {its its' : List Value} {n : Nat} {f : Array Value → Array Value} {t' : Nat} (I : Inv X pins σ H s) (hH : H l = some (.lst xs))
  (e : s.heap.get? l = some { cls := .type "list", data := .seq its.toArray n }) (hf : f its.toArray = its'.toArray) (hv : Vals ys its') (hz : ys.length ≤ sizeLine) :
  Inv X pins σ (upd H l (.lst ys)) { s with heap := s.heap.update l (Obj.mapSeq f), toks := t' } := by
 have q := PySem.IsL.update e f
 rw [hf] at q
 refine I.write (x := l) (e := l) (by rw [hH]; exact trivial) (.inl rfl) (fun b' u hb hu => (Heap.get?_update_other s.heap (Obj.mapSeq f) (Ne.symm hb)).trans hu) ⟨_, q⟩ ?_
 exact ⟨hz, its', _, hv, q⟩
theorem Inv.lnew {its : List Value} {t' : Nat} (I : Inv X pins σ H s) (hv : Vals ys its) (hz : ys.length ≤ sizeLine) :
  Inv X pins σ (upd H s.heap.objs.size (.lst ys)) { s with heap := s.heap.push { cls := .type "list", data := .seq its.toArray }, toks := t' } :=
 I.laid (fun _ _ q => Heap.get?_push_of_some _ q) (Nat.le_refl _) ⟨hz, its, 0, hv, Heap.get?_push_size _ rfl⟩
theorem Inv.fresh (I : Inv X pins σ H s) : H s.heap.objs.size = none := I.hok.fresh (Nat.le_refl _)
theorem Inv.lstM (I : Inv X pins σ H s) (hH : H l = some (.lst xs)) : xs.length ≤ sizeLine ∧ ∃ (its : List Value) (n : Nat), Vals xs its ∧ xs.length = its.length ∧ s.heap.get? l = some { cls := .type "list", data := .seq its.toArray n } := by
 obtain ⟨z, its, n, r, e⟩ := I.hok l _ hH
 exact ⟨z, its, n, r, r.length, e⟩
theorem notLongL {n : Nat} (h : n ≤ sizeLine) : Builtin.List.listTooLong n = false := by
 unfold Builtin.List.listTooLong
 exact decide_eq_false (by omega)
end
section
variable {X : Cx}
def rAppend : V → List V → Hp → VK → Prop := fun x vs H Q => ∃ l xs y, x = .ref l ∧ vs = [y] ∧ H l = some (.lst xs) ∧ xs.length < sizeLine ∧ Q .non (upd H l (.lst (xs ++ [y])))
theorem mt_append : MtM X "list.append" rAppend := by
 intro pins s σ H x vs v us Q I rx rv h
 obtain ⟨l, xs, y, rfl, rfl, hH, hz, q⟩ := h
 cases rx
 obtain ⟨u, rfl, ru⟩ := rv.one
 obtain ⟨z, its, n, r, hl, e⟩ := I.lstM hH
 refine call_meets F.slot_list_append ⟨_, e, rfl⟩ F.entry_list_append (F.args_list_append_2 _ _) (PySem.list_append l its.toArray n u (by rw [List.size_toArray]; omega)) ⟨e, ?_⟩
 refine ⟨.non, _, I.lset (its' := its ++ [u]) hH e (by simp) (r.append (.cons ru .nil)) ?_, rfl, q⟩
 rw [List.length_append, List.length_singleton]
 omega
theorem len_rep {α : Type} (xs : List α) (k : Nat) : (List.replicate k xs).flatten.length = k * xs.length := by
 induction k with
 | zero => simp
 | succ k ih => rw [List.replicate_succ, List.flatten_cons, List.length_append, ih, Nat.succ_mul, Nat.add_comm]
end
section
variable {prog : Program} {w : World} {A : Around} {E : Value → Shared → Prop} {s : Shared}
end
section
variable {X : Cx}
end
end L2
namespace Att
open PySem PySem.W PySem.Calls PyProof.Rows
theorem ints_of_wellAll {P : Params} {h : Heap} : ∀ (ns : List Int) (vs : List Value), WellAll P h vs (ns.map WData.int) → IntsAre vs ns := by
 intro ns
 induction ns with
 | nil =>
  intro vs w
  rw [List.map_nil] at w
  cases w
  exact .nil
 | cons n ns ih =>
  intro vs w
  rw [List.map_cons] at w
  cases w with
  | cons a b =>
   cases a
   exact .cons _ _ (ih _ b)
theorem script_of {l : OpenLaw} {n : Nat} (hn : l.most = some n) {P : Params} {h : Heap} {args : List WData} {vals : List Value}
  (hpre : l.row.toRowW.claim.pre args = true) (hwl : WellAll P h vals args) :
  ∃ a vs ns, vals = [Value.ref a] ∧ args = [WData.list (ns.map WData.int)] ∧ h.get? a = some { cls := .type "list", data := .seq vs.toArray } ∧ IntsAre vs ns ∧ ns.length ≤ n := by
 have hsh : WShape.hasAll [] args [.list .int] = true := (pre_splitW hpre).1
 have hc : l.pre.holds [] { args := args } = true := (pre_splitW hpre).2
 obtain ⟨d, r, rfl, h1, h2⟩ := hasAllW_cons hsh
 obtain rfl := hasAllW_nil h2
 obtain ⟨xs, rfl, h3⟩ := hasW_list h1
 obtain ⟨ns, rfl⟩ := items_int h3
 have hlen : ns.length ≤ n := by
  unfold OpenLaw.pre at hc
  have h4 : (WTm.not (.lt (.lit (.int (n : Int))) (.len (.arg 0)))).holds [] { args := [.list (ns.map .int)] } = true := by
   have h4 := (holds_andW hc).1
   rw [hn] at h4
   exact h4
  have h5 := condW_of h4 (w_not (w_lt w_lit (w_len_list (w_arg rfl))))
  rw [List.length_map] at h5
  refine Nat.le_of_not_lt fun q => ?_
  have q' : (n : Int) < ((ns.length : Nat) : Int) := by omega
  first
   | (rw [decide_eq_true q'] at h5; exact absurd h5 (by decide))
   | (simp at h5; omega)
 cases hwl with
 | cons w1 w2 =>
  cases w2
  cases w1 with
  | list ho hall => exact ⟨_, _, ns, rfl, rfl, ho, ints_of_wellAll ns _ hall, hlen⟩
theorem post_true (l : OpenLaw) (args : List WData) : l.row.toRowW.claim.post args (.bool true) args = true :=
 postW_of (r := l.row.toRowW) (X := (true == true))
  (show WShape.has [] (.bool true) .bool = true by first | rfl | decide | simp [WShape.has, WShape.arms, WShape.armsAll])
  (show (WTm.eq .res (.lit (.bool true))).value [] { args := args, res := some (.bool true), after := args } = some (.bool (true == true)) from w_eq_bool (w_res rfl) w_lit) rfl
theorem attach_call {l : OpenLaw} {n : Nat} {q : Program} {loose : List Str} {XP : (Str → Option Value) → Heap → Prop} {YP : World → Heap → Prop} {d : DefRec}
  (hn : l.most = some n) (hdf : d.params.defaults = [])
  (call : ∀ (w : World) (s₀ s₁ : Shared) (mg mb : Str → Option Value) (fa : Addr) (o : Obj) (pm cd doc : Value) (a : Addr) (vs : List Value) (ns : List Int),
   Ground q loose [] XP w s₀ mg mb s₁.heap → YP w s₁.heap →
   s₁.heap.get? fa = some o → o.data = .func (docDef d.name d.params d.body d.scope pm cd doc) → s₁.heap.CodeRec cd d.name → mg d.name = some (.ref fa) →
   s₁.heap.get? a = some { cls := .type "list", data := .seq vs.toArray } → IntsAre vs ns → ns.length ≤ n → s₁.gens = #[] →
   codeAny (model l.prog w) callerA (.call (.ref fa) ⟨[.ref a], []⟩) (fun r s' => r = .ok (.ret (.bool true)) ∧ OldK s₁.heap s'.heap ∧ s'.os = s₁.os ∧ AllBare s'.gens) s₁) :
  WalkO q loose XP YP l.row.toRowW d [] (fun f vs => PySem.call f vs) := by
 intro w s₀ s₁ mg mb G Y fa o pm cd doc dV kV ho hd hcd hD hmg hg args vals as hpre hlay hrd hwl hlo
 obtain rfl : dV = .none := Dflts.none hD hdf
 obtain rfl : kV = .none := Dflts.noKw hD
 obtain ⟨a, vs, ns, rfl, rfl, hobj, hints, hlen⟩ := script_of hn hpre hwl
 refine enter_call (codeAny_mono (call w s₀ s₁ mg mb fa o pm cd doc a vs ns G Y ho (fd_plain hd) hcd hmg hobj hints hlen hg) fun r s' hq => ?_)
 obtain ⟨rfl, h2, h3, h4⟩ := hq
 exact ⟨.inl ⟨.bool true, .bool true, [], rfl, fun _ => rfl, .bool true, post_true l _, fun _ => ⟨List.Pairwise.nil, fun _ hm => (nomatch hm)⟩⟩, h2, h3, h4⟩
section
variable {prog : Program} {w : World} {A : Around} {E : Value → Shared → Prop} {s : Shared} {K : Frag}
end
end Att
namespace L2
open PySem PySem.Spec PyProof.Rows
theorem vals_ints : ∀ {vs : List Value} {ns : List Int}, IntsAre vs ns → Vals (ns.map V.int) vs
 | _, _, .nil => .nil
 | _, _, .cons n t h => .cons ⟨t, rfl⟩ (vals_ints h)
def Only (H : Hp) : Prop := ∀ b, H b = none ∨ ∃ o xs, H b = some (.frz o (.lst xs))
theorem law_call {P : Program} {w : World} {K : PySem.W.Frag} {mg mb : Str → Option Value} {CX : CXT} {k : Nat} {fa a : Addr} {fd : FuncData} {x : Str} {sp : Sp} {s₁ : Shared} {vs : List Value} {ns : List Int}
  (KX : K.In s₁.heap) (hns : s₁.heap.Ns mainGlobals mg) (hb : s₁.heap.Ns builtinsNs mb) (hbb : ∀ x : Str, x ≠ "__name__" → mb x = bootBuiltins x) (hlim : s₁.heap.NoLimit) (hg : s₁.gens = #[])
  (ha : s₁.heap.get? a = some { cls := .type "list", data := .seq vs.toArray }) (hi : IntsAre vs ns) (hl : ns.length ≤ sizeLine) (hr : Room k callerA)
  (F : ∀ base : Heap, K.In base → base.Ns mainGlobals mg → FnOk P w K mg base CX k fa fd [x] sp) (hbind : ∀ (s : Shared) (u : Value), BindsTo s fd ⟨[u], []⟩ [(x, u)])
  (hsp : ∀ H : Hp, Only H → SqL K H a (ns.map V.int) → sp [.ref a] H (fun v _ => v = .bl true) fun _ _ _ => False)
  (hCX : ∀ H e s', CX [] H s₁ (fun _ _ _ => False) e s' → False) :
  codeAny (model P w) callerA (.call (.ref fa) ⟨[.ref a], []⟩) (fun r s' => r = .ok (.ret (.bool true)) ∧ OldK s₁.heap s'.heap ∧ s'.os = s₁.os ∧ AllBare s'.gens) s₁ := by
 have rv := vals_ints hi
 have lenV := hi.length
 have core : ∀ H : Hp, Only H → SqL K H a (ns.map V.int) → HOk P w H s₁.heap → (∀ b, H b ≠ none → b = a) → (H a ≠ none → K.lookup a = none) →
   codeAny (model P w) callerA (.call (.ref fa) ⟨[.ref a], []⟩) (fun r s' => r = .ok (.ret (.bool true)) ∧ OldK s₁.heap s'.heap ∧ s'.os = s₁.os ∧ AllBare s'.gens) s₁ := by
  intro H hO hS hok hA hK
  have base_of : ∀ {b : Addr} {o : Obj}, s₁.heap.get? b = some o → H b = none → (hidT s₁.heap H).get? b = some o := fun e n => hidT_get e n
  have noA : ∀ {b : Addr} {o : Obj} {es : Array DictEntry} {ep : Nat}, s₁.heap.get? b = some o → o.data = .dict es ep → H b = none := fun {b o es ep} e d => by
   cases q : H b with
   | none => rfl
   | some u =>
    have e' : b = a := hA b (by rw [q]; simp)
    subst e'
    rw [ha] at e; cases e
    have d' : Data.seq vs.toArray _ = Data.dict es ep := d
    cases d'
  have nsK : ∀ {b : Addr} {m : Str → Option Value}, s₁.heap.Ns b m → (hidT s₁.heap H).Ns b m := fun {b m} ⟨o, es, ep, e, d, r⟩ => ⟨o, es, ep, base_of e (noA e d), d, r⟩
  have hKb : K.In (hidT s₁.heap H) := fun b o e => base_of (KX b o e) (by
   cases q : H b with
   | none => rfl
   | some u =>
    have e' : b = a := hA b (by rw [q]; simp)
    subst e'
    rw [hK (by rw [q]; simp)] at e; cases e)
  have hM : Mod K mg (hidT s₁.heap H) := ⟨hKb, nsK hns, ⟨mb, nsK hb, hbb⟩, let ⟨mc, h1, h2⟩ := hlim; ⟨mc, nsK h1, h2⟩⟩
  have e0 : Env0 P w K mg (hidT s₁.heap H) callerA [] s₁ H := ⟨rfl, hM, fun b o e => of_hidT e, Nat.le_of_eq (hidT_size _ _), trivial, fun b hb => absurd (show b ∈ ([] : List Addr) from hb) (by simp), hok, .of_eq hg⟩
  refine codeAny_mono ((F _ hKb (nsK hns)).run callerA [] s₁ H ⟨[.ref a], []⟩ [.ref a] [.ref a] _ _ hr e0 (hbind s₁ (.ref a)) (.cons rfl .nil) (hsp H hO hS)) fun r s' h => ?_
  cases r with
  | error e => exact (hCX H e s' h).elim
  | ok fl =>
   cases fl with
   | next => exact False.elim h
   | brk => exact False.elim h
   | cont => exact False.elim h
   | ret u =>
    obtain ⟨v, H', os, bare, un, hok', r', q⟩ := h
    have q' : v = .bl true := q
    subst q'
    obtain rfl : u = Value.bool true := r'
    refine ⟨rfl, OldK.of_keep fun b o e => ?_, os, bare⟩
    cases q : H b with
    | none => exact un.keep b o e q (by intro z; exact absurd (show b ∈ ([] : List Addr) from z) (by simp)) (by simp)
    | some u =>
     rcases hO b with z | ⟨ob, xs, z⟩
     ·rw [q] at z; cases z
     ·have z2 := un.frzs b ob _ z
      obtain ⟨e1, _⟩ := hok b _ z
      obtain ⟨e2, _⟩ := hok' b _ z2
      rw [e] at e1; cases e1
      exact e2
 cases hk : K.lookup a with
 | some o =>
  have e := KX a o hk
  rw [ha] at e
  cases e
  refine core (fun _ => none) (fun _ => .inl rfl) (.inr ⟨_, vs.toArray, _, hk, rfl, rfl, rfl, by rw [List.size_toArray, lenV]; exact hl, by simpa using rv⟩) (fun b u z => by have z' : (none : Option HO) = some u := z; cases z') (fun b z => absurd rfl z) fun z => absurd rfl z
 | none =>
  refine core (fun b => if b = a then some (.frz { cls := .type "list", data := .seq vs.toArray } (.lst (ns.map V.int))) else none) (fun b => ?_) (.inl (.inr ⟨{ cls := .type "list", data := .seq vs.toArray }, if_pos rfl⟩)) (fun b u z => ?_) (fun b z => ?_) fun _ => hk
  ·by_cases hb : b = a
   ·exact .inr ⟨_, _, if_pos hb⟩
   ·exact .inl (if_neg hb)
  ·by_cases hb : b = a
   ·have z' := (if_pos hb).symm.trans z
    cases z'
    subst hb
    exact ⟨ha, by rw [List.length_map]; exact hl, vs, _, rv, ha⟩
   ·have z' := (if_neg hb).symm.trans z
    cases z'
  ·by_cases hb : b = a
   ·exact hb
   ·exact absurd (if_neg hb) z
end L2
namespace L2
open PySem PySem.Spec PyProof.Rows
theorem walk_of {l : PySem.W.OpenLaw} {n k : Nat} {q : Program} {loose : List Str} {XP : (Str → Option Value) → Heap → Prop} {YP : World → Heap → Prop} {d : DefRec} {K : Params → PySem.W.Frag} {CX : World → CXT} {sp : World → Sp} {x : Str}
  (hn : l.most = some n) (hn2 : n ≤ sizeLine) (hdf : d.params.defaults = []) (hr : Room k callerA)
  (hY : ∀ (w : World) (h : Heap), YP w h → (K w.params).In h)
  (F : ∀ (w : World) (mg : Str → Option Value) (fa : Addr) (h : Heap), (K w.params).In h → h.Ns mainGlobals mg → mg d.name = some (.ref fa) →
   ∃ fd : FuncData, (∀ (s : Shared) (u : Value), BindsTo s fd ⟨[u], []⟩ [(x, u)]) ∧
    ∀ base : Heap, (K w.params).In base → base.Ns mainGlobals mg → FnOk l.prog w (K w.params) mg base (CX w) k fa fd [x] (sp w))
  (hsp : ∀ (w : World) (H : Hp) (a : Addr) (ns : List Int), ns.length ≤ n → Only H → SqL (K w.params) H a (ns.map V.int) → sp w [.ref a] H (fun v _ => v = .bl true) fun _ _ _ => False)
  (hCX : ∀ (w : World) (H : Hp) (s : Shared) (e : Value) (s' : Shared), CX w [] H s (fun _ _ _ => False) e s' → False) :
  PySem.W.WalkO q loose XP YP l.row.toRowW d [] (fun f vs => PySem.call f vs) := by
 refine Att.attach_call hn hdf fun w s₀ s₁ mg mb fa o pm cd doc a vs ns G Y ho hd hcd hmg hobj hints hlen hg => ?_
 have KX := hY w _ Y
 obtain ⟨fd, hb, hF⟩ := F w mg fa _ KX G.T.g hmg
 exact law_call KX G.T.g G.T.b G.T.builtins G.T.nolimit hg hobj hints (Nat.le_trans hlen hn2) hr hF hb (fun H hO hS => hsp w H a ns hlen hO hS) fun H e s' => hCX w H s₁ e s'
end L2
namespace L2
open PySem PySem.Spec PyProof.Rows
def defArgs (s : Stmt) : Arguments := match s with
 | .FunctionDef _ a _ _ _ _ _ _ _ _ => a
 | _ => { posonlyargs := [], args := [], vararg := none, kwonlyargs := [], kw_defaults := [], kwarg := none, defaults := [] }
def defBody (s : Stmt) : List Stmt := match s with
 | .FunctionDef _ _ b _ _ _ _ _ _ _ => b
 | _ => []
def defScope (s : Stmt) : Scope := match s with
 | .FunctionDef _ _ _ _ _ _ sc _ _ _ => sc
 | _ => { kind := .function, names := [], isGenerator := false, isCoroutine := false }
abbrev CX0 : CXT := fun _ _ _ _ _ _ => False
abbrev E0 : XK := fun _ _ _ => False
theorem pass0 {X : Cx} : Passes CX0 X E0 := fun _ _ _ _ _ _ _ h => h.elim
structure Fun (K : PySem.W.Frag) (x qual : Str) (st : Stmt) (f : Addr) (fd : FuncData) : Prop where
 ex : ∃ (oc : Value) (od : Option Addr) (kV doc pm : Value) (an : Option Addr) (cdv ct : Value) (osl : Array (Option Value)),
  fd = PySem.W.fnOf x qual (defArgs st) (defBody st) (defScope st) .none kV doc pm an cdv ct ∧ K.lookup f = some ⟨oc, od, .func fd, osl⟩ ∧ PySem.W.codeIn K cdv qual = true
 kp : PySem.W.keepIn K (.ref f) = true
section
variable {P : Program} {w : World} {K : PySem.W.Frag} {mg : Str → Option Value} {base : Heap}
theorem Fun.ok {x qual : Str} {st : Stmt} {f : Addr} {fd : FuncData} {N ps : List Str} {k : Nat} {sp : Sp} (F : Fun K x qual st f fd) (S : FnScope N ps (defScope st)) (len : ∀ vs H Q E, sp vs H Q E → vs.length = ps.length)
  (hbody : ∀ (cdv : Value) (A : Around) (outer : List Env) (s : Shared) (H : Hp) (vs : List V) (Q : VK) (E : XK), Room k (A.deeper (envOfC qual (defScope st) s.heap.objs.size f cdv)) → sp vs H Q E →
   ∃ t, PSs (cxOf CX0 P w K mg base N qual (defScope st) f cdv A outer s H E).nox (defBody st) t ∧ t { nx := fun _ H' => Q .non H', rt := Q } (start N vs) H) : FnOk P w K mg base CX0 (k + 1) f fd ps sp := by
 obtain ⟨oc, od, kV, doc, pm, an, cdv, ct, osl, rfl, lk, hcd⟩ := F.ex
 refine fn_of lk hcd S len fun A outer s H vs Q E hr hsp => ?_
 obtain ⟨t, h, q⟩ := hbody cdv A outer s H vs Q E hr hsp
 exact ⟨t, h.nox, q⟩
theorem Fun.binds {x qual : Str} {st : Stmt} {f : Addr} {fd : FuncData} {ps : List Str} (F : Fun K x qual st f fd)
  (h : ∀ (kV doc pm : Value) (an : Option Addr) (cdv ct : Value) (us : List Value), us.length = ps.length → bindArgs (PySem.W.fnOf x qual (defArgs st) (defBody st) (defScope st) .none kV doc pm an cdv ct) ⟨us, []⟩ = pure (ps.zip us)) : Binds K fd ps [] := by
 obtain ⟨oc, od, kV, doc, pm, an, cdv, ct, osl, rfl, lk, hcd⟩ := F.ex
 exact .all (h kV doc pm an cdv ct)
theorem fun_mk {x qual : Str} {st : Stmt} {f : Addr} {oc : Value} {od an : Option Addr} {osl : Array (Option Value)} {kV doc pm cdv ct : Value} (l : K.lookup f = some ⟨oc, od, .func (PySem.W.fnOf x qual (defArgs st) (defBody st) (defScope st) .none kV doc pm an cdv ct), osl⟩)
  (c : PySem.W.codeIn K cdv qual = true) (k : PySem.W.keepIn K (.ref f) = true) : Fun K x qual st f (PySem.W.fnOf x qual (defArgs st) (defBody st) (defScope st) .none kV doc pm an cdv ct) := ⟨⟨oc, od, kV, doc, pm, an, cdv, ct, osl, rfl, l, c⟩, k⟩
end
theorem small1000 {n : Nat} (h : n ≤ 1000) : n < sizeLine := Nat.lt_of_le_of_lt h (by decide)
section
variable {X : Cx}
end
def Same (H H' : Hp) : Prop := ∀ b o, H b = some o → H' b = some o
theorem Same.refl (H : Hp) : Same H H := fun _ _ h => h
theorem Same.trans {H H1 H2 : Hp} (a : Same H H1) (b : Same H1 H2) : Same H H2 := fun c o h => b c o (a c o h)
theorem Same.free {H H' : Hp} (e : Same H H') {l : Addr} (h : H' l = Option.none) : H l = Option.none := by
 cases q : H l with
 | none => rfl
 | some o =>
  rw [e l o q] at h
  cases h
theorem Same.seq {K : PySem.W.Frag} {H H' : Hp} {a : Addr} {xs : List V} (e : Same H H') (h : SqL K H a xs) : SqL K H' a xs := by
 rcases h with (h | ⟨o, h⟩) | h
 ·exact .inl (.inl (e _ _ h))
 ·exact .inl (.inr ⟨o, e _ _ h⟩)
 ·exact .inr h
end L2
set_option maxHeartbeats 4000000
namespace L2
open PySem PySem.Spec PyProof.Rows
section
variable {X : Cx}
def rSlS : V → Option Int → Option Int → Hp → VK → Prop := fun x lo hi H Q => ∃ z, x = .str z ∧ z.length ≤ sizeLine ∧ Q (.str (Txt.slice z lo hi)) H
theorem sl_str : SlR X rSlS := by
 intro pins s σ H x v vl vu lo hi sl Q I rx hs pl pu h
 obtain ⟨z, rfl, hz, q⟩ := h
 obtain ⟨t, rfl⟩ := rx
 refine ⟨"str", _, F.slot_str_getitem.lookup, typeIs_str _ _ _, ?_⟩
 obtain ⟨o, ho, hc, hd⟩ := hs
 have fin : ∀ t' k, EP X pins σ Q (.str (Txt.slice z lo hi) t') { s with toks := k } := fun t' k => ⟨.str _, H, I.tok k, ⟨t', rfl⟩, q⟩
 cases pl with
 | none =>
  cases pu with
  | none => exact wpAny_getItem_str_slice (l := none) (u := none) (st := none) ⟨o, ho, hc, hd⟩ rfl (post_val_or_str ⟨Nat.le_trans (Txt.slice_le z _ _) hz, fin⟩)
  | int j uj => exact wpAny_getItem_str_slice (l := none) (u := some (j, uj)) (st := none) ⟨o, ho, hc, hd⟩ rfl (post_val_or_str ⟨Nat.le_trans (Txt.slice_le z _ _) hz, fin⟩)
 | int i ui =>
  cases pu with
  | none => exact wpAny_getItem_str_slice (l := some (i, ui)) (u := none) (st := none) ⟨o, ho, hc, hd⟩ rfl (post_val_or_str ⟨Nat.le_trans (Txt.slice_le z _ _) hz, fin⟩)
  | int j uj => exact wpAny_getItem_str_slice (l := some (i, ui)) (u := some (j, uj)) (st := none) ⟨o, ho, hc, hd⟩ rfl (post_val_or_str ⟨Nat.le_trans (Txt.slice_le z _ _) hz, fin⟩)
end
def Its (x : Str) : It := ⟨fun i _ => i < x.cps.size, fun i H v H' => H' = H ∧ ∃ c, x.cps[i]? = some c ∧ v = .str ⟨#[c]⟩, fun i _ => x.cps.size ≤ i⟩
theorem turn_str {P : Program} {w : World} {K : PySem.W.Frag} {x : Str} {y : Str} {py : Pos} {it : Addr} {St : Nat → Heap → Prop}
  (W : ∀ A' : Around, A'.handled = none → Walks P w A' it [it] [it] x.cps.size (SignAt x) St) (hobj : ∀ i h, St i h → ∃ o, h.get? it = some o ∧ ∀ v, o.data ≠ .cell v) (W0 : ∀ (A : Around) (i : Nat) (s : Shared) (Q : Value → Shared → Prop) (E : Value → Shared → Prop), St i s.heap → Q (.ref it) s → wpAny (model P w) A (pyIter (.ref it)) Q E s) :
  Turn P w K (.Name y py) (Its x) [it] it (fun i h => i ≤ x.cps.size ∧ St i h) where
 mem := by simp
 obj := fun i h st b hb => by
  have e : b = it := by simpa using hb
  subst e
  exact hobj i h st.2
 keep := fun i h h' st k => ⟨st.1, (W { } rfl).frame i h h' st.2 k⟩
 item := by
  intro X hP hw hK hc i pins s σ H E I hf st hg
  subst hP hw hK
  obtain ⟨f0, f1, f2, f3, f4, f5⟩ := hf it (by simp)
  refine (W X.A (I.ok.hd hc)).item i s _ _ hg st.2 fun v h' tk hv st' kk => ?_
  obtain ⟨c, u, hcx, rfl⟩ := hv
  have I1 : Inv X pins σ H { s with heap := h', toks := tk } := I.turned (fun b o hb e => kk b o (by simpa using hb) e) f0 f1 f3 f4 f5
  exact ⟨_, rfl, wpAny_pure ⟨.str ⟨#[c]⟩, H, I1, ⟨u, rfl⟩, ⟨rfl, c, hcx, rfl⟩, ⟨hg, st'⟩, fun b hb => (hf b hb).1⟩⟩
 done := by
  intro X hP hw hK hc i pins s σ H E I hf st hg
  subst hP hw hK
  obtain ⟨f0, f1, f2, f3, f4, f5⟩ := hf it (by simp)
  have e : i = x.cps.size := Nat.le_antisymm st.1 hg
  subst e
  exact (W X.A (I.ok.hd hc)).done s _ _ st.2 fun h' tk kk => ⟨rfl, I.turned (fun b o hb e => kk b o (by simpa using hb) e) f0 f1 f3 f4 f5⟩
 self := fun A i s Q E st h => W0 A i s Q E st.2 h
section
variable {X : Cx}
theorem vals_bl_get {bs : List Bool} {its : List Value} (r : Vals (bs.map V.bl) its) {i : Nat} {v : Value} (h : its.toArray[i]? = some v) : v = .bool (bs.getD i false) := by
 have hl := r.length
 have hi : i < its.length := by
  have := Array.getElem?_eq_some_iff.mp h
  obtain ⟨h1, _⟩ := this
  simpa using h1
 have hb : i < bs.length := by rw [List.length_map] at hl; omega
 obtain ⟨u, hu, ru⟩ := r.get (i := i) (x := V.bl bs[i]) (by simp [hb])
 have e : some u = some v := by rw [← hu, ← h]; simp
 have e1 : u = v := Option.some.inj e
 have e2 : u = Value.bool bs[i] := ru
 rw [← e1, e2]
 simp [hb]
theorem range_all_bs (bs : List Bool) : (List.range bs.length).all (fun i => bs.getD i false) = bs.all id := by
 rw [Bool.eq_iff_iff]
 simp only [List.all_eq_true, List.mem_range, id]
 constructor
 ·intro h x hx
  obtain ⟨i, hi, rfl⟩ := List.mem_iff_getElem.mp hx
  have := h i hi
  simpa [hi] using this
 ·intro h i hi
  have := h bs[i] (List.getElem_mem hi)
  simpa [hi] using this
theorem call_allB (hc : X.calm = true) : CallR X (.builtin "all") (fun xs H Q => ∃ (p : Addr) (bs : List Bool), xs = [.ref p] ∧ SqL X.K H p (bs.map V.bl) ∧ Q (.bl (bs.all id)) H) := by
 intro pins s σ H xs us Q I r h
 obtain ⟨p, bs, rfl, hp, q⟩ := h
 obtain ⟨u, rfl, ru⟩ := vals1 r
 cases ru
 obtain ⟨its, rv, pl, hz⟩ := I.list hp
 have hl := rv.length
 rw [List.length_map] at hl
 have hlt : p < s.heap.objs.size := by obtain ⟨_, e, _⟩ := pl.isList; exact Heap.lt_size e
 refine call_all_walk (wpAny_pyIter_list pl.isList ?_)
 refine ⟨s.heap.objs.size, _, _, _, _, _, fun i => bs.getD i false, rfl, Walks.list (A := X.A.in1) (I.ok.hd hc) s.heap.objs.size p (Nat.ne_of_lt hlt) its.toArray, ⟨⟨_, Heap.get?_push_size _ rfl, rfl, rfl⟩, pl.isList.push _⟩, fun i v s' Q' E' hv hq => ?_, fun h' tk kk => ?_⟩
 ·rw [vals_bl_get rv hv]
  exact wpAny_truthy_bool hq
 ·have e : (List.range its.toArray.size).all (fun i => bs.getD i false) = bs.all id := by
   rw [List.size_toArray, ← hl]; exact range_all_bs bs
  rw [e]
  refine ⟨.bl _, H, I.kept (t' := tk) fun b o e => kk b o (fun z => ?_) (Heap.get?_push_of_some _ e), rfl, q⟩
  have z' : b = s.heap.objs.size := by simpa using z
  exact absurd (Heap.lt_size e) (by rw [z']; exact Nat.lt_irrefl _)
end
end L2
namespace L2
open PySem PySem.Spec PyProof.Rows
def clOf (env : Env) : List (Str × NameKind) → List (Str × Addr) → List (Str × Addr)
 | [], acc => acc
 | (n, k) :: r, acc => if k = .free then clOf env r ((n, (env.cells.lookup n).getD 0) :: acc) else clOf env r acc
theorem clos_loop (env : Env) : ∀ (l : List (Str × NameKind)) (acc : List (Str × Addr)), (∀ y ∈ l, y.2 = .free → (env.cells.lookup y.1).isSome = true) →
  (forIn l acc fun (x : Str × NameKind) (cs : List (Str × Addr)) => (if (x.2 == NameKind.free) = true then (cellOf env x.1 >>= fun a => (pure (ForInStep.yield ((x.1, a) :: cs)) : Sem _)) else pure (ForInStep.yield cs))) = (pure (clOf env l acc) : Sem _)
 | [], acc, _ => by rw [List.forIn_nil]; rfl
 | (n, k) :: r, acc, h => by
  rw [List.forIn_cons]
  have hr := fun acc' => clos_loop env r acc' (fun y hy => h y (List.mem_cons_of_mem _ hy))
  by_cases hk : k = .free
  ·subst hk
   obtain ⟨a, ha⟩ := Option.isSome_iff_exists.mp (h (n, .free) List.mem_cons_self rfl)
   have e1 : cellOf env n = pure a := by unfold cellOf; rw [ha]
   have e2 : clOf env ((n, NameKind.free) :: r) acc = clOf env r ((n, a) :: acc) := by
    show (if NameKind.free = NameKind.free then clOf env r ((n, (env.cells.lookup n).getD 0) :: acc) else _) = _
    rw [if_pos rfl, ha]; rfl
   rw [e2]
   have q := hr ((n, a) :: acc)
   rw [← q]
   show ((cellOf env n >>= fun a => (pure (ForInStep.yield ((n, a) :: acc)) : Sem _)) >>= _) = _
   rw [e1]
   rfl
  ·have hb : (k == NameKind.free) = false := by simpa using hk
   have e2 : clOf env ((n, k) :: r) acc = clOf env r acc := by
    show (if k = NameKind.free then _ else clOf env r acc) = _
    rw [if_neg hk]
   rw [e2]
   have q := hr acc
   rw [← q]
   show ((if (k == NameKind.free) = true then _ else _) >>= _) = _
   rw [hb]
   rfl
theorem clos_eq {scope : Scope} {env : Env} (h : ∀ y ∈ scope.names, y.2 = .free → (env.cells.lookup y.1).isSome = true) : closureFor scope env = pure (clOf env scope.names []) := by
 have q := clos_loop env scope.names [] h
 unfold closureFor
 rw [← bind_pure (forIn scope.names [] _)] at q
 first
  | exact q
  | (simp only [bind_pure] at q ⊢; exact q)
theorem clOf_sub (env : Env) : ∀ (l : List (Str × NameKind)) (acc : List (Str × Addr)), (∀ y ∈ l, y.2 = .free → (env.cells.lookup y.1).isSome = true) → (∀ y c, acc.lookup y = some c → env.cells.lookup y = some c) →
  ∀ y c, (clOf env l acc).lookup y = some c → env.cells.lookup y = some c
 | [], acc, _, ha, y, c, h => ha y c h
 | (n, k) :: r, acc, hl, ha, y, c, h => by
  have hl' : ∀ y ∈ r, y.2 = .free → (env.cells.lookup y.1).isSome = true := fun y hy => hl y (List.mem_cons_of_mem _ hy)
  by_cases hk : k = .free
  ·have e : clOf env ((n, k) :: r) acc = clOf env r ((n, (env.cells.lookup n).getD 0) :: acc) := by
    show (if k = NameKind.free then _ else _) = _
    rw [if_pos hk]
   rw [e] at h
   refine clOf_sub env r _ hl' (fun z d hz => ?_) y c h
   rw [List.lookup_cons] at hz
   split at hz
   ·rename_i hzn
    have en : z = n := by simpa using hzn
    cases hz
    obtain ⟨a, ha'⟩ := Option.isSome_iff_exists.mp (hl (n, k) List.mem_cons_self hk)
    rw [en, ha']; rfl
   ·exact ha z d hz
  ·have e : clOf env ((n, k) :: r) acc = clOf env r acc := by
    show (if k = NameKind.free then _ else _) = _
    rw [if_neg hk]
   rw [e] at h
   exact clOf_sub env r _ hl' ha y c h
theorem clOf_has (env : Env) : ∀ (l : List (Str × NameKind)) (acc : List (Str × Addr)) (y : Str), (acc.lookup y).isSome = true ∨ (y, NameKind.free) ∈ l → ∃ c, (clOf env l acc).lookup y = some c
 | [], acc, y, h => by
  rcases h with h | h
  ·exact Option.isSome_iff_exists.mp h
  ·cases h
 | (n, k) :: r, acc, y, h => by
  by_cases hk : k = .free
  ·have e : clOf env ((n, k) :: r) acc = clOf env r ((n, (env.cells.lookup n).getD 0) :: acc) := by
    show (if k = NameKind.free then _ else _) = _
    rw [if_pos hk]
   rw [e]
   refine clOf_has env r _ y ?_
   rcases h with h | h
   ·left
    rw [List.lookup_cons]
    split
    ·rfl
    ·exact h
   ·rcases List.mem_cons.mp h with h | h
    ·left
     cases h
     rw [List.lookup_cons]
     simp
    ·exact .inr h
  ·have e : clOf env ((n, k) :: r) acc = clOf env r acc := by
    show (if k = NameKind.free then _ else _) = _
    rw [if_neg hk]
   rw [e]
   refine clOf_has env r _ y ?_
   rcases h with h | h
   ·exact .inl h
   ·rcases List.mem_cons.mp h with h | h
    ·cases h; exact absurd rfl hk
    ·exact .inr h
theorem relabel_mem {scope : Scope} {env : Env} {y : Str} {k : NameKind} (h : (relabel scope env).names.lookup y = some k) : (y, k) ∈ scope.names ∨ (y, NameKind.free) ∈ scope.names := by
 have m := PySem.mem_of_lookup h
 obtain ⟨⟨n, k'⟩, hm, e⟩ := List.mem_map.mp (show (y, k) ∈ scope.names.map _ from m)
 dsimp only at e
 split at e
 ·rename_i hc
  cases e
  simp only [Bool.and_eq_true, beq_iff_eq] at hc
  right
  rw [← hc.1.1]
  exact hm
 ·cases e
  exact .inl hm
structure CompSc (X : Cx) (scope : Scope) (x : Str) (cl : List (Str × Addr)) (N : List Str) (cap : List Nat) : Prop where
 clos : closureFor scope X.env = pure cl
 cell : ∀ y ∈ scope.names, y.2 ≠ .cell
 kind : scope.kind = .function
 names : ∀ y ∈ scope.names, y.2 = .local → scope.names.lookup y.1 = some .local
 loc : scope.names.lookup x = some .local
 nd : N.Nodup
 n0 : N[0]? = some x
 len : N.length = cap.length + 1
 capN : ∀ (k j : Nat), cap[k]? = some j → N[k + 1]? = X.N[j]?
 out : ∀ (k : Nat) (y : Str), N[k + 1]? = some y → X.env.kindOf y = some .cell ∨ X.env.kindOf y = some .free
 inn : ∀ (k : Nat) (y : Str), N[k + 1]? = some y → (relabel scope X.env).names.lookup y = some .cell ∨ (relabel scope X.env).names.lookup y = some .free
 sub : ∀ y c, cl.lookup y = some c → X.env.cells.lookup y = some c
 has : ∀ y, ((relabel scope X.env).names.lookup y = some .cell ∨ (relabel scope X.env).names.lookup y = some .free) → ∃ c, cl.lookup y = some c
def cxComp (X : Cx) (scope : Scope) (cl : List (Str × Addr)) (C : Addr) (N : List Str) (s : Shared) (H : Hp) (ex : List Addr) : Cx where
 prog := X.prog
 w := X.w
 K := X.K
 mg := X.mg
 base := X.base
 A := X.A
 N := N
 s₀ := s
 H₀ := H
 env := compEnvC scope cl C X.env
 outer := X.stack
 stack := X.stack
 ex := ex
 calm := X.calm
 fn := fun _ => false
 pn := []
 xe := fun _ _ => False
def capS (cap : List Nat) (σ : St) (x : Option V) : St := x :: cap.map fun j => (σ[j]?).getD none
section
variable {X : Cx} {pins : List (Addr × Obj)} {σ : St} {H : Hp} {s : Shared} {scope : Scope} {x : Str} {cl : List (Str × Addr)} {N : List Str} {cap : List Nat} {C : Addr} {fp : List Addr}
theorem cxComp_ok (S : CompSc X scope x cl N cap) (I : Inv X pins σ H s) (hC : s.heap.objs.size ≤ C) (hfp : ∀ b ∈ fp, FpOk X pins H b ∧ b < s.heap.objs.size) : (cxComp X scope cl C N s H fp).Ok where
 mod := I.ok.mod
 kind := S.kind
 glob := I.ok.glob
 blt := I.ok.blt
 above := hC
 inj := fun y z c h1 h2 => I.ok.inj y z c (S.sub y c h1) (S.sub z c h2)
 has := fun y h => S.has y h
 cab := fun y c h => by cases h
 hd := I.ok.hd
 frames := I.ok.frames
 stk := .inl rfl
 exf := fun b hb => ⟨Nat.ne_of_lt (Nat.lt_of_lt_of_le (hfp b hb).2 hC), fun y c h => (hfp b hb).1.2.2.2.2.1 y c (S.sub y c h)⟩
 bs := I.bs
 bsz := Nat.le_trans I.ok.bsz I.sz
 noex := fun b o e hb => by
  rcases (hfp b hb).1.2.2.2.1 with z | z
  ·exact I.ok.noex b o e z
  ·exact absurd (Nat.lt_of_lt_of_le (Heap.lt_size e) (Nat.le_trans I.ok.bsz z)) (Nat.lt_irrefl _)
 exfs := fun b hb z => by
  rcases List.mem_cons.mp (I.stkSub b z) with e | e
  ·exact (hfp b hb).1.2.1 e
  ·exact (hfp b hb).1.2.2.1 e
 funs := I.stack
 frf := I.stkFree
theorem comp_start {h₁ : Heap} {tk : Nat} {m : Str → Option Value} (S : CompSc X scope x cl N cap) (I : Inv X pins σ H s) (hC : s.heap.objs.size ≤ C) (hfp : ∀ b ∈ fp, FpOk X pins H b ∧ b < s.heap.objs.size)
  (hns : h₁.Ns C m) (old : ∀ b o, s.heap.get? b = some o → h₁.get? b = some o) : Inv (cxComp X scope cl C N s H fp) [] (capS cap σ none) H { s with heap := h₁, toks := tk } := by
 refine ⟨cxComp_ok S I hC hfp, rfl, I.bare, Un.kept old, ⟨m, hns, fun i y v h1 h2 h3 => ?_⟩, fun y c h => ?_, I.hok.fresh hC, fun y c h => I.freeC y c (S.sub y c h), fun p hp => absurd (show p ∈ ([] : List (Addr × Obj)) from hp) (by simp), I.hok.kept old, ?_⟩
 ·cases i with
  | zero => exact absurd h2 (by simp [capS])
  | succ k =>
   have h2' : (cap.map fun j => (σ[j]?).getD none)[k]? = some (some v) := by simpa [capS] using h2
   rw [List.getElem?_map] at h2'
   cases ej : cap[k]? with
   | none => rw [ej] at h2'; cases h2'
   | some j =>
    rw [ej] at h2'
    have e1 : (σ[j]?).getD none = some v := by simpa using h2'
    have e2 : σ[j]? = some (some v) := by
     cases q : σ[j]? with
     | none => rw [q] at e1; cases e1
     | some z => rw [q] at e1; exact congrArg some e1
    have e3 : X.N[j]? = some y := (S.capN k j ej).symm.trans h1
    obtain ⟨m2, hn2, hl⟩ := I.loc
    have ko := S.out k y h1
    have vis : Vis X.env.scope y := .inr ko
    obtain ⟨u, ru, lk⟩ := hl j y v e3 e2 vis
    refine ⟨u, ru, .inr ⟨S.inn k y h1, ?_⟩⟩
    rcases lk with ⟨kl, _⟩ | ⟨_, c, hc, cell⟩
    ·rcases ko with z | z <;> (rw [z] at kl; cases kl)
    ·obtain ⟨c', hc'⟩ := S.has y (S.inn k y h1)
     have e4 := S.sub y c' hc'
     rw [hc] at e4
     cases e4
     obtain ⟨o, ho, hd⟩ := cell
     exact ⟨c, hc', o, old c o ho, hd⟩
 ·obtain ⟨v, o, ho, hd⟩ := I.cell y c (S.sub y c h)
  exact ⟨v, o, old c o ho, hd⟩
 ·show (capS cap σ none).length = N.length
  rw [S.len]
  simp [capS]
end
def PTs (X : Cx) (ifs : List Expr) (t : TT) : Prop :=
 ∀ (pins : List (Addr × Obj)) (s : Shared) (σ : St) (H : Hp) (Q : Bool → Hp → Prop), Inv X pins σ H s → t σ H Q →
  wpAny (model X.prog X.w) X.A (forIn ifs true fun c r => if r = true then do let ok ← isTrue c X.env (eval c X.env); pure (ForInStep.yield ok) else pure (ForInStep.yield r)) (TP X pins σ Q) X.xe s
def tYes : TT := fun _ H Q => Q true H
theorem pts_nil {X : Cx} : PTs X [] tYes := fun _ _ _ H _ I h => wpAny_tests_nil ⟨H, I, h⟩
theorem pts_one {X : Cx} {c : Expr} {t : TT} (h : PT X c t) : PTs X [c] t := fun pins s σ H Q I hq => wpAny_tests_one (h pins s σ H Q I hq)
def CompW (cap : List Nat) (tt : TT) (te : TE) (σ : St) (P : List V → Hp → Prop) (J : It) (H1 : Hp) : Prop :=
  ∃ W : Nat → Nat → List V → Hp → Prop, (∃ m, W 0 m [] H1) ∧ ∀ i m ys H, W i m ys H → ys.length < sizeLine ∧
    ((J.stop i H ∧ P ys H) ∨
     (J.go i H ∧ ∀ v H', J.yld i H v H' → tt (capS cap σ (some v)) H' fun b H2 => if b = true then te (capS cap σ (some v)) H2 fun y H3 => ∃ m', m' < m ∧ W (i + 1) m' (ys ++ [y]) H3 else ∃ m', m' < m ∧ W (i + 1) m' ys H2))
def tComp (wi : TI) (cap : List Nat) (tt : TT) (te : TE) : TE := fun σ H Q => wi σ H (CompW cap tt te σ fun ys H2 => ∀ p, H2 p = none → Q (.ref p) (upd H2 p (.lst ys)))
abbrev lstO (ys : List Value) (n : Nat) : Obj := { cls := .type "list", data := .seq ys.toArray n }
theorem Un.track {fs ex : List Addr} {H H' : Hp} {h h1 : Heap} {a : Addr} {o : HO} (u : Un fs ex H H' h h1) (ha : h.objs.size ≤ a) (hn : H' a = none) : Un fs ex H (upd H' a o) h h1 where
 keep := u.keep
 slot := u.slot
 free := fun b ob e n hx => by rw [upd_ne (Nat.ne_of_lt (Nat.lt_of_lt_of_le (Heap.lt_size e) ha))]; exact u.free b ob e n hx
 there := u.there
 tups := fun b xs e => by have q := u.tups b xs e; rw [upd_ne (ne_of_none q hn)]; exact q
 frzs := fun b ob v e => by have q := u.frzs b ob v e; rw [upd_ne (ne_of_none q hn)]; exact q
 tbls := fun b ps e => by obtain ⟨more, q⟩ := u.tbls b ps e; exact ⟨more, by rw [upd_ne (ne_of_none q hn)]; exact q⟩
theorem HOk.track {P : Program} {w : World} {H : Hp} {h : Heap} {a : Addr} {o : HO} (x : HOk P w H h) (hn : H a = none) (new : ObjOk P w (upd H a o) h a o) : HOk P w (upd H a o) h := fun b u e => by
 by_cases hb : b = a
 ·subst hb; rw [upd_same] at e; cases e; exact new
 ·rw [upd_ne hb] at e
  exact (x b u e).stay (fun c v _ q => q) (fun c q => by rw [upd_ne (ne_of_none q hn)]; exact q) fun c xs q => by rw [upd_ne (ne_of_none q hn)]; exact q
section
variable {X : Cx} {pins : List (Addr × Obj)} {σ : St} {scope : Scope} {x : Str} {px pos : Pos} {cl : List (Str × Addr)} {N : List Str} {cap : List Nat} {elt iter : Expr} {ifs : List Expr} {tt : TT} {te : TE} {E : Value → Shared → Prop}
theorem comp_core {P : List V → Hp → Prop} {RR : Value → Addr → Result → Shared → Prop} {H2 : Hp} {s2 : Shared} {it : Addr} {fp : List Addr} {tn : Nat → Heap → Prop} {J : It} (hc : X.calm = true) (S : CompSc X scope x cl N cap)
  (ht : ∀ C s H ex, PTs (cxComp X scope cl C N s H ex) ifs tt) (he : ∀ C s H ex, PE (cxComp X scope cl C N s H ex) elt te)
  (I2 : Inv X pins σ H2 s2) (T : Turn X.prog X.w X.K (.Name x px) J fp it tn) (st2 : tn 0 s2.heap) (f2 : ∀ b ∈ fp, FpOk X pins H2 b) (h : CompW cap tt te σ P J H2)
  (hRR : ∀ (D C : Addr) (s4 : Shared) (ys : List V) (H3 : Hp) (oC : Obj) (m : Str → Option Value), Inv X (pins ++ [(C, oC)]) σ (upd H3 D (.lst ys)) s4 → (∀ h : Heap, h.get? C = some oC → h.Ns C m) → FpOk X pins (upd H3 D (.lst ys)) C → H3 D = none → P ys H3 → RR (.ref D) C (.ok .next) s4) :
  wpAny (model X.prog X.w) X.A (newList []) (fun acc s₃ => wpAny (model X.prog X.w) X.A (newFunctionEnv scope X.env.globals cl [] X.env.qual none .none (some X.env)) (fun cenv s₄ =>
   codeAny (model X.prog X.w) X.A (.compStart (.ListComp elt [⟨.Name x px, iter, ifs, 0⟩] scope pos) 0 (.ref it) acc { cenv with scope := relabel scope X.env }) (RR acc cenv.locals) s₄) E s₃) E s2 := by
 obtain ⟨W, ⟨m0, w0⟩, turn⟩ := h
 refine wpAny_newObj_type (wpAny_newFunctionEnv S.cell (by intro y hy; simp at hy) (fun h₁ hns₁ hsb₁ => ?_) S.kind)
 dsimp only at hns₁ hsb₁ ⊢
 generalize hG : s2.heap.push { cls := .type "list", dict := none, data := .seq ([] : List Value).toArray } = G at hns₁ hsb₁ ⊢
 have hC : G.objs.size = s2.heap.objs.size + 1 := by rw [← hG, Heap.size_push]
 have hDC : s2.heap.objs.size ≠ G.objs.size := by rw [hC]; exact Nat.ne_of_lt (Nat.lt_succ_self _)
 have hCle : s2.heap.objs.size ≤ G.objs.size := by rw [hC]; exact Nat.le_succ _
 have old : ∀ b o, s2.heap.get? b = some o → h₁.get? b = some o := fun b o e => by
  have hb := Heap.lt_size e
  exact hsb₁.extBut b o (by rw [hC]; exact Nat.ne_of_lt (Nat.lt_succ_of_lt hb)) (Heap.get?_push_of_some _ (hG ▸ Heap.get?_push_of_some _ e))
 have hacc : h₁.get? s2.heap.objs.size = some (lstO [] 0) := hsb₁.extBut _ _ hDC (Heap.get?_push_of_some _ (hG ▸ Heap.get?_push_size _ rfl))
 have flt : ∀ b ∈ fp, b < s2.heap.objs.size := fun b hb => by obtain ⟨o, e, _⟩ := T.obj 0 _ st2 b hb; exact Heap.lt_size e
 have fp2 : ∀ b ∈ fp, FpOk X pins H2 b ∧ b < s2.heap.objs.size := fun b hb => ⟨f2 b hb, flt b hb⟩
 have st1 : tn 0 h₁ := T.keep _ _ _ st2 fun b _ o e => old b o e
 have fD2 : H2 s2.heap.objs.size = none := I2.hok.fresh (Nat.le_refl _)
 have nDx : ∀ y c, X.env.cells.lookup y = some c → c ≠ s2.heap.objs.size ∧ c ≠ G.objs.size := fun y c e => by
  obtain ⟨v, q⟩ := I2.cell y c e
  have := q.lt
  exact ⟨Nat.ne_of_lt this, by rw [hC]; exact Nat.ne_of_lt (Nat.lt_succ_of_lt this)⟩
 have nPx : ∀ p ∈ X.pn ++ pins, p.1 < s2.heap.objs.size := fun p hp => Heap.lt_size (I2.pin p hp).1
 have fpB : ∀ {H' : Hp} {pl : List (Addr × Obj)}, (∀ b ∈ fp, H' b = none) → (∀ p ∈ pl, p.1 = s2.heap.objs.size) → ∀ b ∈ fp, FpOk (cxComp X scope cl G.objs.size N s2 H2 fp) pl H' b := fun {H' pl} hn hp b hb => by
  refine ⟨hn b hb, Nat.ne_of_lt (Nat.lt_of_lt_of_le (flt b hb) hCle), fun z => ?_, .inl hb, fun y c e => (f2 b hb).2.2.2.2.1 y c (S.sub y c e), fun p hq z => ?_⟩
  ·rcases List.mem_cons.mp (I2.stkSub b z) with e | e
   ·exact (f2 b hb).2.1 e
   ·exact (f2 b hb).2.2.1 e
  ·have e1 : p.1 = s2.heap.objs.size := hp p (by simpa [cxComp] using hq)
   rw [e1] at z
   exact absurd (flt b hb) (by rw [← z]; exact Nat.lt_irrefl _)
 have nDfs : s2.heap.objs.size ∉ frs X.stack := fun z => by
  rcases List.mem_cons.mp (I2.stkSub _ z) with e | e
  ·exact absurd I2.lt (by rw [← e]; exact Nat.lt_irrefl _)
  ·exact I2.nofs (Nat.le_refl _) e
 have pinD : ∀ {σ' : St} {H' : Hp} {s' : Shared} {ob : Obj}, Inv (cxComp X scope cl G.objs.size N s2 H2 fp) [] σ' H' s' → s'.heap.get? s2.heap.objs.size = some ob → (∀ v, ob.data ≠ .cell v) → H' s2.heap.objs.size = none →
   Inv (cxComp X scope cl G.objs.size N s2 H2 fp) [(s2.heap.objs.size, ob)] σ' H' s' := fun {σ' H' s' ob} J' e d n => J'.pins_of fun p hp => by
  have e1 : p = (s2.heap.objs.size, ob) := by simpa using hp
  subst e1
  exact ⟨e, n, hDC, nDfs, d⟩
 have nocell : ∀ (ys : List Value) (n : Nat) v, (lstO ys n).data ≠ .cell v := fun ys n v z => by cases (show Data.seq ys.toArray n = Data.cell v from z)
 have loop : ∀ s₃ : Shared, s₃ = { s2 with heap := h₁, toks := s2.toks + ([] : List (Str × Value)).length } →
   codeAny (model X.prog X.w) X.A (.compLoop (.ListComp elt [⟨.Name x px, iter, ifs, 0⟩] scope pos) 0 (.ref it) (.ref s2.heap.objs.size) (compEnvC scope cl G.objs.size X.env)) (RR (.ref s2.heap.objs.size) G.objs.size) s₃ := by
  rintro s₃ rfl
  refine codeAny_compLoop_tests
   (fun n s' => ∃ i ys vs e H' a, Inv (cxComp X scope cl G.objs.size N s2 H2 fp) [(s2.heap.objs.size, lstO vs e)] (capS cap σ a) H' s' ∧ tn i s'.heap ∧ (∀ b ∈ fp, H' b = none) ∧ Vals ys vs ∧ H' s2.heap.objs.size = none ∧ W i n ys H') ?_ m0
   ⟨0, [], [], 0, H2, none, pinD (comp_start S I2 hCle fp2 hns₁ old) hacc (nocell _ _) fD2, st1, fun b hb => (f2 b hb).1, .nil, fD2, w0⟩
  rintro n s3 ⟨i, ys, vs, e, H3, a, I3, st3, fr3, rel3, fD3, w3⟩
  obtain ⟨hlen, hcase⟩ := turn i n ys H3 w3
  have pl1 : ∀ p ∈ [(s2.heap.objs.size, lstO vs e)], p.1 = s2.heap.objs.size := fun p hp => by
   have e1 : p = (s2.heap.objs.size, lstO vs e) := by simpa using hp
   rw [e1]
  rcases hcase with ⟨stop, fin⟩ | ⟨go, step⟩
  ·refine wpAny_mono (T.done (cxComp X scope cl G.objs.size N s2 H2 fp) rfl rfl rfl hc i _ s3 _ H3 (fun _ _ => False) I3 (fpB fr3 pl1) st3 stop) (fun r s4 ⟨hr, I4⟩ => ?_) fun _ _ z => z.elim
   subst hr
   obtain ⟨hD4, hDn, _, _, _⟩ := I4.pin (s2.heap.objs.size, lstO vs e) (by simp [cxComp])
   have un4 : Un (frs X.stack) fp H2 H3 s2.heap s4.heap := I4.base
   have un5 : Un (frs X.stack) fp H2 (upd H3 s2.heap.objs.size (.lst ys)) s2.heap s4.heap := un4.track (Nat.le_refl _) hDn
   have ok5 : HOk X.prog X.w (upd H3 s2.heap.objs.size (.lst ys)) s4.heap := HOk.track I4.hok hDn ⟨Nat.le_of_lt hlen, vs, e, rel3, hD4⟩
   have I5 : Inv X pins σ (upd H3 s2.heap.objs.size (.lst ys)) s4 := I2.call' I4.os un5 ok5 I4.bare fun b hb => ⟨(f2 b hb).2.2.2.1, (f2 b hb).2.1, (f2 b hb).2.2.2.2.1, (f2 b hb).2.2.2.2.2⟩
   obtain ⟨m, hnC, _⟩ := I4.loc
   have hnC' : s4.heap.Ns G.objs.size m := hnC
   obtain ⟨oC, es, ep, hoC, hdC, hrC⟩ := id hnC'
   have hHC : (upd H3 s2.heap.objs.size (.lst ys)) G.objs.size = none := by
    rw [upd_ne (Ne.symm hDC)]
    exact I4.free
   have fC : FpOk X pins (upd H3 s2.heap.objs.size (.lst ys)) G.objs.size := by
    refine ⟨hHC, Nat.ne_of_gt (Nat.lt_of_lt_of_le I2.lt hCle), I2.nofs hCle, .inr (Nat.le_trans I2.sz hCle), fun y c q => (nDx y c q).2, fun p hp z => ?_⟩
    have := nPx p hp
    rw [z] at this
    exact absurd (Nat.lt_of_lt_of_le this hCle) (Nat.lt_irrefl _)
   refine hRR s2.heap.objs.size G.objs.size s4 ys H3 oC m (I5.pins_of fun p hp => ?_) (fun h q => ⟨oC, es, ep, q, hdC, hrC⟩) fC hDn fin
   rcases List.mem_append.mp hp with hp | hp
   ·exact I5.pin p (List.mem_append_right _ hp)
   ·have e1 : p = (G.objs.size, oC) := by simpa using hp
    subst e1
    exact ⟨hoC, hHC, fC.2.1, fC.2.2.1, fun v z => by rw [hdC] at z; cases z⟩
  ·refine wpAny_mono (T.item (cxComp X scope cl G.objs.size N s2 H2 fp) rfl rfl rfl hc i _ s3 _ H3 (fun _ _ => False) I3 (fpB fr3 pl1) st3 go) (fun r s4 ⟨u, hr, h4⟩ => ?_) fun _ _ z => z.elim
   subst hr
   show wpAny _ _ (letOwnedTupleGo (.Name x px) (.ref it) u >>= fun _ => assign (.Name x px) (compEnvC scope cl G.objs.size X.env) u) _ _ s4
   refine wpAny_bind (wpAny_mono h4 (fun _ s5 ⟨v, H5, I5, r5, y5, st5, fr5⟩ => ?_) fun _ _ z => z.elim)
   have I5' := I5.pinned (fpB fr5 pl1) (T.obj _ _ st5)
   have hloc : (cxComp X scope cl G.objs.size N s2 H2 fp).env.scope.names.lookup x = some .local := lookup_relabel_local S.loc
   refine wpAny_mono (pg_name (X := cxComp X scope cl G.objs.size N s2 H2 fp) (i := 0) (pos := px) S.nd S.n0 (.inl hloc) (.inr hloc) _ s5 _ H5 v u (fun σ6 H6 => σ6 = capS cap σ (some v) ∧ H6 = H5) I5' r5 ⟨rfl, rfl⟩) (fun _ s6 ⟨σ6, H6, I6, e6, e6'⟩ => ?_) fun _ _ z => z.elim
   subst e6 e6'
   refine wpAny_mono (ht _ _ _ _ _ s6 _ H6 _ I6 (step v H6 y5)) (fun ok s7 ⟨H7, I7, q7⟩ => ?_) fun _ _ z => z.elim
   have after : ∀ {H8 : Hp} {s8 : Shared}, Inv (cxComp X scope cl G.objs.size N s2 H2 fp) ([(s2.heap.objs.size, lstO vs e)] ++ pinsAt fp s5.heap) (capS cap σ (some v)) H8 s8 →
     tn (i + 1) s8.heap ∧ (∀ b ∈ fp, H8 b = none) ∧ s8.heap.get? s2.heap.objs.size = some (lstO vs e) ∧ H8 s2.heap.objs.size = none := fun {H8 s8} I8 => by
    refine ⟨T.keep _ _ _ st5 fun b hb o q => (I8.pin (b, o) (List.mem_append_right _ (List.mem_append_right _ (mem_pinsAt hb q)))).1, fun b hb => ?_, (I8.pin (s2.heap.objs.size, lstO vs e) (List.mem_append_right _ (List.mem_append_left _ List.mem_cons_self))).1, (I8.pin (s2.heap.objs.size, lstO vs e) (List.mem_append_right _ (List.mem_append_left _ List.mem_cons_self))).2.1⟩
    obtain ⟨o, q, _⟩ := T.obj _ _ st5 b hb
    exact (I8.pin (b, o) (List.mem_append_right _ (List.mem_append_right _ (mem_pinsAt hb q)))).2.1
   cases ok with
   | false =>
    rw [if_neg Bool.false_ne_true] at q7 ⊢
    obtain ⟨m', hm, w7⟩ := q7
    obtain ⟨st7, fr7, hD7, fD7⟩ := after I7
    exact ⟨m', hm, i + 1, ys, vs, e, H7, some v, I7.unpinned, st7, fr7, rel3, fD7, w7⟩
   | true =>
    rw [if_pos rfl] at q7 ⊢
    refine wpAny_mono (he _ _ _ _ _ s7 _ H7 _ I7 q7) (fun yv s8 ⟨y, H8, I8, r8, m', hm, w8⟩ => ?_) fun _ _ z => z.elim
    obtain ⟨st8, fr8, hD8, fD8⟩ := after I8
    refine append_at (hsz := by rw [List.size_toArray, ← rel3.length]; exact Nat.le_of_lt hlen) hD8 fun h9 hs9 hD9 => ?_
    have I8u : Inv (cxComp X scope cl G.objs.size N s2 H2 fp) [] (capS cap σ (some v)) H8 s8 := I8.pins_of fun p hp => absurd hp (by simp)
    have I9 : Inv (cxComp X scope cl G.objs.size N s2 H2 fp) [] (capS cap σ (some v)) H8 { s8 with heap := h9 } :=
     I8u.turned (t' := s8.toks) (it := s2.heap.objs.size) (fun b o hb q => (hs9.2 b hb).trans q) fD8 hDC (.inr (Nat.le_refl _)) (fun y c q => (nDx y c (S.sub y c q)).1) fun p hp => absurd (show p ∈ ([] : List (Addr × Obj)) from hp) (by simp)
    have hD9' : h9.get? s2.heap.objs.size = some (lstO (vs ++ [yv]) (e + 1)) := by
     rw [hD9]
     show some ({ cls := .type "list", data := .seq (vs.toArray.push yv) (e + 1) } : Obj) = some { cls := .type "list", data := .seq (vs ++ [yv]).toArray (e + 1) }
     rw [List.push_toArray]
    refine ⟨m', hm, i + 1, ys ++ [y], vs ++ [yv], e + 1, H8, some v, pinD I9 hD9' (nocell _ _) fD8, ?_, fr8, rel3.append (.cons r8 .nil), fD8, w8⟩
    exact T.keep _ _ _ st8 fun b hb o q => (hs9.2 b (Nat.ne_of_lt (flt b hb))).trans q
 exact codeAny_compStart_list (loop _ rfl) (T.self _ 0 _ _ _ st1 (loop _ rfl))
theorem pe_comp {wi : TI} (hc : X.calm = true) (hi : PI X (.Name x px) iter wi) (S : CompSc X scope x cl N cap) (ht : ∀ C s H ex, PTs (cxComp X scope cl C N s H ex) ifs tt) (he : ∀ C s H ex, PE (cxComp X scope cl C N s H ex) elt te)
  (hs : ∀ z, foldedSetIterable iter X.env z = pure z := by intro _; rfl) : PE X (.ListComp elt [⟨.Name x px, iter, ifs, 0⟩] scope pos) (tComp wi cap tt te) := by
 intro pins s σ H Q I h
 rw [eval_ListComp]
 refine wpAny_comprehension_free (use := none) rfl hs S.clos S.kind S.names (thn (hi pins s σ H _ I h) fun v s1 h1 => thn h1 fun itv s2 h2 => ?_)
 obtain ⟨it, fp, tn, J, H2, e, I2, T, st2, f2, h⟩ := h2
 subst e
 refine comp_core (RR := fun acc C => compPost (model X.prog X.w) X.A X.xe none (EP X pins σ Q) acc C) hc S ht he I2 T st2 f2 h fun D C s4 ys H3 oC m I4 hnC fC hD fin => ?_
 have hoC := (I4.pin (C, oC) (List.mem_append_right _ (List.mem_append_right _ List.mem_cons_self))).1
 refine ⟨m, hnC _ hoC, fun h' hs' => ?_⟩
 exact ⟨.ref D, _, I4.unpinned.turned (t' := s4.toks) (it := C) (fun b o hb q => (hs'.2 b hb).trans q) fC.1 fC.2.1 fC.2.2.2.1 fC.2.2.2.2.1 fC.2.2.2.2.2, rfl, fin D hD⟩
theorem ps_setComp {wi : TI} {i : Nat} {y : Str} {py spos : Pos} (hN : X.N.Nodup) (hy : X.N[i]? = some y) (hL : X.env.scope.names.lookup y = some .local) (hc : X.calm = true) (hi : PI X (.Name x px) iter wi) (S : CompSc X scope x cl N cap)
  (ht : ∀ C s H ex, PTs (cxComp X scope cl C N s H ex) ifs tt) (he : ∀ C s H ex, PE (cxComp X scope cl C N s H ex) elt te)
  (hsw : swapsWith (.ListComp elt [⟨.Name x px, iter, ifs, 0⟩] scope pos) (some (.Name y py)) spos.line X.env = pure true := by rfl)
  (hs : ∀ z, foldedSetIterable iter X.env z = pure z := by intro _; rfl) : PS X (.Assign [.Name y py] (.ListComp elt [⟨.Name x px, iter, ifs, 0⟩] scope pos) spos) (tAsg (tComp wi cap tt te) (gName i)) := by
 intro pins s σ H D I h
 rw [exec_Assign_Name_used _ _ _ _ hsw]
 refine wpAny_bind (wpAny_standAt (wpAny_bind ?_))
 show wpAny _ X.A (do let _ ← comprehension (.ListComp elt [⟨.Name x px, iter, ifs, 0⟩] scope pos) scope X.env _ (newList []) false (eval iter X.env) (some (assign (.Name y py) X.env))) _ _ s
 refine wpAny_bind (wpAny_mono (wpAny_comprehension_free (use := some (assign (.Name y py) X.env)) (Q := fun _ s' => SP X pins D .next s') rfl hs S.clos S.kind S.names
  (thn (hi pins s σ H _ I h) fun v s1 h1 => thn h1 fun itv s2 h2 => ?_)) (fun _ s' hq => wpAny_pure (wpAny_pure hq)) fun _ _ e => e)
 obtain ⟨it, fp, tn, J, H2, e, I2, T, st2, f2, h⟩ := h2
 subst e
 refine comp_core (RR := fun acc C => compPost (model X.prog X.w) X.A X.xe (some (assign (.Name y py) X.env)) (fun _ s' => SP X pins D .next s') acc C) hc S ht he I2 T st2 f2 h fun d C s4 ys H3 oC m I4 hnC fC hD fin => ?_
 show wpAny _ X.A (assign (.Name y py) X.env (.ref d)) _ _ s4
 refine wpAny_assign_Name (store_ok (v := .ref d) I4 hN hy (.inl hL) rfl (fun s5 I5 => ?_) (.inr hL))
 have hoC := (I5.pin (C, oC) (List.mem_append_right _ (List.mem_append_right _ List.mem_cons_self))).1
 refine ⟨m, hnC _ hoC, fun h' hs' => ?_⟩
 exact ⟨σ.set i (some (.ref d)), _, I5.unpinned.turned (t' := s5.toks) (it := C) (fun b o hb q => (hs'.2 b hb).trans q) fC.1 fC.2.1 fC.2.2.2.1 fC.2.2.2.2.1 fC.2.2.2.2.2, fin d hD⟩
end
end L2
namespace L2
open PySem PySem.Spec PyProof.Rows
theorem eqV_refl {x : V} (h : flatV x = true) : eqV x x = true := by
 cases x with
 | non => rfl
 | bl b => simp [eqV]
 | int i => simp [eqV]
 | str z => simp [eqV]
 | _ => exact absurd (show false = true from h) Bool.false_ne_true
theorem Vals.at {xs : List V} {us : List Value} (r : Vals xs us) {j : Nat} (h : j < us.length) : ∃ x, xs[j]? = some x ∧ RelV x us[j] := by
 have hl := r.length
 have hj : j < xs.length := by omega
 obtain ⟨u, hu, ru⟩ := r.get (i := j) (x := xs[j]) (List.getElem?_eq_getElem hj)
 have e : us[j] = u := by
  have := List.getElem?_eq_getElem h
  rw [this] at hu
  exact Option.some.inj hu
 exact ⟨_, List.getElem?_eq_getElem hj, by rw [e]; exact ru⟩
section
variable {X : Cx} {pins : List (Addr × Obj)} {σ : St} {H : Hp} {s : Shared}
end
section
variable {X : Cx}
end
section
open PySem.SeqAt
open PySem.AutoSeq1 (wpAny_loadPart')
open PySem.MeetsSeq PySem.MeetsSeq2 PySem.MeetsSeq3
end
section
variable {X : Cx} {pins : List (Addr × Obj)} {σ : St} {H : Hp} {s : Shared}
end
end L2
namespace L2
open PySem PySem.Spec PyProof.Rows
section
variable {X : Cx} {pins : List (Addr × Obj)} {σ : St} {H : Hp} {s : Shared} {h' : Heap}
end
section
variable {X : Cx} {k : Nat} {f : Addr} {fd : FuncData} {pn : Str} {sp : Sp}
end
end L2
namespace L2
open PySem PySem.Spec PyProof.Rows
def Lies (B : Heap) (l : List Env) (L e : Addr) (cls : Value) (h : Heap) : Prop :=
 B.StaysIn h ∧ B.get? e = none ∧ h.FunFrames B l ∧
  ((∃ oe vs a0, h.get? e = some oe ∧ oe.cls = cls ∧ oe.data = .fields vs ∧ vs[0]? = some a0 ∧ vs[1]? = some Value.none) ∨ (∃ a0, h.TracedW B e cls a0) ∨ ∃ a0, h.TracedAtW B e cls a0 (rawInt L))
section
variable {M : Model} {A : Around} {E : Value → Shared → Prop} {s : Shared} {B : Heap} {env : Env} {outer : List Env} {L e : Addr} {cls : Value}
end
structure OwnFr (X : Cx) : Prop where
 stk : X.stack = X.env :: X.outer
 fr : X.env.frame = some X.env.locals
 ex : X.ex = []
def ExcIn (X : Cx) (H : Hp) (e : Addr) (cls : Value) (s' : Shared) : Prop :=
 ∃ pins σ sg B, Inv X pins σ H sg ∧ s'.os = sg.os ∧ AllBare s'.gens ∧ (∀ b o, sg.heap.get? b = some o → b ∉ frs X.stack → B.get? b = some o) ∧ sg.heap.UpToSlots s'.heap ∧ Lies B X.stack X.env.locals e cls s'.heap
def CXD (P : Program) (w : World) : CXT := fun outer H s E e s' => ∃ ea cls H' g B a0, e = .ref ea ∧ s'.os = s.os ∧ AllBare s'.gens ∧ Un (frs outer) [] H H' s.heap g ∧ HOk P w H' g ∧
 (∀ b o, g.get? b = some o → b ∉ frs outer → B.get? b = some o) ∧ g.UpToSlots s'.heap ∧ Heap.FlyingW B outer ea cls a0 s'.heap ∧ E cls none H'
section
variable {X : Cx} {H : Hp} {e : Addr} {cls : Value} {s' : Shared}
end
section
variable {X : Cx} {pins : List (Addr × Obj)} {σ : St} {H : Hp} {e : Addr} {cls : Value} {s s' : Shared}
end
end L2
namespace L2
open PySem PySem.Spec PyProof.Rows
structure ExCls (K : PySem.W.Frag) (x : Str) (C : Addr) : Prop where
 ns : PySem.W.nsIn K mainGlobals x = some (some (.ref C))
 ok : ∃ B newId initId bmB, PySem.W.excIn K C bmB newId = true ∧ ExcBaseFacts B newId initId bmB
section
variable {X : Cx} {x : Str} {C : Addr} {np cpos pos : Pos} {e : Expr} {es : List Expr} {t : TA}
end
structure RoomB (b : Bool) (k : Nat) (A : Around) : Prop where
 hd : b = true → A.handled = none
 dp : A.depth + 3 * k + 5 < recursionLimit
 un : A.units + 16 * k + 200 < cLine
theorem RoomB.mono {b : Bool} {j k : Nat} {A : Around} (r : RoomB b k A) (h : j ≤ k) : RoomB b j A := ⟨r.hd, by have := r.dp; omega, by have := r.un; omega⟩
structure FnX (b : Bool) (P : Program) (w : World) (K : PySem.W.Frag) (mg : Str → Option Value) (base : Heap) (k : Nat) (f : Addr) (fd : FuncData) (ps : List Str) (sp : Sp) : Prop where
 len : ∀ vs H Q E, sp vs H Q E → vs.length = ps.length
 run : ∀ (A : Around) (outer : List Env) (s : Shared) (H : Hp) (args : Args) (us : List Value) (vs : List V) (Q : VK) (E : XK), RoomB b k A → Env0 P w K mg base A outer s H → BindsTo s fd args (ps.zip us) → Vals vs us → sp vs H Q E →
  codeAny (model P w) A (.call (.ref f) args) (CR (CXD P w) outer P w H s Q E) s
theorem FnX.mono {b : Bool} {P : Program} {w : World} {K : PySem.W.Frag} {mg : Str → Option Value} {base : Heap} {j k : Nat} {f : Addr} {fd : FuncData} {ps : List Str} {sp : Sp} (F : FnX b P w K mg base j f fd ps sp) (h : j ≤ k) :
  FnX b P w K mg base k f fd ps sp := ⟨F.len, fun A outer s H args us vs Q E hr => F.run A outer s H args us vs Q E (hr.mono h)⟩
section
variable {X : Cx} {b : Bool} {k : Nat} {f : Addr} {fd : FuncData} {ps : List Str} {sp : Sp} {x : Str} {p pos : Pos} {e : Expr} {es : List Expr} {t : TA} {E : XK}
end
end L2
namespace L2
open PySem PySem.Spec PyProof.Rows
section
variable {X : Cx} {pins : List (Addr × Obj)} {σ : St} {H : Hp} {s : Shared}
def exPh (a : Addr) (cls : Value) : Heap → Prop := fun h => ∃ o, h.get? a = some o ∧ o.cls = cls ∧ ∃ vs, o.data = .fields vs
end
section
variable {X : Cx} {body suite : List Stmt} {b₀ : Stmt} {x n : Str} {np hpos pos : Pos} {i : Nat} {c : Value} {tb : List (Addr × Obj) → (Value → Hp → Prop) → TS} {ts : TS}
end
end L2
namespace L2
open PySem PySem.Spec PyProof.Rows PySem.W PySem.Builtin PySem.Builtin.ObjectAttr PySem.Builtin.Getset_descriptor
structure ExAt (K : PySem.W.Frag) (C : Addr) : Prop where
 ga : findIn K (.ref C) "__getattribute__" = some (some (.builtin "BaseException.__getattribute__"))
 gh : findIn K (.ref C) "__getattr__" = some none
 sb : subIn K (.ref C) (.type "BaseException") = some true
 ca : findIn K (.ref C) "__class__" = some (some (.builtin "object.__class__"))
 cg : specialIn K (.builtin "object.__class__") "__get__" = some (some (.builtin "getset_descriptor.__get__"))
 ct : takesIn K (.builtin "object.__class__") = some true
 cm : mroIn K C (.type "object") = some true
 cl : (clsIn K C).isSome = true
section
variable {prog : Program} {w : World} {A : Around} {E : Value → Shared → Prop} {s : Shared} {K : PySem.W.Frag} {e C : Addr}
end
end L2
namespace L2
open PySem PySem.Spec PyProof.Rows
section
variable {prog : Program} {w : World} {A : Around} {E : Value → Shared → Prop} {s : Shared}
theorem nextOf_tup {j t : Addr} {k : Nat} {its : Array Value} {y : Value} {Q : Value → Shared → Prop} (hj : s.heap.IsTupleIter j t k) (ht : s.heap.IsTuple t its) (hy : its[k]? = some y)
  (q : ∀ h', h'.IsTupleIter j t (k + 1) → Heap.SameBut j s.heap h' → Q y { s with heap := h' }) : wpAny (model prog w) A (Builtin.SmallTypes.nextOf (.ref j)) Q E s := by
 obtain ⟨oj, gj, cj, dj⟩ := id hj
 obtain ⟨ot, gt, _, mt, dt⟩ := ht
 unfold Builtin.SmallTypes.nextOf
 refine wpAny_bind (wpAny_callSpecial?_slot (name := Str.ofString "__next__") hj.typeIs F.slot_tuple_iterator_next (wpAny_call_entry F.slot_tuple_iterator_next hj.typeIs F.entry_tuple_iterator_next ?_ (F.args_tuple_iterator_next_1 _)))
 show wpAny _ _ (field (.ref j) 0 >>= _) _ _ s
 refine wpAny_bind (wpAny_field gj dj (x := .ref t) rfl ?_)
 show wpAny _ _ (if (Value.ref t == Value.none) = true then _ else (field (.ref j) 1 >>= _)) _ _ s
 rw [if_neg (show ¬ ((Value.ref t == Value.none) = true) from Bool.false_ne_true)]
 refine wpAny_bind (wpAny_field gj dj (x := .int k 0) rfl (wpAny_bind (wpAny_seqItems gt dt ?_)))
 simp only [Int.toNat_natCast, hy]
 refine wpAny_bind (wpAny_setField gj dj (by simp) (wpAny_pure ⟨y, rfl, wpAny_pure (q _ ?_ (Heap.SameBut.update ..))⟩))
 exact ⟨_, Heap.get?_update_self _ gj (Obj.isFreed_of_fields (Obj.data_mapFields dj _)), (Obj.cls_mapFields ..).trans cj, by rw [Obj.data_mapFields dj]; simp [rawInt]⟩
theorem nextOf_tup_end {j t : Addr} {k : Nat} {its : Array Value} {Q : Value → Shared → Prop} (hh : A.handled = none) (hj : s.heap.IsTupleIter j t k) (ht : s.heap.IsTuple t its) (hy : its[k]? = none)
  (q : ∀ h' e, Heap.ExtBut j s.heap h' → (∃ o, h'.get? e = some o ∧ o.cls = .type "StopIteration") → E (.ref e) { s with heap := h' }) : wpAny (model prog w) A (Builtin.SmallTypes.nextOf (.ref j)) Q E s := by
 obtain ⟨oj, gj, cj, dj⟩ := id hj
 obtain ⟨ot, gt, _, mt, dt⟩ := ht
 unfold Builtin.SmallTypes.nextOf
 refine wpAny_bind (wpAny_callSpecial?_slot (name := Str.ofString "__next__") hj.typeIs F.slot_tuple_iterator_next (wpAny_call_entry F.slot_tuple_iterator_next hj.typeIs F.entry_tuple_iterator_next ?_ (F.args_tuple_iterator_next_1 _)))
 show wpAny _ _ (field (.ref j) 0 >>= _) _ _ s
 refine wpAny_bind (wpAny_field gj dj (x := .ref t) rfl ?_)
 show wpAny _ _ (if (Value.ref t == Value.none) = true then _ else (field (.ref j) 1 >>= _)) _ _ s
 rw [if_neg (show ¬ ((Value.ref t == Value.none) = true) from Bool.false_ne_true)]
 refine wpAny_bind (wpAny_field gj dj (x := .int k 0) rfl (wpAny_bind (wpAny_seqItems gt dt ?_)))
 simp only [Int.toNat_natCast, hy]
 refine wpAny_bind (wpAny_rule (wpAny_bind (wpAny_setField gj dj (by simp) ?_)))
 show wpAny _ _ (newExc (.type "StopIteration") [] >>= fun _ => _) _ _ _
 refine wpAny_bind ?_
 simp only [newExc, newTuple]
 refine wpAny_bind (wpAny_newObj_type (wpAny_bind (m := firstArgMember _ _) (wpAny_of_eq (a := Value.none) (by first | rfl | (simp only [firstArgMember]; rfl)) ?_)) (by size_fits))
 refine wpAny_newObj_type ?_ (by size_fits)
 simp only [raiseNew]
 refine wpAny_bind (wpAny_handled ?_)
 first | rw [show A.in1.handled = none from hh] | rw [hh]
 exact wpAny_bind (wpAny_pure (wpAny_throw (q _ _ (((Heap.SameBut.update ..).extBut.push _).push _) ⟨_, Heap.get?_push_size _ rfl, rfl⟩)))
structure ZA (c P O i j a b : Addr) : Prop where
 Pc : P ≠ c
 Oc : O ≠ c
 ic : i ≠ c
 jc : j ≠ c
 Oi : O ≠ i
 Oj : O ≠ j
 ij : i ≠ j
 ac : a ≠ c
 aO : a ≠ O
 ai : a ≠ i
 aj : a ≠ j
 bc : b ≠ c
 bO : b ≠ O
 bi : b ≠ i
 bj : b ≠ j
 PO : P ≠ O
 Pi : P ≠ i
 Pj : P ≠ j
theorem zipT_item {c P O i j a b : Addr} {m n : Nat} {us vs : Array Value} {u v p q : Value} {Q : Value → Shared → Prop} (D : ZA c P O i j a b)
  (gc : IsZip s.heap c P O .none) (gP : IsPair s.heap P (.ref i) (.ref j)) (gO : IsPair s.heap O p q) (gi : s.heap.IsTupleIter i a m) (gj : s.heap.IsTupleIter j b n) (ga : s.heap.IsTuple a us) (gb : s.heap.IsTuple b vs) (hu : us[m]? = some u) (hv : vs[n]? = some v)
  (k : ∀ h', IsZip h' c P O (rawInt s.heap.objs.size) → IsPair h' O u v → h'.IsTupleIter i a (m + 1) → h'.IsTupleIter j b (n + 1) → IsPair h' s.heap.objs.size u v → h'.objs.size = s.heap.objs.size + 1 →
   (∀ d o, d ≠ c → d ≠ O → d ≠ i → d ≠ j → s.heap.get? d = some o → h'.get? d = some o) → Q (.ref s.heap.objs.size) { s with heap := h' }) :
  wpAny (model prog w) A (Builtin.«zip.__next__» ⟨[.ref c], []⟩) (fun fin s' => ∃ y, fin = .done (.ret y) ∧ Q y s') E s := by
 show wpAny _ _ (field (.ref c) 2 >>= _) _ _ _
 refine wpAny_bind (wpAny_field gc rfl (x := .bool false) rfl ?_)
 show wpAny _ _ (field (.ref c) 3 >>= _) _ _ _
 refine wpAny_bind (wpAny_field gc rfl (x := .ref P) rfl (wpAny_bind (wpAny_seqItems gP rfl ?_)))
 show wpAny _ _ (Builtin.SmallTypes.ownedTupleIsFree (.ref c) >>= _) _ _ _
 refine wpAny_bind ?_
 unfold Builtin.SmallTypes.ownedTupleIsFree
 refine wpAny_bind (wpAny_field gc rfl (x := .none) rfl (wpAny_pure ?_))
 simp only [if_true]
 refine wpAny_bind (wpAny_rule (wpAny_bind (wpAny_field gc rfl (x := .ref O) rfl (wpAny_bind (wpAny_setField_rec gc (by simp) fun h1 gc1 e1 => ?_)))))
 replace gc1 : IsZip h1 c P O .ellipsis := gc1
 refine wpAny_bind ?_
 simp only [List.zipIdx_cons, List.zipIdx_nil, List.forIn_cons, List.forIn_nil]
 refine wpAny_bind (wpAny_bind (wpAny_onRaise ?_))
 show wpAny _ _ (Builtin.SmallTypes.nextOf (.ref i) >>= _) _ _ _
 refine wpAny_bind (nextOf_tup (gi.extBut e1.extBut D.ic) (ga.extBut e1.extBut D.ac) hu fun h2 gi2 e2 => wpAny_pure ?_)
 have gO2 : IsPair h2 O p q := e2.extBut _ _ D.Oi (e1.extBut _ _ D.Oc gO)
 refine wpAny_bind (wpAny_seqItems gO2 rfl (wpAny_bind (wpAny_updateSeq_pair gO2 fun h3 gO3 e3 => ?_)))
 replace gO3 : IsPair h3 O u q := gO3
 refine wpAny_bind (wpAny_letGo (wpAny_pure (wpAny_bind (wpAny_bind (wpAny_onRaise ?_)))))
 show wpAny _ _ (Builtin.SmallTypes.nextOf (.ref j) >>= _) _ _ _
 refine wpAny_bind (nextOf_tup (((gj.extBut e1.extBut D.jc).extBut e2.extBut D.ij.symm).extBut e3.extBut D.Oj.symm) (((gb.extBut e1.extBut D.bc).extBut e2.extBut D.bi).extBut e3.extBut D.bO) hv fun h4 gj4 e4 => wpAny_pure ?_)
 have gO4 : IsPair h4 O u q := e4.extBut _ _ D.Oj gO3
 refine wpAny_bind (wpAny_seqItems gO4 rfl (wpAny_bind (wpAny_updateSeq_pair gO4 fun h5 gO5 e5 => ?_)))
 replace gO5 : IsPair h5 O u v := gO5
 refine wpAny_bind (wpAny_letGo (wpAny_pure (wpAny_pure (wpAny_bind (wpAny_seqItems gO5 rfl (wpAny_bind (wpAny_newTuple ?_)))))))
 have sz : h5.objs.size = s.heap.objs.size := by rw [e5.1, e4.1, e3.1, e2.1, e1.1]
 have gc5 : IsZip h5 c P O .ellipsis := e5.extBut _ _ D.Oc.symm (e4.extBut _ _ D.jc.symm (e3.extBut _ _ D.Oc.symm (e2.extBut _ _ D.ic.symm gc1)))
 have k5 : ∀ d o, d ≠ c → d ≠ O → d ≠ i → d ≠ j → s.heap.get? d = some o → h5.get? d = some o := fun d o c1 c2 c3 c4 e => e5.extBut _ _ c2 (e4.extBut _ _ c4 (e3.extBut _ _ c2 (e2.extBut _ _ c3 (e1.extBut _ _ c1 e))))
 have gi5 : h5.IsTupleIter i a (m + 1) := ((gi2.extBut e3.extBut D.Oi.symm).extBut e4.extBut D.ij).extBut e5.extBut D.Oi.symm
 have gj5 : h5.IsTupleIter j b (n + 1) := gj4.extBut e5.extBut D.Oj.symm
 have lc : c < h5.objs.size := Heap.lt_size gc5
 show wpAny _ _ (Builtin.SmallTypes.ownedTupleHandOut (.ref c) (.ref h5.objs.size) >>= _) _ _ _
 refine wpAny_bind ?_
 unfold Builtin.SmallTypes.ownedTupleHandOut
 have gc6 : IsZip (h5.push { cls := .type "tuple", data := .seq #[u, v] }) c P O .ellipsis := Heap.get?_push_of_some _ gc5
 refine wpAny_bind (wpAny_setField_rec gc6 (by simp) fun h7 gc7 e7 => ?_)
 replace gc7 : IsZip h7 c P O (rawInt h5.objs.size) := gc7
 refine wpAny_setField_rec gc7 (by simp) fun h8 gc8 e8 => ?_
 replace gc8 : IsZip h8 c P O (rawInt h5.objs.size) := gc8
 have up : ∀ d o, d ≠ c → h5.get? d = some o → h8.get? d = some o := fun d o c1 e => e8.extBut _ _ c1 (e7.extBut _ _ c1 (Heap.get?_push_of_some _ e))
 have gn : IsPair h8 h5.objs.size u v := e8.extBut _ _ (Nat.ne_of_gt lc) (e7.extBut _ _ (Nat.ne_of_gt lc) (Heap.get?_push_size _ rfl))
 have s8 : h8.objs.size = h5.objs.size + 1 := by rw [e8.1, e7.1, Heap.size_push]
 rw [sz] at gc8 gn s8
 refine wpAny_pure ⟨_, rfl, ?_⟩
 show Q (.ref h5.objs.size) _
 rw [sz]
 exact k h8 gc8 (up _ _ D.Oc gO5) (let ⟨o, e, r⟩ := gi5; ⟨o, up _ o D.ic e, r⟩) (let ⟨o, e, r⟩ := gj5; ⟨o, up _ o D.jc e, r⟩) gn s8 fun d o c1 c2 c3 c4 e => up d o c1 (k5 d o c1 c2 c3 c4 e)
theorem zipT_end {c P O i j a b : Addr} {m n : Nat} {us vs : Array Value} {p q : Value} {Q : PySem.Fin → Shared → Prop} (hh : A.handled = none) (D : ZA c P O i j a b)
  (gc : IsZip s.heap c P O .none) (gP : IsPair s.heap P (.ref i) (.ref j)) (gO : IsPair s.heap O p q) (gi : s.heap.IsTupleIter i a m) (gj : s.heap.IsTupleIter j b n) (ga : s.heap.IsTuple a us) (gb : s.heap.IsTuple b vs) (he : us[m]? = none ∨ vs[n]? = none)
  (k : ∀ h' e, (∀ d o, d ≠ c → d ≠ O → d ≠ i → d ≠ j → s.heap.get? d = some o → h'.get? d = some o) → (∃ o, h'.get? e = some o ∧ o.cls = .type "StopIteration") → E (.ref e) { s with heap := h' }) :
  wpAny (model prog w) A (Builtin.«zip.__next__» ⟨[.ref c], []⟩) Q E s := by
 show wpAny _ _ (field (.ref c) 2 >>= _) _ _ _
 refine wpAny_bind (wpAny_field gc rfl (x := .bool false) rfl ?_)
 show wpAny _ _ (field (.ref c) 3 >>= _) _ _ _
 refine wpAny_bind (wpAny_field gc rfl (x := .ref P) rfl (wpAny_bind (wpAny_seqItems gP rfl ?_)))
 show wpAny _ _ (Builtin.SmallTypes.ownedTupleIsFree (.ref c) >>= _) _ _ _
 refine wpAny_bind ?_
 unfold Builtin.SmallTypes.ownedTupleIsFree
 refine wpAny_bind (wpAny_field gc rfl (x := .none) rfl (wpAny_pure ?_))
 simp only [if_true]
 refine wpAny_bind (wpAny_rule (wpAny_bind (wpAny_field gc rfl (x := .ref O) rfl (wpAny_bind (wpAny_setField_rec gc (by simp) fun h1 gc1 e1 => ?_)))))
 replace gc1 : IsZip h1 c P O .ellipsis := gc1
 refine wpAny_bind ?_
 simp only [List.zipIdx_cons, List.zipIdx_nil, List.forIn_cons, List.forIn_nil]
 refine wpAny_bind (wpAny_bind (wpAny_onRaise ?_))
 show wpAny _ _ (Builtin.SmallTypes.nextOf (.ref i) >>= _) _ _ _
 cases hu : us[m]? with
 | none =>
  refine wpAny_bind (nextOf_tup_end hh (gi.extBut e1.extBut D.ic) (ga.extBut e1.extBut D.ac) hu fun h2 e e2 hx => ?_)
  obtain ⟨oe, ho, hc⟩ := hx
  have gc2 : IsZip h2 c P O .ellipsis := e2 _ _ D.ic.symm gc1
  have ne : e ≠ c := fun z => by subst z; rw [gc2] at ho; cases ho; simp at hc
  exact wpAny_setField_rec gc2 (by simp) fun h3 _ e3 => k h3 e (fun d o c1 _ c3 _ z => e3.extBut _ _ c1 (e2 _ _ c3 (e1.extBut _ _ c1 z))) ⟨oe, e3.extBut _ _ ne ho, hc⟩
 | some u =>
  have hv : vs[n]? = none := by
   rcases he with h | h
   ·rw [hu] at h; cases h
   ·exact h
  refine wpAny_bind (nextOf_tup (gi.extBut e1.extBut D.ic) (ga.extBut e1.extBut D.ac) hu fun h2 gi2 e2 => wpAny_pure ?_)
  have gO2 : IsPair h2 O p q := e2.extBut _ _ D.Oi (e1.extBut _ _ D.Oc gO)
  refine wpAny_bind (wpAny_seqItems gO2 rfl (wpAny_bind (wpAny_updateSeq_pair gO2 fun h3 gO3 e3 => wpAny_bind (wpAny_letGo (wpAny_pure (wpAny_bind (wpAny_bind (wpAny_onRaise ?_))))))))
  show wpAny _ _ (Builtin.SmallTypes.nextOf (.ref j) >>= _) _ _ _
  refine wpAny_bind (nextOf_tup_end hh (((gj.extBut e1.extBut D.jc).extBut e2.extBut D.ij.symm).extBut e3.extBut D.Oj.symm) (((gb.extBut e1.extBut D.bc).extBut e2.extBut D.bi).extBut e3.extBut D.bO) hv fun h4 e e4 hx => ?_)
  obtain ⟨oe, ho, hc⟩ := hx
  have gc4 : IsZip h4 c P O .ellipsis := e4 _ _ D.jc.symm (e3.extBut _ _ D.Oc.symm (e2.extBut _ _ D.ic.symm gc1))
  have ne : e ≠ c := fun z => by subst z; rw [gc4] at ho; cases ho; simp at hc
  exact wpAny_setField_rec gc4 (by simp) fun h5 _ e5 => k h5 e (fun d o c1 c2 c3 c4 z => e5.extBut _ _ c1 (e4 _ _ c4 (e3.extBut _ _ c2 (e2.extBut _ _ c3 (e1.extBut _ _ c1 z))))) ⟨oe, e5.extBut _ _ ne ho, hc⟩
end
end L2
namespace L2
open PySem PySem.Spec PyProof.Rows
section
variable {prog : Program} {w : World} {A : Around} {E : Value → Shared → Prop} {s : Shared}
theorem next_zipT {c P O i j a b : Addr} {m n : Nat} {us vs : Array Value} {u v p q : Value} {Q : Option Value → Shared → Prop} (D : ZA c P O i j a b)
  (gc : IsZip s.heap c P O .none) (gP : IsPair s.heap P (.ref i) (.ref j)) (gO : IsPair s.heap O p q) (gi : s.heap.IsTupleIter i a m) (gj : s.heap.IsTupleIter j b n) (ga : s.heap.IsTuple a us) (gb : s.heap.IsTuple b vs) (hu : us[m]? = some u) (hv : vs[n]? = some v)
  (k : ∀ h', IsZip h' c P O (rawInt s.heap.objs.size) → IsPair h' O u v → h'.IsTupleIter i a (m + 1) → h'.IsTupleIter j b (n + 1) → IsPair h' s.heap.objs.size u v → h'.objs.size = s.heap.objs.size + 1 →
   (∀ d o, d ≠ c → d ≠ O → d ≠ i → d ≠ j → s.heap.get? d = some o → h'.get? d = some o) → Q (some (.ref s.heap.objs.size)) { s with heap := h' }) : wpAny (model prog w) A (pyNext (.ref c)) Q E s := by
 have tz : s.TypeIs (.ref c) "zip" := ⟨_, gc, rfl⟩
 unfold pyNext
 refine wpAny_bind (wpAny_attempt (wpAny_callSpecial?_slot (name := Str.ofString "__next__") tz F.slot_zip_next (wpAny_call_entry F.slot_zip_next tz F.entry_zip_next ?_ (F.args_zip_next_1 _))))
 exact zipT_item D gc gP gO gi gj ga gb hu hv fun h' a1 a2 a3 a4 a5 a6 a7 => wpAny_pure (k h' a1 a2 a3 a4 a5 a6 a7)
theorem next_zipT_end {c P O i j a b : Addr} {m n : Nat} {us vs : Array Value} {p q : Value} {Q : Option Value → Shared → Prop} (hh : A.handled = none) (D : ZA c P O i j a b)
  (gc : IsZip s.heap c P O .none) (gP : IsPair s.heap P (.ref i) (.ref j)) (gO : IsPair s.heap O p q) (gi : s.heap.IsTupleIter i a m) (gj : s.heap.IsTupleIter j b n) (ga : s.heap.IsTuple a us) (gb : s.heap.IsTuple b vs) (he : us[m]? = none ∨ vs[n]? = none)
  (k : ∀ h', (∀ d o, d ≠ c → d ≠ O → d ≠ i → d ≠ j → s.heap.get? d = some o → h'.get? d = some o) → Q none { s with heap := h' }) : wpAny (model prog w) A (pyNext (.ref c)) Q E s := by
 have tz : s.TypeIs (.ref c) "zip" := ⟨_, gc, rfl⟩
 unfold pyNext
 refine wpAny_bind (wpAny_attempt (wpAny_callSpecial?_slot (name := Str.ofString "__next__") tz F.slot_zip_next (wpAny_call_entry F.slot_zip_next tz F.entry_zip_next ?_ (F.args_zip_next_1 _))))
 refine zipT_end hh D gc gP gO gi gj ga gb he fun h' e hk hx => ?_
 obtain ⟨o, ho, hc⟩ := hx
 exact wpAny_bind (wpAny_isInstance (T := "StopIteration") (b := true) ⟨o, ho, hc⟩ isSubtype_stop (wpAny_pure (k _ hk)))
abbrev zt1 (h : Heap) (a : Addr) : Heap := h.push { cls := .type "tuple_iterator", data := .fields #[.ref a, .int 0 0] }
abbrev zt2 (h : Heap) (a b : Addr) : Heap := (zt1 h a).push { cls := .type "tuple_iterator", data := .fields #[.ref b, .int 0 0] }
abbrev zt3 (h : Heap) (a b : Addr) : Heap := (zt2 h a b).push { cls := .type "tuple", data := .seq #[.ref h.objs.size, .ref (zt1 h a).objs.size] }
abbrev zt4 (h : Heap) (a b : Addr) : Heap := (zt3 h a b).push { cls := .type "tuple", data := .seq #[.none, .none] }
abbrev zt5 (h : Heap) (a b : Addr) : Heap := (zt4 h a b).push { cls := .type "zip", data := .fields #[.none, .bool false, .bool false, .ref (zt2 h a b).objs.size, .ref (zt3 h a b).objs.size] }
theorem meets_zipT (a b : Addr) (us vs : Array Value) :
  Meets (Builtin.«zip.__new__» ⟨[.type "zip", .ref a, .ref b], []⟩) (fun _ R s => s.heap.IsTuple a us ∧ s.heap.IsTuple b vs ∧ R (.ok (.ret (.ref (zt4 s.heap a b).objs.size))) { s with heap := zt5 s.heap a b }) :=
 .of_wp fun prog w A R s h => by
  obtain ⟨hp, g, d, tk, os⟩ := s; obtain ⟨ha, hb, h⟩ := h
  have hsub := sub_zip
  have hA : Heap.IsTuple (Shared.heap ⟨hp, g, d, tk, os⟩) a us := ha
  have hB : Heap.IsTuple (Shared.heap ⟨hp.push { cls := .type "tuple_iterator", data := .fields #[.ref a, .int 0 0] }, g, d, tk, os⟩) b vs := Heap.IsTuple.push hb _
  wp_walk using wpAny_pyIter_tuple hA, wpAny_pyIter_tuple hB
  exact ⟨_, rfl, h⟩
theorem call_zipT {a b : Addr} {us vs : Array Value} {Q : Value → Shared → Prop} (ha : s.heap.IsTuple a us) (hb : s.heap.IsTuple b vs)
  (k : ∀ h', IsZip h' (s.heap.objs.size + 4) (s.heap.objs.size + 2) (s.heap.objs.size + 3) .none → IsPair h' (s.heap.objs.size + 2) (.ref s.heap.objs.size) (.ref (s.heap.objs.size + 1)) →
   IsPair h' (s.heap.objs.size + 3) .none .none → h'.IsTupleIter s.heap.objs.size a 0 → h'.IsTupleIter (s.heap.objs.size + 1) b 0 → (∀ c o, s.heap.get? c = some o → h'.get? c = some o) → Q (.ref (s.heap.objs.size + 4)) { s with heap := h' }) :
  wpAny (model prog w) A (call (.type "zip") [.ref a, .ref b]) Q E s := by
 refine callType_new F.called_zip (by decide) (F.typeCall_zip_2 _ _) (F.newCall_zip_2 _ _) (fun obj => F.args_object_init_3 obj _ _) F.entry_zip_new (meets_zipT a b us vs) ⟨ha, hb, ?_⟩
 have z1 : (zt1 s.heap a).objs.size = s.heap.objs.size + 1 := Heap.size_push ..
 have z2 : (zt2 s.heap a b).objs.size = s.heap.objs.size + 2 := by rw [Heap.size_push, z1]
 have z3 : (zt3 s.heap a b).objs.size = s.heap.objs.size + 3 := by rw [Heap.size_push, z2]
 have z4 : (zt4 s.heap a b).objs.size = s.heap.objs.size + 4 := by rw [Heap.size_push, z3]
 have up : ∀ {h : Heap} {c : Addr} {x : Obj} (o : Obj), h.get? c = some x → (h.push o).get? c = some x := fun o e => Heap.get?_push_of_some o e
 have g5 : (zt5 s.heap a b).get? (zt4 s.heap a b).objs.size = some _ := Heap.get?_push_size _ rfl
 have g4 : (zt5 s.heap a b).get? (zt3 s.heap a b).objs.size = some _ := up _ (Heap.get?_push_size _ rfl)
 have g3 : (zt5 s.heap a b).get? (zt2 s.heap a b).objs.size = some _ := up _ (up _ (Heap.get?_push_size _ rfl))
 have g2 : (zt5 s.heap a b).get? (zt1 s.heap a).objs.size = some _ := up _ (up _ (up _ (Heap.get?_push_size _ rfl)))
 have g1 : (zt5 s.heap a b).get? s.heap.objs.size = some _ := up _ (up _ (up _ (up _ (Heap.get?_push_size _ rfl))))
 show _ ∧ _
 rw [z2, z3, z4] at g5
 rw [z1, z2] at g3
 rw [z3] at g4
 rw [z1] at g2
 rw [z4]
 exact ⟨⟨_, g5, rfl⟩, k _ g5 g3 g4 ⟨_, g1, rfl, rfl⟩ ⟨_, g2, rfl, rfl⟩ fun c o x => up _ (up _ (up _ (up _ (up _ x))))⟩
end
section
variable {X : Cx} {pins : List (Addr × Obj)} {σ : List (Option V)} {H H' : Hp} {s : Shared} {h' : Heap}
theorem Inv.turnedL {t' : Nat} {ch : List Addr} (I : Inv X pins σ H s) (k : ∀ b o, b ∉ ch → s.heap.get? b = some o → h'.get? b = some o) (hf : ∀ b ∈ ch, FpOk X pins H b) : Inv X pins σ H { s with heap := h', toks := t' } := by
 have nit : ∀ b u, H b = some u → b ∉ ch := fun b u e z => by rw [(hf b z).1] at e; cases e
 refine I.step (g' := s.gens) (d' := s.drawn) (ch := ch) (fun b hb => ?_) (fun b o _ _ hc e _ => k b o hc e) (fun b o _ _ hc e _ => ⟨o.slots, k b o hc e⟩) (fun _ _ _ _ n => n)
  (fun b o hc e => ⟨o, k b o hc e⟩) (fun _ _ e => e) (fun _ _ _ e => e) (fun b ps e => ⟨#[], by rw [e]; simp⟩) (fun m hm => ?_) (fun b u e => ?_) I.bare
 ·obtain ⟨_, h1, _, h3, h4, h5⟩ := hf b hb
  exact ⟨h3, h1, h4, h5⟩
 ·obtain ⟨o, es, ep, ho, r⟩ := hm
  exact ⟨o, es, ep, k _ o (fun z => (hf _ z).2.1 rfl) ho, r⟩
 ·refine (I.hok b u e).stay (fun c v hc q => k c v ?_ q) (fun _ q => q) fun _ _ q => q
  rcases hc with z | z
  ·rw [z]; exact nit b u e
  ·exact nit c _ z
theorem Inv.trackT {a : Addr} {xs : List V} (I : Inv X pins σ H s) (fp : FpOk X pins H a) (h0 : X.s₀.heap.get? a = none) (ho : ObjOk X.prog X.w (upd H a (.tup xs)) s.heap a (.tup xs)) : Inv X pins σ (upd H a (.tup xs)) s := by
 obtain ⟨hn, hL, _, _, hC, hP⟩ := fp
 have up : ∀ b u, H b = some u → upd H a (.tup xs) b = some u := fun b u e => by
  unfold upd
  rw [if_neg (fun z => by rw [z, hn] at e; cases e)]; exact e
 have un : ∀ b, b ≠ a → H b = none → upd H a (.tup xs) b = none := fun b n e => by unfold upd; rw [if_neg n]; exact e
 refine ⟨I.ok, I.os, I.bare, ⟨I.base.keep, I.base.slot, fun b o e n hx => un b (fun z => ?_) (I.base.free b o e n hx), I.base.there, fun b xs e => up _ _ (I.base.tups b xs e), fun b o xs e => up _ _ (I.base.frzs b o xs e), fun b ps e => ?_⟩, I.loc, I.cell, un _ (Ne.symm hL) I.free,
  fun x c e => un _ (hC x c e) (I.freeC x c e), fun p hp => ?_, fun b u e => ?_, I.len⟩
 ·rw [z, h0] at e; cases e
 ·obtain ⟨more, e'⟩ := I.base.tbls b ps e
  exact ⟨more, up _ _ e'⟩
 ·obtain ⟨e, n, ne', nf, d⟩ := I.pin p hp
  exact ⟨e, un _ (hP p hp) n, ne', nf, d⟩
 ·by_cases z : b = a
  ·subst z
   unfold upd at e; rw [if_pos rfl] at e; cases e
   exact ho
  ·unfold upd at e; rw [if_neg z] at e
   exact (I.hok b u e).stay (fun _ _ _ q => q) (fun _ q => up _ _ q) fun _ _ q => up _ _ q
def Itz (K : PySem.W.Frag) (a b : Addr) : It :=
  ⟨fun i H => ∃ xs ys x y, SqT K H a xs ∧ SqT K H b ys ∧ xs[i]? = some x ∧ ys[i]? = some y,
   fun i H v H' => ∃ p x y, v = .ref p ∧ H p = none ∧ H' = upd H p (.tup [x, y]) ∧ (∀ xs, SqT K H a xs → xs[i]? = some x) ∧ ∀ ys, SqT K H b ys → ys[i]? = some y,
   fun i H => ∃ xs ys, SqT K H a xs ∧ SqT K H b ys ∧ (xs.length ≤ i ∨ ys.length ≤ i)⟩
theorem turn_zip {P0 : Program} {w : World} {K : PySem.W.Frag} {es : List Expr} {tk : Nat} {tp : Pos} {c P O i j a b : Addr} (D : ZA c P O i j a b) :
  Turn P0 w K (.Tuple es tk tp) (Itz K a b) [c, P, O, i, j] c (fun n h => IsZip h c P O .none ∧ IsPair h P (.ref i) (.ref j) ∧ (∃ p q, IsPair h O p q) ∧ h.IsTupleIter i a n ∧ h.IsTupleIter j b n) where
 mem := by simp
 obj := fun n h st d hd => by
  obtain ⟨g1, g2, ⟨p, q, g3⟩, ⟨o4, g4, c4, d4⟩, ⟨o5, g5, c5, d5⟩⟩ := st
  simp only [List.mem_cons, List.not_mem_nil, or_false] at hd
  rcases hd with rfl | rfl | rfl | rfl | rfl
  ·exact ⟨_, g1, fun v z => by have z' : Data.fields _ = Data.cell v := z; cases z'⟩
  ·exact ⟨_, g2, fun v z => by have z' : Data.seq _ _ = Data.cell v := z; cases z'⟩
  ·exact ⟨_, g3, fun v z => by have z' : Data.seq _ _ = Data.cell v := z; cases z'⟩
  ·exact ⟨o4, g4, fun v z => by rw [d4] at z; cases z⟩
  ·exact ⟨o5, g5, fun v z => by rw [d5] at z; cases z⟩
 keep := fun n h h' st k => by
  obtain ⟨g1, g2, ⟨p, q, g3⟩, g4, g5⟩ := st
  exact ⟨k c (by simp) _ g1, k P (by simp) _ g2, ⟨p, q, k O (by simp) _ g3⟩, g4.at fun o e => k i (by simp) o e, g5.at fun o e => k j (by simp) o e⟩
 item := by
  intro X hP hw hK hc n pins s σ H E I hf st hg
  subst hP hw hK
  obtain ⟨xs, ys, x, y, hxs, hys, hx, hy⟩ := hg
  obtain ⟨g1, g2, ⟨p, q, g3⟩, g4, g5⟩ := st
  obtain ⟨us, rx, px, _⟩ := I.tuple hxs
  obtain ⟨vs, ry, py, _⟩ := I.tuple hys
  obtain ⟨u, hu, ru⟩ := rx.get hx
  obtain ⟨v, hv, rv⟩ := ry.get hy
  refine next_zipT D g1 g2 g3 g4 g5 (show s.heap.IsTuple a us.toArray from px) (show s.heap.IsTuple b vs.toArray from py) (by simpa using hu) (by simpa using hv) fun h1 a1 a2 a3 a4 a5 a6 a7 => ?_
  refine ⟨_, rfl, wpAny_letOwnedTupleGo_zip (s := { s with heap := h1 }) a1 fun h2 b1 b2 => ?_⟩
  have kk : ∀ d o, d ∉ [c, P, O, i, j] → s.heap.get? d = some o → h2.get? d = some o := fun d o nd e => by
   simp only [List.mem_cons, List.not_mem_nil, or_false, not_or] at nd
   exact b2.extBut _ _ nd.1 (a7 d o nd.1 nd.2.2.1 nd.2.2.2.1 nd.2.2.2.2 e)
  have I1 : Inv X pins σ H { s with heap := h2 } := I.turnedL (t' := s.toks) kk hf
  have lc : c < s.heap.objs.size := Heap.lt_size g1
  have lt : ∀ d ∈ [c, P, O, i, j], d < s.heap.objs.size := fun d hd => by
   simp only [List.mem_cons, List.not_mem_nil, or_false] at hd
   obtain ⟨o4, e4, _⟩ := g4
   obtain ⟨o5, e5, _⟩ := g5
   rcases hd with rfl | rfl | rfl | rfl | rfl
   ·exact lc
   ·exact Heap.lt_size g2
   ·exact Heap.lt_size g3
   ·exact Heap.lt_size e4
   ·exact Heap.lt_size e5
  have a5' : IsPair h2 s.heap.objs.size u v := b2.extBut _ _ (Nat.ne_of_gt lc) a5
  have fp := I.fpOk (H' := H) (Nat.le_refl _) (I.hok.fresh (Nat.le_refl _))
  have h0 : X.s₀.heap.get? s.heap.objs.size = none := by
   cases e : X.s₀.heap.get? s.heap.objs.size with
   | none => rfl
   | some o => exact absurd (Nat.lt_of_lt_of_le (Heap.lt_size e) I.sz) (Nat.lt_irrefl _)
  have I2 := I1.trackT (xs := [x, y]) fp h0 ⟨by show 2 ≤ sizeLine; decide, [u, v], .cons ru (.cons rv .nil), ⟨_, a5', rfl, _, rfl⟩⟩
  refine ⟨.ref s.heap.objs.size, _, I2, rfl, ⟨_, x, y, rfl, I.hok.fresh (Nat.le_refl _), rfl, fun zs hz => by rw [I.tuple_inj hz hxs]; exact hx, fun zs hz => by rw [I.tuple_inj hz hys]; exact hy⟩, ⟨b1, ?_, ⟨u, v, b2.extBut _ _ D.Oc a2⟩, a3.at fun o e => b2.extBut _ _ D.ic e, a4.at fun o e => b2.extBut _ _ D.jc e⟩, fun d hd => ?_⟩
  ·exact b2.extBut _ _ D.Pc (a7 _ _ D.Pc D.PO D.Pi D.Pj g2)
  ·unfold upd
   rw [if_neg (Nat.ne_of_lt (lt d hd))]
   exact (hf d hd).1
 done := by
  intro X hP hw hK hc n pins s σ H E I hf st hg
  subst hP hw hK
  obtain ⟨xs, ys, hxs, hys, hl⟩ := hg
  obtain ⟨g1, g2, ⟨p, q, g3⟩, g4, g5⟩ := st
  obtain ⟨us, rx, px, _⟩ := I.tuple hxs
  obtain ⟨vs, ry, py, _⟩ := I.tuple hys
  have l1 := rx.length
  have l2 := ry.length
  refine next_zipT_end (I.ok.hd hc) D g1 g2 g3 g4 g5 (show s.heap.IsTuple a us.toArray from px) (show s.heap.IsTuple b vs.toArray from py) (hl.imp (fun h => by simp; omega) fun h => by simp; omega) fun h1 a7 => ⟨rfl, I.turnedL (t' := s.toks) (fun d o nd e => ?_) hf⟩
  simp only [List.mem_cons, List.not_mem_nil, or_false, not_or] at nd
  exact a7 d o nd.1 nd.2.2.1 nd.2.2.2.1 nd.2.2.2.2 e
 self := fun _ _ _ _ _ st h => wpAny_pyIter_zip st.1 h
theorem za_new {n a b : Nat} (ha : a < n) (hb : b < n) : ZA (n + 4) (n + 2) (n + 3) n (n + 1) a b := by
 constructor <;> exact (show (_ : Nat) ≠ _ by omega)
def iZip (K : PySem.W.Frag) (ta : TA) : TI := fun σ H R => ta σ H fun vs H1 => ∃ a b xs ys, vs = [.ref a, .ref b] ∧ SqT K H1 a xs ∧ SqT K H1 b ys ∧ R (Itz K a b) H1
theorem pi_zip {a b : Expr} {ta : TA} {p pos tp : Pos} {es : List Expr} {tk : Nat} (hg : Gl X "zip") (hm : X.mg "zip" = none) (ha : PA X [a, b] ta) (hs : starEach [a, b] X.env = [(false, eval a X.env), (false, eval b X.env)]) (hs2 : starEach [b] X.env = [(false, eval b X.env)]) :
  PI X (.Tuple es tk tp) (.Call (.Name "zip" p) [a, b] [] pos) (iZip X.K ta) := by
 intro pins s σ H R I h
 refine Call_ (ld_blt I hg hm (show bootBuiltins "zip" = some (.type "zip") by decide +kernel) (PyProof.Rows.callWith_type1 (thn (ha pos pins s σ H _ I h) fun us s1 ⟨vs, H1, I1, r1, q1⟩ => ?_) (by rw [hs, hs2]) (by rw [hs2]; rfl)))
 obtain ⟨a', b', xs, ys, e, hx, hy, q⟩ := q1
 subst e
 cases r1 with
 | cons r rr =>
  cases rr with
  | cons r' rr =>
   cases rr
   cases r
   cases r'
   obtain ⟨us, rx, px, _⟩ := I1.tuple hx
   obtain ⟨vs, ry, py, _⟩ := I1.tuple hy
   have la : a' < s1.heap.objs.size := by obtain ⟨o, e, _⟩ := (show s1.heap.IsTuple a' us.toArray from px); exact Heap.lt_size e
   have lb : b' < s1.heap.objs.size := by obtain ⟨o, e, _⟩ := (show s1.heap.IsTuple b' vs.toArray from py); exact Heap.lt_size e
   refine call_zipT (show s1.heap.IsTuple a' us.toArray from px) (show s1.heap.IsTuple b' vs.toArray from py) fun h' g1 g2 g3 g4 g5 gk => ?_
   refine wpAny_pyIter_zip (s := { s1 with heap := h' }) g1 ?_
   refine ⟨_, [s1.heap.objs.size + 4, s1.heap.objs.size + 2, s1.heap.objs.size + 3, s1.heap.objs.size, s1.heap.objs.size + 1], _, _, H1, rfl, I1.kept (t' := s1.toks) gk, turn_zip (za_new la lb), ⟨g1, g2, ⟨_, _, g3⟩, g4, g5⟩, fun d hd => ?_, q⟩
   have hd' : s1.heap.objs.size ≤ d := by
    simp only [List.mem_cons, List.not_mem_nil, or_false] at hd
    rcases hd with rfl | rfl | rfl | rfl | rfl <;> omega
   exact I1.fpOk hd' (I1.hok.fresh hd')
end
end L2
namespace L2
open PySem PySem.Spec PyProof.Rows
section
variable {κ : Type} [DecidableEq κ]
def valV (kvs : List (κ × V)) (k : κ) : Option V := (kvs.find? fun kv => decide (kv.1 = k)).map (·.2)
def putK (kvs : List (κ × V)) (k : κ) (v : V) : List (κ × V) :=
 if (kvs.any fun kv => decide (kv.1 = k)) = true then kvs.map (fun kv => if kv.1 = k then (kv.1, v) else kv) else kvs ++ [(k, v)]
theorem valV_pos {p : κ × V} {r : List (κ × V)} {k : κ} (e : p.1 = k) : valV (p :: r) k = some p.2 := by simp [valV, List.find?_cons, e]
theorem valV_neg {p : κ × V} {r : List (κ × V)} {k : κ} (e : ¬ p.1 = k) : valV (p :: r) k = valV r k := by simp [valV, List.find?_cons, e]
theorem valV_any (k : κ) : ∀ kvs : List (κ × V), (kvs.any fun kv => decide (kv.1 = k)) = (valV kvs k).isSome
 | [] => rfl
 | p :: r => by
  rw [List.any_cons]
  by_cases e : p.1 = k
  ·simp only [valV_pos e, decide_eq_true e, Bool.true_or, Option.isSome_some]
  ·rw [valV_neg e, decide_eq_false e, Bool.false_or]; exact valV_any k r
theorem length_putK (kvs : List (κ × V)) (k : κ) (v : V) : (putK kvs k v).length ≤ kvs.length + 1 := by
 unfold putK
 split
 ·rw [List.length_map]; omega
 ·rw [List.length_append, List.length_cons, List.length_nil]; omega
theorem RelO.isSome_eq {o : Option V} {u : Option Value} (r : RelO o u) : o.isSome = u.isSome := by
 cases o with
 | none => cases u with
  | none => rfl
  | some _ => exact (show False from r).elim
 | some _ => cases u with
  | none => exact (show False from r).elim
  | some _ => rfl
theorem RelO.getD {o : Option V} {u : Option Value} {d : V} {d' : Value} (r : RelO o u) (rd : RelV d d') : RelV (o.getD d) (u.getD d') := by
 cases o with
 | none => cases u with
  | none => exact rd
  | some _ => exact (show False from r).elim
 | some _ => cases u with
  | none => exact (show False from r).elim
  | some _ => exact r
theorem KV.val {kvs : List (κ × V)} {vs : List (κ × Value)} (r : KV kvs vs) (k : κ) : RelO (valV kvs k) (valueAt vs k) := by
 unfold KV at r
 induction r with
 | nil => exact True.intro
 | @cons p q ps qs h t ih =>
  obtain ⟨h1, h2⟩ := h
  by_cases e : p.1 = k
  ·have e' : q.1 = k := h1.symm.trans e
   have b : valueAt (q :: qs) k = some q.2 := by simp [valueAt, List.find?_cons, e']
   rw [valV_pos e, b]; exact h2
  ·have e' : ¬ q.1 = k := fun z => e (h1.trans z)
   have b : valueAt (q :: qs) k = valueAt qs k := by simp [valueAt, List.find?_cons, e']
   rw [valV_neg e, b]; exact ih
theorem KV.any {kvs : List (κ × V)} {vs : List (κ × Value)} (r : KV kvs vs) (k : κ) : (kvs.any fun kv => decide (kv.1 = k)) = vs.any fun kv => decide (kv.1 = k) := by
 unfold KV at r
 induction r with
 | nil => rfl
 | cons h t ih => rw [List.any_cons, List.any_cons, ih, h.1]
theorem KV.repl {kvs : List (κ × V)} {vs : List (κ × Value)} (r : KV kvs vs) (k : κ) {y : V} {u : Value} (ry : RelV y u) :
  KV (kvs.map fun kv => if kv.1 = k then (kv.1, y) else kv) (vs.map fun kv => if kv.1 = k then (kv.1, u) else kv) := by
 unfold KV at r ⊢
 induction r with
 | nil => exact .nil
 | @cons p q ps qs h t ih =>
  rw [List.map_cons, List.map_cons]
  refine .cons ?_ ih
  obtain ⟨h1, h2⟩ := h
  by_cases e : p.1 = k
  ·rw [if_pos e, if_pos (h1.symm.trans e)]; exact ⟨h1, ry⟩
  ·rw [if_neg e, if_neg (fun z => e (h1.trans z))]; exact ⟨h1, h2⟩
theorem KV.put {kvs : List (κ × V)} {vs : List (κ × Value)} (r : KV kvs vs) (k : κ) {y : V} {u : Value} (ry : RelV y u) : KV (putK kvs k y) (stored vs k u) := by
 unfold putK stored
 rw [r.any k]
 by_cases e : (vs.any fun kv => decide (kv.1 = k)) = true
 ·rw [if_pos e, if_pos e]; exact r.repl k ry
 ·rw [if_neg e, if_neg e]; exact Paired.snoc r ⟨rfl, ry⟩
theorem KV.length {kvs : List (κ × V)} {vs : List (κ × Value)} (r : KV kvs vs) : kvs.length = vs.length := Paired.length r
end
theorem kV_is {P : Program} {w : World} {k : Key} {u : Value} (r : RelV (kV k) u) : (mixKind P w).is k u = true := by
 cases k with
 | inl i => obtain ⟨t, e⟩ := (show ∃ t, u = Value.int i t from r); subst e; exact mixKind_int P w i t
 | inr x => obtain ⟨t, e⟩ := (show ∃ t, u = Value.str x t from r); subst e; exact mixKind_str P w x t
theorem items_are {P : Program} {w : World} : ∀ {ks : List Key} {us : List Value}, Vals (ks.map kV) us → ItemsAre (mixKind P w) ks us
 | [], _, r => by rw [List.map_nil] at r; cases r; exact .nil
 | k :: ks, _, r => by
  rw [List.map_cons] at r
  cases r with
  | cons h t => exact .cons (kV_is h) (items_are t)
abbrev KT (H : Hp) : List (List Key × V) → List (List Key × Addr × Value) → Prop := Paired fun p q => p.1 = q.1 ∧ H q.2.1 = some (.tup (p.1.map kV)) ∧ RelV p.2 q.2.2
theorem KT.val {H : Hp} {kvs : List (List Key × V)} {xs : List (List Key × Addr × Value)} (r : KT H kvs xs) (k : List Key) : RelO (valV kvs k) ((atKey xs k).map (·.2)) := by
 induction r with
 | nil => exact True.intro
 | @cons p q ps qs h t ih =>
  obtain ⟨h1, _, h2⟩ := h
  by_cases e : p.1 = k
  ·have e' : q.1 = k := h1.symm.trans e
   have b : atKey (q :: qs) k = some q.2 := by simp [atKey, List.find?_cons, e']
   rw [valV_pos e, b]; exact h2
  ·have e' : ¬ q.1 = k := fun z => e (h1.trans z)
   have b : atKey (q :: qs) k = atKey qs k := by simp [atKey, List.find?_cons, e']
   rw [valV_neg e, b]; exact ih
theorem KT.repl {H : Hp} {kvs : List (List Key × V)} {xs : List (List Key × Addr × Value)} (r : KT H kvs xs) (k : List Key) {y : V} {u : Value} (ry : RelV y u) :
  KT H (kvs.map fun kv => if kv.1 = k then (kv.1, y) else kv) (xs.map (putAt k u)) := by
 induction r with
 | nil => exact .nil
 | @cons p q ps qs h t ih =>
  rw [List.map_cons, List.map_cons]
  refine .cons ?_ ih
  obtain ⟨h1, h2, h3⟩ := h
  unfold putAt
  by_cases e : p.1 = k
  ·rw [if_pos e, if_pos (h1.symm.trans e)]; exact ⟨h1, h2, ry⟩
  ·rw [if_neg e, if_neg (fun z => e (h1.trans z))]; exact ⟨h1, h2, h3⟩
theorem KT.put {H : Hp} {kvs : List (List Key × V)} {xs : List (List Key × Addr × Value)} (r : KT H kvs xs) (k : List Key) {b : Addr} {y : V} {u : Value} (hb : H b = some (.tup (k.map kV))) (ry : RelV y u) :
  KT H (putK kvs k y) (storedH xs k b u) := by
 have e : (kvs.any fun kv => decide (kv.1 = k)) = (atKey xs k).isSome := by
  rw [valV_any, (r.val k).isSome_eq, Option.isSome_map]
 unfold putK storedH
 rw [e]
 by_cases q : (atKey xs k).isSome = true
 ·rw [if_pos q, if_pos q]; exact r.repl k ry
 ·rw [if_neg q, if_neg q]; exact Paired.snoc r ⟨rfl, hb, ry⟩
theorem KT.keeps {H H' : Hp} {kvs : List (List Key × V)} {xs : List (List Key × Addr × Value)} (r : KT H kvs xs) (ht : ∀ b ys, H b = some (.tup ys) → H' b = some (.tup ys)) : KT H' kvs xs :=
 Paired.mapP r fun _ _ z => ⟨z.1, ht _ _ z.2.1, z.2.2⟩
section
variable {P : Program} {w : World} {H : Hp} {h : Heap} {a : Addr}
theorem rd_of {u : HO} (ok : HOk P w H h) (e : Rd H a u) : ObjOk P w H h a u := e.ok ok
theorem dk_rd {kvs : List (Key × V)} (ok : HOk P w H h) (e : Rd H a (.dK kvs)) : kvs.length ≤ sizeLine ∧ (a == sysModules) = false ∧ ∃ vs, KV kvs vs ∧ h.DictOf (mixKind P w) a vs :=
 show ObjOk P w H h a (.dK kvs) from rd_of ok e
theorem dk_of {kvs : List (Key × V)} (ok : HOk P w H h) (e : H a = some (.dK kvs)) : kvs.length ≤ sizeLine ∧ (a == sysModules) = false ∧ ∃ vs, KV kvs vs ∧ h.DictOf (mixKind P w) a vs := dk_rd ok (.inl e)
theorem key_of {ks : List Key} (ok : HOk P w H h) (e : H a = some (.tup (ks.map kV))) : (tupleKind (mixKind P w)).is h ks a := by
 obtain ⟨_, its, r, o, h1, h2, n, h3⟩ := (show ObjOk P w H h a (.tup (ks.map kV)) from ok a _ e)
 exact ⟨o, its.toArray, n, h1, h2, h3, by simpa using items_are r⟩
theorem dt_rd {kvs : List (List Key × V)} (ok : HOk P w H h) (e : Rd H a (.dT kvs)) : kvs.length ≤ sizeLine ∧ (a == sysModules) = false ∧
  ∃ xs, KT H kvs xs ∧ h.DictOfH (tupleKind (mixKind P w)) a xs := by
 obtain ⟨z, y, xs, r, o, es, ep, h1, h2, h3, h4, h5⟩ := (show ObjOk P w H h a (.dT kvs) from rd_of ok e)
 refine ⟨z, y, xs, r, o, es, ep, h1, h2, h3, h4, fun x hx => ?_, h5⟩
 have all : ∀ {l : List (List Key × V)} {m : List (List Key × Addr × Value)}, KT H l m → ∀ x ∈ m, (tupleKind (mixKind P w)).is h x.1 x.2.1 := by
  intro l m q
  induction q with
  | nil => intro x hx; exact nomatch hx
  | @cons p q ps qs hq t ih =>
   intro x hx
   rcases List.mem_cons.mp hx with e | hx
   ·subst e
    exact key_of ok (by rw [← hq.1]; exact hq.2.1)
   ·exact ih x hx
 exact all r x hx
theorem dt_of {kvs : List (List Key × V)} (ok : HOk P w H h) (e : H a = some (.dT kvs)) : kvs.length ≤ sizeLine ∧ (a == sysModules) = false ∧
  ∃ xs, KT H kvs xs ∧ h.DictOfH (tupleKind (mixKind P w)) a xs := dt_rd ok (.inl e)
end
def DGet (H : Hp) (a : Addr) (y : V) (r : Option V) : Prop :=
 (∃ kvs k, Rd H a (.dK kvs) ∧ y = kV k ∧ r = valV kvs k) ∨ ∃ kvs k b, Rd H a (.dT kvs) ∧ y = .ref b ∧ H b = some (.tup (k.map kV)) ∧ r = valV kvs k
def DPut (H : Hp) (a : Addr) (y v : V) (H' : Hp) : Prop :=
 (∃ kvs k, H a = some (.dK kvs) ∧ y = kV k ∧ kvs.length < sizeLine ∧ H' = upd H a (.dK (putK kvs k v))) ∨
 ∃ kvs k b, H a = some (.dT kvs) ∧ y = .ref b ∧ H b = some (.tup (k.map kV)) ∧ kvs.length < sizeLine ∧ H' = upd H a (.dT (putK kvs k v))
theorem DGet.k {H : Hp} {a : Addr} {kvs : List (Key × V)} {k : Key} (e : H a = some (.dK kvs)) : DGet H a (kV k) (valV kvs k) := .inl ⟨kvs, k, .inl e, rfl, rfl⟩
theorem DPut.k {H : Hp} {a : Addr} {kvs : List (Key × V)} {k : Key} {v : V} (e : H a = some (.dK kvs)) (hl : kvs.length < sizeLine) : DPut H a (kV k) v (upd H a (.dK (putK kvs k v))) := .inl ⟨kvs, k, e, rfl, hl, rfl⟩
section
variable {X : Cx} {pins : List (Addr × Obj)} {σ : St} {H : Hp} {s : Shared} {a : Addr} {y v : V} {u r : Value} {o : Option V} {A : Around} {E : Value → Shared → Prop}
theorem Inv.big (I : Inv X pins σ H s) : sysModules < s.heap.objs.size := by
 have h : mainGlobals < s.heap.objs.size := (I.mod.glob.keeps I.bk).lt
 exact Nat.lt_trans (by decide) h
theorem d_getItem {Q : Value → Shared → Prop} (hu : A.units + 1 < cLine) (I : Inv X pins σ H s) (g : DGet H a y (some v)) (ry : RelV y u) (h : ∀ w' s', Inv X pins σ H s' → RelV v w' → Q w' s') :
  wpAny (model X.prog X.w) A (getItem (.ref a) u) Q E s := by
 rcases g with ⟨kvs, k, e, ey, l⟩ | ⟨kvs, k, b, e, ey, eb, l⟩
 ·subst ey
  obtain ⟨z, hd, vs, rel, dd⟩ := dk_rd I.hok e
  obtain ⟨w', hw, rw'⟩ := RelO.some_of (v := v) (o := valueAt vs k) (by rw [l]; exact rel.val k)
  exact wpAny_getItem_of (kV_is ry) dd.mapOf hw (h w' _ (I.tok _) rw')
 ·subst ey
  cases (show u = Value.ref b from ry)
  obtain ⟨z, hd, xs, rel, dd⟩ := dt_rd I.hok e
  obtain ⟨w', hw, rw'⟩ := RelO.some_of (v := v) (o := (atKey xs k).map (·.2)) (by rw [l]; exact rel.val k)
  obtain ⟨p, hp, hp2⟩ := Option.map_eq_some_iff.mp hw
  refine wpAny_getItem_heap (tupleKind_room_in1 hu) (key_of I.hok eb) dd hp ?_
  rw [hp2]
  exact h w' _ (I.tok _) rw'
theorem d_in {Q : Value → Shared → Prop} (hu : A.units + 1 < cLine) (I : Inv X pins σ H s) (g : DGet H a y o) (ry : RelV y u) (h : ∀ s', Inv X pins σ H s' → Q (.bool o.isSome) s') :
  wpAny (model X.prog X.w) A (compareOp .In u (.ref a)) Q E s := by
 rcases g with ⟨kvs, k, e, ey, l⟩ | ⟨kvs, k, b, e, ey, eb, l⟩
 ·subst ey
  obtain ⟨z, hd, vs, rel, dd⟩ := dk_rd I.hok e
  refine wpAny_in_of (kV_is ry) hd dd.mapOf ?_
  rw [← (rel.val k).isSome_eq, ← l]
  exact h _ (I.tok _)
 ·subst ey
  cases (show u = Value.ref b from ry)
  obtain ⟨z, hd, xs, rel, dd⟩ := dt_rd I.hok e
  refine wpAny_in_heap (tupleKind_room_in1 hu) (key_of I.hok eb) hd dd ?_
  have q := (rel.val k).isSome_eq
  rw [Option.isSome_map] at q
  rw [← q, ← l]
  exact h _ (I.tok _)
theorem d_notIn {Q : Value → Shared → Prop} (hu : A.units + 1 < cLine) (I : Inv X pins σ H s) (g : DGet H a y o) (ry : RelV y u) (h : ∀ s', Inv X pins σ H s' → Q (.bool (!o.isSome)) s') :
  wpAny (model X.prog X.w) A (compareOp .NotIn u (.ref a)) Q E s := by
 rcases g with ⟨kvs, k, e, ey, l⟩ | ⟨kvs, k, b, e, ey, eb, l⟩
 ·subst ey
  obtain ⟨z, hd, vs, rel, dd⟩ := dk_rd I.hok e
  refine wpAny_notIn_of (kV_is ry) hd dd.mapOf ?_
  rw [← (rel.val k).isSome_eq, ← l]
  exact h _ (I.tok _)
 ·subst ey
  cases (show u = Value.ref b from ry)
  obtain ⟨z, hd, xs, rel, dd⟩ := dt_rd I.hok e
  refine wpAny_notIn_heap (tupleKind_room_in1 hu) (key_of I.hok eb) hd dd ?_
  have q := (rel.val k).isSome_eq
  rw [Option.isSome_map] at q
  rw [← q, ← l]
  exact h _ (I.tok _)
theorem d_write {h' : Heap} {t' : Nat} {ob : HO} (I : Inv X pins σ H s) (mu : Mut (H a)) (hs : Heap.SameBut a s.heap h') (he : ∃ q, h'.get? a = some q) (new : ObjOk X.prog X.w (upd H a ob) h' a ob) :
  Inv X pins σ (upd H a ob) { s with heap := h', toks := t' } :=
 I.write (x := a) (e := a) mu (.inl rfl) (fun b q hb z => (hs.2 b hb).trans z) he new
theorem dk_new {P : Program} {w : World} {H' : Hp} {h' : Heap} {kvs : List (Key × V)} {vs : List (Key × Value)} (z : kvs.length ≤ sizeLine) (hd : (a == sysModules) = false) (rel : KV kvs vs) (dd : h'.DictOf (mixKind P w) a vs) :
  ObjOk P w H' h' a (.dK kvs) := ⟨z, hd, vs, rel, dd⟩
theorem d_setItem {H' : Hp} {Q : Unit → Shared → Prop} (hu : A.units + 1 < cLine) (I : Inv X pins σ H s) (g : DPut H a y v H') (ry : RelV y u) (rv : RelV v r) (h : ∀ s', Inv X pins σ H' s' → Q () s') :
  wpAny (model X.prog X.w) A (setItem (.ref a) u r) Q E s := by
 rcases g with ⟨kvs, k, e, ey, l, eH⟩ | ⟨kvs, k, b, e, ey, eb, l, eH⟩
 ·subst ey eH
  obtain ⟨z, hd, vs, rel, dd⟩ := dk_of I.hok e
  have hz : vs.length ≤ sizeLine := by rw [← rel.length]; exact z
  have hl : (putK kvs k v).length ≤ sizeLine := by have := length_putK kvs k v; omega
  refine wpAny_setItem_pairs (hsz := hz) (kV_is ry) dd fun h' dd' hs => h _ ?_
  have he : ∃ q, h'.get? a = some q := let ⟨q, _, _, hq, _⟩ := dd'; ⟨q, hq⟩
  exact d_write I (by rw [e]; exact True.intro) hs he (dk_new hl hd (rel.put k rv) dd')
 ·subst ey eH
  cases (show u = Value.ref b from ry)
  obtain ⟨z, hd, xs, rel, dd⟩ := dt_of I.hok e
  have hz : xs.length ≤ sizeLine := by rw [← Paired.length rel]; exact z
  have hl : (putK kvs k v).length ≤ sizeLine := by have := length_putK kvs k v; omega
  refine wpAny_setItem_heap (hsz := hz) (tupleKind_room_in1 hu) (key_of I.hok eb) dd fun h' dd' hs => h _ ?_
  obtain ⟨q, es, ep, hq, h2, h3, h4, _, h5⟩ := dd'
  refine d_write I (by rw [e]; exact True.intro) hs ⟨q, hq⟩ ⟨hl, hd, _, (rel.put k eb rv).keeps fun c ys ec => ?_, q, es, ep, hq, h2, h3, h4, h5⟩
  rw [upd_ne (ne_of ec e (fun z => nomatch z))]
  exact ec
end
section
variable {X : Cx} {pins : List (Addr × Obj)} {σ : St} {H : Hp} {s : Shared} {a : Addr} {kvs : List (Key × V)} {k : Key} {u : Value} {A : Around} {E : Value → Shared → Prop}
end
def NoSl (i : Expr) : Prop := ∀ ov iv, subscripted i false ov iv = operate [ov, iv] (getItem ov iv)
theorem subD_of {prog : Program} {w : World} {A : Around} {E : Value → Shared → Prop} {s : Shared} {env : Env} {value slice : Expr} {pos : Pos} {T id : String} {Q : Value → Shared → Prop}
  (hl : typeLookup (.type T) "__getitem__" = pure (some (.builtin id))) (hs : NoSl slice)
  (h : wpAny (model prog w) A (eval value env) (fun o s₁ => wpAny (model prog w) A (eval slice env) (fun i s₂ => s₂.TypeIs o T ∧ wpAny (model prog w) A (getItem o i) Q E s₂) E s₁) E s) :
  wpAny (model prog w) A (eval (.Subscript value slice pos) env) Q E s := by
 refine Subscript_ (wpAny_mono h (fun o s₁ h₁ => wpAny_mono h₁ (fun i s₂ h₂ => ?_) fun _ _ x => x) fun _ _ x => x)
 obtain ⟨hT, h₂⟩ := h₂
 unfold subscriptTail
 refine wpAny_bind ?_
 rw [getitemInPython_of_ne hT.not_modules]
 refine wpAny_bind (wpAny_specialOf hT hl ?_)
 have fin : wpAny (model prog w) A (subscripted slice false o i) (fun r s₃ => wpAny (model prog w) A (letTemporaryGo value o r >>= fun _ => pure r) Q E s₃) E s₂ := by
  rw [hs o i]
  exact wpAny_operating (wpAny_mono h₂ (fun r s₃ h₃ => wpAny_bind (wpAny_letTemporaryGo (wpAny_pure h₃))) fun _ _ x => x)
 first
  | exact wpAny_pure (wpAny_bind fin)
  | exact wpAny_bind (wpAny_pure (wpAny_bind fin))
  | exact wpAny_bind fin
theorem dict_typeIs {X : Cx} {pins : List (Addr × Obj)} {σ : St} {H : Hp} {s : Shared} {a : Addr} {y : V} {o : Option V} (I : Inv X pins σ H s) (g : DGet H a y o) : s.TypeIs (.ref a) "dict" := by
 rcases g with ⟨kvs, k, e, _, _⟩ | ⟨kvs, k, b, e, _, _, _⟩
 ·obtain ⟨_, _, vs, _, dd⟩ := dk_rd I.hok e
  exact dd.typeIs
 ·obtain ⟨_, _, xs, _, dd⟩ := dt_rd I.hok e
  exact dd.typeIs
def tDGet (td ty : TE) : TE := fun σ H Q => td σ H fun x H1 => ty σ H1 fun y H2 => ∃ a v, x = .ref a ∧ DGet H2 a y (some v) ∧ Q v H2
def sDPut (td ty tv : TE) : TS := fun D σ H => tv σ H fun v H1 => td σ H1 fun x H2 => ty σ H2 fun y H3 => ∃ a H4, x = .ref a ∧ DPut H3 a y v H4 ∧ D.nx σ H4
section
variable {X : Cx} {o i e value : Expr} {pos pos' tpos : Pos} {td ty tv : TE}
theorem pe_dget (hu : X.A.units + 1 < cLine) (ho : PE X o td) (hi : PE X i ty) (hs : NoSl i) : PE X (.Subscript o i pos) (tDGet td ty) := by
 intro pins s σ H Q I h
 refine subD_of PySem.F.slot_dict_getitem.lookup hs (thn (ho pins s σ H _ I h) fun u s1 ⟨x, H1, I1, rx, q1⟩ => thn (hi pins s1 σ H1 _ I1 q1) fun iv s2 ⟨y, H2, I2, ry, a, v, ex, g, q2⟩ => ?_)
 subst ex
 obtain rfl : u = Value.ref a := rx
 exact ⟨dict_typeIs I2 g, d_getItem hu I2 g ry fun w' s3 I3 rw' => ⟨v, H2, I3, rw', q2⟩⟩
theorem ps_dput (hu : X.A.units + 1 < cLine) (ho : PE X o td) (hi : PE X i ty) (hv : PE X value tv) (hs : swapsWith value (some (.Subscript o i pos')) pos.line X.env = pure false) :
  PS X (.Assign [.Subscript o i pos'] value pos) (sDPut td ty tv) := by
 intro pins s σ H D I h
 refine wpAny_Assign_Subscript (thn (hv pins s σ H _ I h) fun r s1 ⟨v, H1, I1, rv, q1⟩ => thn (ho pins s1 σ H1 _ I1 q1) fun u s2 ⟨x, H2, I2, rx, q2⟩ => thn (hi pins s2 σ H2 _ I2 q2) fun iv s3 ⟨y, H3, I3, ry, a, H4, ex, g, q3⟩ => ?_) hs
 subst ex
 obtain rfl : u = Value.ref a := rx
 exact d_setItem hu I3 g ry rv fun s4 I4 => ⟨σ, H4, I4, q3⟩
end
theorem dk_empty {P : Program} {w : World} {H : Hp} (h : Heap) (hb : sysModules < h.objs.size) : ObjOk P w H (h.push { cls := .type "dict", data := .dict #[] }) h.objs.size (.dK []) :=
 ⟨Nat.zero_le _, beq_eq_false_iff_ne.mpr (Ne.symm (Nat.ne_of_lt hb)), [], .nil, Heap.DictOf.new h⟩
def tDNewK : TE := fun _ H Q => ∀ p, H p = none → Q (.ref p) (upd H p (.dK []))
section
variable {X : Cx} {pos : Pos}
theorem pe_dnewK : PE X (.Dict [] [] pos) tDNewK := fun pins s σ H Q I h =>
 wpAny_Dict_empty ⟨.ref s.heap.objs.size, _, I.laid (a := s.heap.objs.size) (o := .dK []) (t' := s.toks) (fun _ _ q => Heap.get?_push_of_some _ q) (Nat.le_refl _) (dk_empty s.heap I.big), rfl, h _ (I.hok.fresh (Nat.le_refl _))⟩
end
section
variable {X : Cx} {pins : List (Addr × Obj)} {σ : St} {H : Hp} {s : Shared} {a : Addr} {y d : V} {u r : Value} {o : Option V} {A : Around} {E : Value → Shared → Prop}
theorem d_get1 {Q : Value → Shared → Prop} (hu : A.units + 1 < cLine) (I : Inv X pins σ H s) (g : DGet H a y o) (ry : RelV y u) (h : ∀ w' s', Inv X pins σ H s' → RelV (o.getD .non) w' → Q w' s') :
  wpAny (model X.prog X.w) A (call (.builtin "dict.get") [.ref a, u]) Q E s := by
 rcases g with ⟨kvs, k, e, ey, l⟩ | ⟨kvs, k, b, e, ey, eb, l⟩
 ·subst ey
  obtain ⟨z, hd, vs, rel, dd⟩ := dk_rd I.hok e
  refine call_meetsIn PySem.F.slot_dict_get dd.typeIs PySem.F.entry_dict_get (PySem.F.args_dict_get_2 _ _) (meets_dict_get (mixKind X.prog X.w) a (kV_is ry) hd) ⟨_, dd.mapOf, h _ _ (I.tok _) ?_⟩
  rw [l]
  exact (rel.val k).getD rfl
 ·subst ey
  cases (show u = Value.ref b from ry)
  obtain ⟨z, hd, xs, rel, dd⟩ := dt_rd I.hok e
  refine call_meetsIn PySem.F.slot_dict_get dd.typeIs PySem.F.entry_dict_get (PySem.F.args_dict_get_2 _ _) (meetsH_dict_get (tupleKind (mixKind X.prog X.w)) a b hd) ⟨tupleKind_room_in1 hu, k, xs, key_of I.hok eb, dd, h _ _ (I.tok _) ?_⟩
  rw [l]
  exact (rel.val k).getD rfl
theorem d_get2 {Q : Value → Shared → Prop} (hu : A.units + 1 < cLine) (I : Inv X pins σ H s) (g : DGet H a y o) (ry : RelV y u) (rd : RelV d r) (h : ∀ w' s', Inv X pins σ H s' → RelV (o.getD d) w' → Q w' s') :
  wpAny (model X.prog X.w) A (call (.builtin "dict.get") [.ref a, u, r]) Q E s := by
 rcases g with ⟨kvs, k, e, ey, l⟩ | ⟨kvs, k, b, e, ey, eb, l⟩
 ·subst ey
  obtain ⟨z, hd, vs, rel, dd⟩ := dk_rd I.hok e
  refine call_meetsIn PySem.F.slot_dict_get dd.typeIs PySem.F.entry_dict_get (PySem.F.args_dict_get_3 _ _ _) (meets_dict_get_default (mixKind X.prog X.w) a (kV_is ry) hd r) ⟨_, dd.mapOf, h _ _ (I.tok _) ?_⟩
  rw [l]
  exact (rel.val k).getD rd
 ·subst ey
  cases (show u = Value.ref b from ry)
  obtain ⟨z, hd, xs, rel, dd⟩ := dt_rd I.hok e
  refine call_meetsIn PySem.F.slot_dict_get dd.typeIs PySem.F.entry_dict_get (PySem.F.args_dict_get_3 _ _ _) (meetsH_dict_get_default (tupleKind (mixKind X.prog X.w)) a b hd r) ⟨tupleKind_room_in1 hu, k, xs, key_of I.hok eb, dd, h _ _ (I.tok _) ?_⟩
  rw [l]
  exact (rel.val k).getD rd
end
section
variable {X : Cx} {o e f : Expr} {apos cpos : Pos} {td ty tx : TE}
end
section
variable {X : Cx} {pins : List (Addr × Obj)} {σ : St} {H : Hp} {s : Shared} {a : Addr} {kvs : List (Key × V)} {A : Around} {E : Value → Shared → Prop}
theorem d_copyOf {Q : Value → Shared → Prop} (I : Inv X pins σ H s) (e : Rd H a (.dK kvs)) (h : ∀ p s', H p = none → Inv X pins σ (upd H p (.dK kvs)) s' → Q (.ref p) s') : wpAny (model X.prog X.w) A (call (.type "dict") [.ref a]) Q E s := by
 obtain ⟨z, hd, vs, rel, dd⟩ := dk_rd I.hok e
 refine kt_call_dict hd dd (by rw [← rel.length]; exact z) fun h' dd' hs => ?_
 refine h _ _ (I.hok.fresh (Nat.le_refl _)) (I.laid (a := s.heap.objs.size) (o := .dK kvs) (t' := s.toks) (fun b q hq => ?_) (Nat.le_refl _) (dk_new z (beq_eq_false_iff_ne.mpr (Ne.symm (Nat.ne_of_lt I.big))) rel dd'))
 exact (hs.2 b (Nat.ne_of_lt (Heap.lt_size hq))).trans (Heap.get?_push_of_some _ hq)
end
section
variable {X : Cx} {pins : List (Addr × Obj)} {σ : St} {H : Hp} {s : Shared} {a : Addr} {y : V} {u : Value} {A : Around} {E : Value → Shared → Prop}
end
end L2
namespace DL
open PySem PySem.Spec PyProof.Rows L2
abbrev St := L2.St
inductive W where
 | non | bl (b : Bool) | int (i : Int) | str (x : Str) | ty (n : String)
 | tup (xs : List W) | lst (xs : List W) | dct (ks : List Key) (vs : List W) | ref (n : Nat) | exn (x : Str)
instance : Inhabited W := ⟨.non⟩
inductive MO where
 | lst (xs : List W) | dct (ks : List Key) (vs : List W)
structure S where
 nxt : Nat
 mu : Nat → Option MO
inductive R (α : Type) where
 | ok (a : α) (s : S) | ex (c : W) (s : S) | stuck
def R.bind {α β : Type} (r : R α) (f : α → S → R β) : R β := match r with
 | .ok a s => f a s
 | .ex c s => .ex c s
 | .stuck => .stuck
abbrev Ga := List (Option W)
section
variable (K : PySem.W.Frag) (ι : Nat → Addr) (N : Nat) (G : Hp)
mutual
inductive RelW : V → W → Prop
 | non : RelW .non .non
 | bl (b : Bool) : RelW (.bl b) (.bl b)
 | int (i : Int) : RelW (.int i) (.int i)
 | str (x : Str) : RelW (.str x) (.str x)
 | ty (n : String) : RelW (.ty n) (.ty n)
 | tup {a : Addr} {xs : List V} {ws : List W} : SqT K G a xs → RelWs xs ws → RelW (.ref a) (.tup ws)
 | lst {a : Addr} {xs : List V} {ws : List W} : SqL K G a xs → RelWs xs ws → RelW (.ref a) (.lst ws)
 | dct {a : Addr} {xs : List V} {ks : List Key} {ws : List W} : G a = some (.dK (ks.zip xs)) → xs.length = ks.length → RelWs xs ws → RelW (.ref a) (.dct ks ws)
 | ref {n : Nat} : n < N → RelW (.ref (ι n)) (.ref n)
 | exn {a C : Addr} {x : Str} : G a = some (.ext (exPh a (.ref C))) → PySem.W.nsIn K mainGlobals x = some (some (.ref C)) → RelW (.ref a) (.exn x)
inductive RelWs : List V → List W → Prop
 | nil : RelWs [] []
 | cons {x : V} {w : W} {xs : List V} {ws : List W} : RelW x w → RelWs xs ws → RelWs (x :: xs) (w :: ws)
end
end
structure Ext (ι : Nat → Addr) (N : Nat) (G : Hp) (ι' : Nat → Addr) (N' : Nat) (G' : Hp) : Prop where
 le : N ≤ N'
 ag : ∀ n, n < N → ι' n = ι n
 sm : Same G G'
theorem Ext.refl (ι : Nat → Addr) (N : Nat) (G : Hp) : Ext ι N G ι N G := ⟨Nat.le_refl _, fun _ _ => rfl, Same.refl G⟩
theorem Ext.trans {ι ι1 ι2 : Nat → Addr} {N N1 N2 : Nat} {G G1 G2 : Hp} (a : Ext ι N G ι1 N1 G1) (b : Ext ι1 N1 G1 ι2 N2 G2) : Ext ι N G ι2 N2 G2 :=
 ⟨Nat.le_trans a.le b.le, fun n h => (b.ag n (Nat.lt_of_lt_of_le h a.le)).trans (a.ag n h), a.sm.trans b.sm⟩
theorem sqT_same {K : PySem.W.Frag} {H H' : Hp} {a : Addr} {xs : List V} (e : Same H H') (h : SqT K H a xs) : SqT K H' a xs := by
 rcases h with (h | ⟨o, h⟩) | h
 ·exact .inl (.inl (e _ _ h))
 ·exact .inl (.inr ⟨o, e _ _ h⟩)
 ·exact .inr h
section
variable {K : PySem.W.Frag} {ι ι' : Nat → Addr} {N N' : Nat} {G G' : Hp}
theorem RelW.mono (e : Ext ι N G ι' N' G') {v : V} {w : W} (h : RelW K ι N G v w) : RelW K ι' N' G' v w := by
 refine RelW.rec (motive_1 := fun v w _ => RelW K ι' N' G' v w) (motive_2 := fun vs ws _ => RelWs K ι' N' G' vs ws) ?_ ?_ ?_ ?_ ?_ ?_ ?_ ?_ ?_ ?_ ?_ ?_ h
 ·exact .non
 ·exact .bl
 ·exact .int
 ·exact .str
 ·exact .ty
 ·intro a xs ws s _ r; exact .tup (sqT_same e.sm s) r
 ·intro a xs ws s _ r; exact .lst (e.sm.seq s) r
 ·intro a xs ks ws s l _ r; exact .dct (e.sm _ _ s) l r
 ·intro n hn; rw [← e.ag n hn]; exact .ref (Nat.lt_of_lt_of_le hn e.le)
 ·intro a C x s n; exact .exn (e.sm _ _ s) n
 ·exact .nil
 ·intro x w xs ws _ _ r1 r2; exact .cons r1 r2
theorem RelWs.mono (e : Ext ι N G ι' N' G') : ∀ {vs : List V} {ws : List W}, RelWs K ι N G vs ws → RelWs K ι' N' G' vs ws
 | _, _, .nil => .nil
 | _, _, .cons r t => .cons (r.mono e) (RelWs.mono e t)
theorem RelWs.length : ∀ {vs : List V} {ws : List W}, RelWs K ι N G vs ws → vs.length = ws.length
 | _, _, .nil => rfl
 | _, _, .cons _ t => by rw [List.length_cons, List.length_cons, RelWs.length t]
theorem RelWs.get : ∀ {vs : List V} {ws : List W} {i : Nat} {w : W}, RelWs K ι N G vs ws → ws[i]? = some w → ∃ v, vs[i]? = some v ∧ RelW K ι N G v w
 | _, _, _, _, .nil, e => by simp at e
 | _, _, 0, _, .cons r _, e => by simp at e; subst e; exact ⟨_, rfl, r⟩
 | _, _, i + 1, x, .cons _ t, e => by
  obtain ⟨u, h1, h2⟩ := RelWs.get (i := i) (w := x) t (by simpa using e)
  exact ⟨u, by simpa using h1, h2⟩
theorem RelWs.get' : ∀ {vs : List V} {ws : List W} {i : Nat} {v : V}, RelWs K ι N G vs ws → vs[i]? = some v → ∃ w, ws[i]? = some w ∧ RelW K ι N G v w
 | _, _, _, _, .nil, e => by simp at e
 | _, _, 0, _, .cons r _, e => by simp at e; subst e; exact ⟨_, rfl, r⟩
 | _, _, i + 1, x, .cons _ t, e => by
  obtain ⟨u, h1, h2⟩ := RelWs.get' (i := i) (v := x) t (by simpa using e)
  exact ⟨u, by simpa using h1, h2⟩
theorem RelWs.append : ∀ {vs vs' : List V} {ws ws' : List W}, RelWs K ι N G vs ws → RelWs K ι N G vs' ws' → RelWs K ι N G (vs ++ vs') (ws ++ ws')
 | _, _, _, _, .nil, s => s
 | _, _, _, _, .cons r t, s => .cons r (RelWs.append t s)
theorem RelWs.take : ∀ {vs : List V} {ws : List W} (n : Nat), RelWs K ι N G vs ws → RelWs K ι N G (vs.take n) (ws.take n)
 | _, _, 0, _ => .nil
 | _, _, _ + 1, .nil => .nil
 | _, _, n + 1, .cons r t => .cons r (RelWs.take n t)
theorem RelWs.drop : ∀ {vs : List V} {ws : List W} (n : Nat), RelWs K ι N G vs ws → RelWs K ι N G (vs.drop n) (ws.drop n)
 | _, _, 0, r => r
 | _, _, _ + 1, .nil => .nil
 | _, _, n + 1, .cons _ t => RelWs.drop n t
theorem RelWs.set {v : V} {w : W} (r : RelW K ι N G v w) : ∀ {vs : List V} {ws : List W} (n : Nat), RelWs K ι N G vs ws → RelWs K ι N G (vs.set n v) (ws.set n w)
 | _, _, _, .nil => .nil
 | _, _, 0, .cons _ t => .cons r t
 | _, _, n + 1, .cons q t => .cons q (RelWs.set r n t)
theorem RelWs.reverse {vs : List V} {ws : List W} (r : RelWs K ι N G vs ws) : RelWs K ι N G vs.reverse ws.reverse := by
 induction vs generalizing ws with
 | nil => cases r; exact .nil
 | cons v vs ih =>
  cases r with
  | cons r t => rw [List.reverse_cons, List.reverse_cons]; exact (ih t).append (.cons r .nil)
theorem RelWs.bls : ∀ {vs : List V} {bs : List Bool}, RelWs K ι N G vs (bs.map W.bl) → vs = bs.map V.bl
 | _, [], .nil => rfl
 | _, b :: bs, .cons r t => by cases r; rw [List.map_cons, RelWs.bls t]
theorem RelWs.ofInts (ns : List Int) : RelWs K ι N G (ns.map V.int) (ns.map W.int) := by
 induction ns with
 | nil => exact .nil
 | cons n ns ih => exact .cons (.int n) ih
def MOR (K : PySem.W.Frag) (ι : Nat → Addr) (N : Nat) (G H : Hp) (a : Addr) : MO → Prop
 | .lst ws => ∃ xs, H a = some (.lst xs) ∧ RelWs K ι N G xs ws
 | .dct ks ws => ∃ xs, H a = some (.dK (ks.zip xs)) ∧ xs.length = ks.length ∧ RelWs K ι N G xs ws
structure SR (K : PySem.W.Frag) (ι : Nat → Addr) (st : S) (G H : Hp) : Prop where
 sub : Same G H
 live : ∀ n o, st.mu n = some o → n < st.nxt ∧ G (ι n) = none ∧ MOR K ι st.nxt G H (ι n) o
 inj : ∀ n m o o', st.mu n = some o → st.mu m = some o' → ι n = ι m → n = m
end
structure EnvR (K : PySem.W.Frag) (ι : Nat → Addr) (N : Nat) (G : Hp) (σ : St) (Γ : Ga) : Prop where
 len : σ.length = Γ.length
 get : ∀ (i : Nat) (w : W), Γ[i]? = some (some w) → ∃ v, σ[i]? = some (some v) ∧ RelW K ι N G v w
theorem EnvR.mono {K : PySem.W.Frag} {ι ι' : Nat → Addr} {N N' : Nat} {G G' : Hp} {σ : St} {Γ : Ga} (e : Ext ι N G ι' N' G') (h : EnvR K ι N G σ Γ) : EnvR K ι' N' G' σ Γ :=
 ⟨h.len, fun i w q => let ⟨v, h1, h2⟩ := h.get i w q; ⟨v, h1, h2.mono e⟩⟩
theorem EnvR.set {K : PySem.W.Frag} {ι : Nat → Addr} {N : Nat} {G : Hp} {σ : St} {Γ : Ga} {v : V} {w : W} (h : EnvR K ι N G σ Γ) (i : Nat) (r : RelW K ι N G v w) : EnvR K ι N G (σ.set i (some v)) (Γ.set i (some w)) := by
 refine ⟨by rw [List.length_set, List.length_set]; exact h.len, fun j u q => ?_⟩
 rw [List.getElem?_set] at q ⊢
 by_cases hij : i = j
 ·rw [if_pos hij] at q ⊢
  subst hij
  by_cases hl : i < Γ.length
  ·rw [if_pos hl] at q
   rw [if_pos (by rw [h.len]; exact hl)]
   cases q
   exact ⟨v, rfl, r⟩
  ·rw [if_neg hl] at q; cases q
 ·rw [if_neg hij] at q ⊢
  exact h.get j u q
section
variable {K : PySem.W.Frag} {ι : Nat → Addr} {st : S} {G H : Hp}
theorem SR.laid (h : SR K ι st G H) {p : Addr} {o : HO} (hp : H p = none) : SR K ι st (upd G p o) (upd H p o) ∧ Ext ι st.nxt G ι st.nxt (upd G p o) := by
 have hG : G p = none := h.sub.free hp
 have sm : Same G (upd G p o) := fun b u e => by rw [upd_ne (ne_of_none e hG)]; exact e
 have ex : Ext ι st.nxt G ι st.nxt (upd G p o) := ⟨Nat.le_refl _, fun _ _ => rfl, sm⟩
 refine ⟨⟨fun b u e => ?_, fun n m e => ?_, h.inj⟩, ex⟩
 ·by_cases hb : b = p
  ·subst hb; rw [upd_same] at e ⊢; exact e
  ·rw [upd_ne hb] at e ⊢; exact h.sub b u e
 ·obtain ⟨h1, h2, h3⟩ := h.live n m e
  have hne : ι n ≠ p := by
   intro z
   cases m with
   | lst ws => obtain ⟨xs, q, _⟩ := h3; rw [z, hp] at q; cases q
   | dct ks ws => obtain ⟨xs, q, _⟩ := h3; rw [z, hp] at q; cases q
  refine ⟨h1, by rw [upd_ne hne]; exact h2, ?_⟩
  cases m with
  | lst ws => obtain ⟨xs, q, r⟩ := h3; exact ⟨xs, by rw [upd_ne hne]; exact q, r.mono ex⟩
  | dct ks ws => obtain ⟨xs, q, l, r⟩ := h3; exact ⟨xs, by rw [upd_ne hne]; exact q, l, r.mono ex⟩
def S.new (st : S) (o : MO) : S := ⟨st.nxt + 1, fun n => if n = st.nxt then some o else st.mu n⟩
def S.put (st : S) (n : Nat) (o : MO) : S := ⟨st.nxt, fun m => if m = n then some o else st.mu m⟩
theorem SR.newL (h : SR K ι st G H) {p : Addr} {xs : List V} {ws : List W} (hp : H p = none) (r : RelWs K ι st.nxt G xs ws) :
  ∃ ι', Ext ι st.nxt G ι' (st.nxt + 1) G ∧ SR K ι' (st.new (.lst ws)) G (upd H p (.lst xs)) ∧ ι' st.nxt = p := by
 have hG : G p = none := h.sub.free hp
 have ex : Ext ι st.nxt G (fun n => if n = st.nxt then p else ι n) (st.nxt + 1) G := ⟨Nat.le_succ _, fun n hn => if_neg (Nat.ne_of_lt hn), Same.refl G⟩
 have nep : ∀ n o, st.mu n = some o → ι n ≠ p := fun n o e z => by
  obtain ⟨_, _, h3⟩ := h.live n o e
  cases o with
  | lst ws => obtain ⟨xs, q, _⟩ := h3; rw [z, hp] at q; cases q
  | dct ks ws => obtain ⟨xs, q, _⟩ := h3; rw [z, hp] at q; cases q
 refine ⟨fun n => if n = st.nxt then p else ι n, ex, ⟨fun b u e => ?_, fun n o e => ?_, fun n m o o' e e' z => ?_⟩, if_pos rfl⟩
 ·rw [upd_ne (ne_of_none e hG)]; exact h.sub b u e
 ·by_cases hn : n = st.nxt
  ·subst hn
   have e' : (if st.nxt = st.nxt then some (MO.lst ws) else st.mu st.nxt) = some o := e
   rw [if_pos rfl] at e'
   cases e'
   refine ⟨Nat.lt_succ_self _, by (try dsimp only); rw [if_pos rfl]; exact hG, xs, by (try dsimp only); rw [if_pos rfl, upd_same], r.mono ex⟩
  ·have e' : (if n = st.nxt then some (MO.lst ws) else st.mu n) = some o := e
   rw [if_neg hn] at e'
   obtain ⟨h1, h2, h3⟩ := h.live n o e'
   have hne := nep n o e'
   refine ⟨Nat.lt_succ_of_lt h1, by (try dsimp only); rw [if_neg hn]; exact h2, ?_⟩
   cases o with
   | lst ws => obtain ⟨xs, q, r⟩ := h3; exact ⟨xs, by (try dsimp only); rw [if_neg hn, upd_ne hne]; exact q, r.mono ex⟩
   | dct ks ws => obtain ⟨xs, q, l, r⟩ := h3; exact ⟨xs, by (try dsimp only); rw [if_neg hn, upd_ne hne]; exact q, l, r.mono ex⟩
 ·have e1 : (if n = st.nxt then some (MO.lst ws) else st.mu n) = some o := e
  have e2 : (if m = st.nxt then some (MO.lst ws) else st.mu m) = some o' := e'
  (try dsimp only at z)
  by_cases hn : n = st.nxt
  ·by_cases hm : m = st.nxt
   ·rw [hn, hm]
   ·rw [if_neg hm] at e2
    rw [if_pos hn, if_neg hm] at z
    exact absurd z.symm (nep m o' e2)
  ·rw [if_neg hn] at e1
   by_cases hm : m = st.nxt
   ·rw [if_neg hn, if_pos hm] at z
    exact absurd z (nep n o e1)
   ·rw [if_neg hm] at e2
    rw [if_neg hn, if_neg hm] at z
    exact h.inj n m o o' e1 e2 z
theorem SR.putL (h : SR K ι st G H) {n : Nat} {o : MO} {xs : List V} {ws : List W} (hn : st.mu n = some o) (r : RelWs K ι st.nxt G xs ws) : SR K ι (st.put n (.lst ws)) G (upd H (ι n) (.lst xs)) := by
 obtain ⟨h1, h2, _⟩ := h.live n o hn
 refine ⟨fun b u e => ?_, fun m u e => ?_, fun a b u u' e e' z => ?_⟩
 ·rw [upd_ne (ne_of_none e h2)]; exact h.sub b u e
 ·have e' : (if m = n then some (MO.lst ws) else st.mu m) = some u := e
  by_cases hm : m = n
  ·subst hm
   rw [if_pos rfl] at e'
   cases e'
   exact ⟨h1, h2, xs, upd_same, r⟩
  ·rw [if_neg hm] at e'
   obtain ⟨g1, g2, g3⟩ := h.live m u e'
   have hne : ι m ≠ ι n := fun z => hm (h.inj m n u o e' hn z)
   refine ⟨g1, g2, ?_⟩
   cases u with
   | lst ws => obtain ⟨xs, q, r⟩ := g3; exact ⟨xs, by rw [upd_ne hne]; exact q, r⟩
   | dct ks ws => obtain ⟨xs, q, l, r⟩ := g3; exact ⟨xs, by rw [upd_ne hne]; exact q, l, r⟩
 ·have e1 : (if a = n then some (MO.lst ws) else st.mu a) = some u := e
  have e2 : (if b = n then some (MO.lst ws) else st.mu b) = some u' := e'
  have l1 : ∃ o, st.mu a = some o := by
   by_cases q : a = n
   ·exact ⟨o, by rw [q]; exact hn⟩
   ·rw [if_neg q] at e1; exact ⟨u, e1⟩
  have l2 : ∃ o, st.mu b = some o := by
   by_cases q : b = n
   ·exact ⟨o, by rw [q]; exact hn⟩
   ·rw [if_neg q] at e2; exact ⟨u', e2⟩
  obtain ⟨o1, l1⟩ := l1
  obtain ⟨o2, l2⟩ := l2
  exact h.inj a b o1 o2 l1 l2 z
end
def ClsR (K : PySem.W.Frag) (c : W) (cls : Value) : Prop := ∃ x C, c = .str x ∧ PySem.W.nsIn K mainGlobals x = some (some (.ref C)) ∧ cls = .ref C
def XW (X : Cx) (ι : Nat → Addr) (N : Nat) (G : Hp) (c : W) (st' : S) : Prop :=
 ∀ (H' : Hp) (ι' : Nat → Addr) (G' : Hp) (ea : Addr) (cls : Value) (s' : Shared), Ext ι N G ι' st'.nxt G' → SR X.K ι' st' G' H' → ClsR X.K c cls → ExcIn X H' ea cls s' → X.xe (.ref ea) s'
theorem XW.mono {X : Cx} {ι ι1 : Nat → Addr} {N N1 : Nat} {G G1 : Hp} {c : W} {st' : S} (e : Ext ι N G ι1 N1 G1) (h : XW X ι N G c st') : XW X ι1 N1 G1 c st' :=
 fun H' ι' G' x cl s' e' r q I => h H' ι' G' x cl s' (e.trans e') r q I
def wpR (X : Cx) {α : Type} (Rel : (ι : Nat → Addr) → Nat → Hp → α → V → Prop) (ι : Nat → Addr) (N : Nat) (G : Hp) (r : R α) (Q : VK) : Prop := match r with
 | .ok w st' => ∀ v ι' G' H', Ext ι N G ι' st'.nxt G' → SR X.K ι' st' G' H' → Rel ι' st'.nxt G' w v → Q v H'
 | .ex c st' => XW X ι N G c st'
 | .stuck => False
abbrev RW (X : Cx) : (ι : Nat → Addr) → Nat → Hp → W → V → Prop := fun ι N G w v => RelW X.K ι N G v w
abbrev wpW (X : Cx) := wpR X (RW X)
theorem wpW.bind {X : Cx} {ι : Nat → Addr} {N : Nat} {G : Hp} {r : R W} {f : W → S → R W} {Q Q' : VK} (h : wpW X ι N G (r.bind f) Q)
  (k : ∀ w st' v ι' G' H', r = .ok w st' → Ext ι N G ι' st'.nxt G' → SR X.K ι' st' G' H' → RelW X.K ι' st'.nxt G' v w → wpW X ι' st'.nxt G' (f w st') Q → Q' v H') : wpW X ι N G r Q' := by
 cases r with
 | stuck => exact h
 | ex c s => exact h
 | ok w st' =>
  intro v ι' G' H' e sr rel
  refine k w st' v ι' G' H' rfl e sr rel ?_
  have h' : wpW X ι N G (f w st') Q := h
  cases q : f w st' with
  | stuck => rw [q] at h'; exact h'
  | ex c s => rw [q] at h'; exact XW.mono e h'
  | ok w2 st2 =>
   rw [q] at h'
   exact fun v2 ι2 G2 H2 e2 sr2 rel2 => h' v2 ι2 G2 H2 (e.trans e2) sr2 rel2
theorem wpW.mono {X : Cx} {ι : Nat → Addr} {N : Nat} {G : Hp} {r : R W} {Q Q' : VK} (h : wpW X ι N G r Q) (k : ∀ v H, Q v H → Q' v H) : wpW X ι N G r Q' := by
 cases r with
 | stuck => exact h
 | ex c s => exact h
 | ok w st' => exact fun v ι' G' H' e sr rel => k _ _ (h v ι' G' H' e sr rel)
theorem wpW.later {X : Cx} {ι ι1 : Nat → Addr} {N N1 : Nat} {G G1 : Hp} {r : R W} {Q : VK} (e : Ext ι N G ι1 N1 G1) (h : wpW X ι N G r Q) : wpW X ι1 N1 G1 r Q := by
 cases r with
 | stuck => exact h
 | ex c s => exact XW.mono e h
 | ok w st' => exact fun v ι' G' H' e' sr rel => h v ι' G' H' (e.trans e') sr rel
abbrev Run := Ga → S → R W
def tD (X : Cx) (run : Run) : TE := fun σ H Q => ∃ ι G st Γ, EnvR X.K ι st.nxt G σ Γ ∧ SR X.K ι st G H ∧ wpW X ι st.nxt G (run Γ st) Q
abbrev PD (X : Cx) (e : Expr) (run : Run) : Prop := PE X e (tD X run)
theorem PE.imp {X : Cx} {e : Expr} {t t' : TE} (h : PE X e t) (k : ∀ σ H Q, t' σ H Q → t σ H Q) : PE X e t' := fun pins s σ H Q I q => h pins s σ H Q I (k σ H Q q)
theorem PT.imp {X : Cx} {e : Expr} {t t' : TT} (h : PT X e t) (k : ∀ σ H Q, t' σ H Q → t σ H Q) : PT X e t' := fun pins s σ H Q I q => h pins s σ H Q I (k σ H Q q)
theorem PS.imp {X : Cx} {e : Stmt} {t t' : TS} (h : PS X e t) (k : ∀ D σ H, t' D σ H → t D σ H) : PS X e t' := fun pins s σ H D I q => h pins s σ H D I (k D σ H q)
theorem PSs.imp {X : Cx} {e : List Stmt} {t t' : TS} (h : PSs X e t) (k : ∀ D σ H, t' D σ H → t D σ H) : PSs X e t' := fun pins s σ H D I q => h pins s σ H D I (k D σ H q)
theorem PA.imp {X : Cx} {e : List Expr} {t t' : TA} (h : PA X e t) (k : ∀ σ H Q, t' σ H Q → t σ H Q) : PA X e t' := fun pos pins s σ H Q I q => h pos pins s σ H Q I (k σ H Q q)
def tDT (X : Cx) (run : Run) : TT := fun σ H Q => tD X run σ H fun v H' => ∃ b, v = .bl b ∧ Q b H'
section
variable {X : Cx}
def rVar (i : Nat) : Run := fun Γ st => match Γ[i]? with
 | some (some w) => .ok w st
 | _ => .stuck
theorem pd_var {i : Nat} {x : Str} {pos : Pos} (hN : X.N[i]? = some x) (hv : Vis X.env.scope x) (hd : (x == ("__debug__" : Str)) = false) (hcd : (x == ("__classdict__" : Str)) = false) : PD X (.Name x pos) (rVar i) := by
 refine PE.imp (pe_var hN hv hd hcd) fun σ H Q h => ?_
 obtain ⟨ι, G, st, Γ, en, sr, q⟩ := h
 unfold rVar at q
 cases e : Γ[i]? with
 | none => rw [e] at q; exact q.elim
 | some o =>
  cases o with
  | none => rw [e] at q; exact q.elim
  | some w =>
   rw [e] at q
   obtain ⟨v, h1, h2⟩ := en.get i w e
   exact ⟨v, h1, q v ι G H (Ext.refl _ _ _) sr h2⟩
def rCon (w : W) : Run := fun _ st => .ok w st
theorem pd_con {e : Expr} {v : V} {w : W} (h : PE X e (tC v)) (r : ∀ ι N G, RelW X.K ι N G v w) : PD X e (rCon w) := by
 refine PE.imp h fun σ H Q h => ?_
 obtain ⟨ι, G, st, Γ, en, sr, q⟩ := h
 exact q v ι G H (Ext.refl _ _ _) sr (r _ _ _)
abbrev Op2 := W → W → S → R W
def OpW (X : Cx) (f : Value → Value → Sem Value) (op : Op2) : Prop :=
 ∀ (pins : List (Addr × Obj)) (s : Shared) (σ : St) (H : Hp) (ι : Nat → Addr) (G : Hp) (st : S) (x y : V) (w1 w2 : W) (v u : Value) (Q : VK), Inv X pins σ H s → SR X.K ι st G H → RelV x v → RelV y u → RelW X.K ι st.nxt G x w1 → RelW X.K ι st.nxt G y w2 →
  wpW X ι st.nxt G (op w1 w2 st) Q → wpAny (model X.prog X.w) X.A (f v u) (EP X pins σ Q) X.xe s
def rOp (X : Cx) (op : Op2) : R2 := fun x y H Q => ∃ ι G st w1 w2, SR X.K ι st G H ∧ RelW X.K ι st.nxt G x w1 ∧ RelW X.K ι st.nxt G y w2 ∧ wpW X ι st.nxt G (op w1 w2 st) Q
theorem OpW.r {f : Value → Value → Sem Value} {op : Op2} (h : OpW X f op) : OpR X f (rOp X op) :=
 fun pins s σ H x y v u Q I rx ry ⟨ι, G, st, w1, w2, sr, r1, r2, q⟩ => h pins s σ H ι G st x y w1 w2 v u Q I sr rx ry r1 r2 q
def run2 (ra rb : Run) (op : Op2) : Run := fun Γ st => (ra Γ st).bind fun w1 st1 => (rb Γ st1).bind fun w2 st2 => op w1 w2 st2
theorem tD_op {ra rb : Run} {op : Op2} {σ : St} {H : Hp} {Q : VK} (h : tD X (run2 ra rb op) σ H Q) : tOp (rOp X op) (tD X ra) (tD X rb) σ H Q := by
 obtain ⟨ι, G, st, Γ, en, sr, q⟩ := h
 refine ⟨ι, G, st, Γ, en, sr, wpW.bind q fun w1 st1 v1 ι1 G1 H1 _ e1 sr1 r1 q1 => ?_⟩
 refine ⟨ι1, G1, st1, Γ, en.mono e1, sr1, wpW.bind q1 fun w2 st2 v2 ι2 G2 H2 _ e2 sr2 r2 q2 => ?_⟩
 exact ⟨ι2, G2, st2, w1, w2, sr2, r1.mono e2, r2, q2⟩
theorem pd_op {a b : Expr} {op : Operator} {pos : Pos} {ra rb : Run} {o : Op2} (ho : OpW X (binaryOp op) o) (ha : PD X a ra) (hb : PD X b rb) : PD X (.BinOp a op b pos) (run2 ra rb o) :=
 PE.imp (pe_op ho.r ha hb) fun _ _ _ h => tD_op h
theorem pd_cmp {a b : Expr} {op : CmpOp} {pos : Pos} {ra rb : Run} {o : Op2} (ho : OpW X (compareOp op) o) (ha : PD X a ra) (hb : PD X b rb) (hm : behindInMarks op b = false) : PD X (.Compare a [op] [b] pos) (run2 ra rb o) :=
 PE.imp (pe_cmpR ho.r ha hb hm) fun _ _ _ h => tD_op h
theorem pdt_cmp {a b : Expr} {op : CmpOp} {pos : Pos} {ra rb : Run} {o : Op2} (ho : OpW X (compareOp op) o) (ha : PD X a ra) (hb : PD X b rb) (hm : behindInMarks op b = false) : PT X (.Compare a [op] [b] pos) (tDT X (run2 ra rb o)) :=
 PT.imp (pt_cmpR ho.r ha hb hm) fun _ _ _ h => tD_op h
def runC (ra rb rc : Run) (o o' : Op2) : Run := fun Γ st => (ra Γ st).bind fun w1 st1 => (rb Γ st1).bind fun w2 st2 => (o w1 w2 st2).bind fun w st3 => match w with
 | .bl true => (rc Γ st3).bind fun w3 st4 => o' w2 w3 st4
 | .bl false => .ok (.bl false) st3
 | _ => .stuck
theorem tD_chain {ra rb rc : Run} {o o' : Op2} {σ : St} {H : Hp} {Q : VK} (h : tD X (runC ra rb rc o o') σ H Q) : tChain (rOp X o) (rOp X o') (tD X ra) (tD X rb) (tD X rc) σ H Q := by
 obtain ⟨ι, G, st, Γ, en, sr, q⟩ := h
 refine ⟨ι, G, st, Γ, en, sr, wpW.bind q fun w1 st1 v1 ι1 G1 H1 _ e1 sr1 r1 q1 => ?_⟩
 refine ⟨ι1, G1, st1, Γ, en.mono e1, sr1, wpW.bind q1 fun w2 st2 v2 ι2 G2 H2 _ e2 sr2 r2 q2 => ?_⟩
 refine ⟨ι2, G2, st2, w1, w2, sr2, r1.mono e2, r2, wpW.bind q2 fun w st3 v ι3 G3 H3 _ e3 sr3 r3 q3 => ?_⟩
 cases w with
 | bl b =>
  cases r3
  refine ⟨b, rfl, ?_⟩
  cases b with
  | false => rw [if_neg Bool.false_ne_true]; exact q3 _ ι3 G3 H3 (Ext.refl _ _ _) sr3 (.bl false)
  | true =>
   rw [if_pos rfl]
   refine ⟨ι3, G3, st3, Γ, ((en.mono e1).mono e2).mono e3, sr3, wpW.bind q3 fun w3 st4 v3 ι4 G4 H4 _ e4 sr4 r4 q4 => ?_⟩
   exact ⟨ι4, G4, st4, w2, w3, sr4, (r2.mono e3).mono e4, r4, q4⟩
 | _ => exact (show False from q3).elim
theorem pd_chain {a b c : Expr} {op op' : CmpOp} {pos : Pos} {ra rb rc : Run} {o o' : Op2} (ho : OpW X (compareOp op) o) (ho' : OpW X (compareOp op') o') (ha : PD X a ra) (hb : PD X b rb) (hc : PD X c rc) (hm : lastMarks [op, op'] [b, c] = false) :
  PD X (.Compare a [op, op'] [b, c] pos) (runC ra rb rc o o') := PE.imp (pe_chain ho.r ho'.r ha hb hc hm) fun _ _ _ h => tD_chain h
theorem pdt_chain {a b c : Expr} {op op' : CmpOp} {pos : Pos} {ra rb rc : Run} {o o' : Op2} (ho : OpW X (compareOp op) o) (ho' : OpW X (compareOp op') o') (ha : PD X a ra) (hb : PD X b rb) (hc : PD X c rc) (hm : lastMarks [op, op'] [b, c] = false) :
  PT X (.Compare a [op, op'] [b, c] pos) (tDT X (runC ra rb rc o o')) := PT.imp (pt_chain ho.r ho'.r ha hb hc hm) fun _ _ _ h => tD_chain h
def runAnd (ra rb : Run) : Run := fun Γ st => (ra Γ st).bind fun w st1 => match w with
 | .bl true => rb Γ st1
 | .bl false => .ok (.bl false) st1
 | _ => .stuck
def runOr (ra rb : Run) : Run := fun Γ st => (ra Γ st).bind fun w st1 => match w with
 | .bl true => .ok (.bl true) st1
 | .bl false => rb Γ st1
 | _ => .stuck
def runNot (ra : Run) : Run := fun Γ st => (ra Γ st).bind fun w st1 => match w with
 | .bl b => .ok (.bl (!b)) st1
 | _ => .stuck
def runIf (rc ra rb : Run) : Run := fun Γ st => (rc Γ st).bind fun w st1 => match w with
 | .bl true => ra Γ st1
 | .bl false => rb Γ st1
 | _ => .stuck
theorem pd_one {a : Expr} {op : BoolOp} {pos : Pos} {ra : Run} (ha : PD X a ra) : PD X (.BoolOp op [a] pos) ra := pe_one ha
theorem pd_and {a b : Expr} {rest : List Expr} {pos : Pos} {ra rb : Run} (ha : PD X a ra) (hb : PD X (.BoolOp .And (b :: rest) pos) rb) : PD X (.BoolOp .And (a :: b :: rest) pos) (runAnd ra rb) := by
 refine PE.imp (pe_and ha hb) fun σ H Q h => ?_
 obtain ⟨ι, G, st, Γ, en, sr, q⟩ := h
 refine ⟨ι, G, st, Γ, en, sr, wpW.bind q fun w st1 v ι1 G1 H1 _ e1 sr1 r1 q1 => ?_⟩
 cases w with
 | bl b =>
  cases r1
  refine ⟨b, rfl, ?_⟩
  cases b with
  | false => rw [if_neg Bool.false_ne_true]; exact q1 _ ι1 G1 H1 (Ext.refl _ _ _) sr1 (.bl false)
  | true => rw [if_pos rfl]; exact ⟨ι1, G1, st1, Γ, en.mono e1, sr1, q1⟩
 | _ => exact (show False from q1).elim
theorem pd_or {a b : Expr} {rest : List Expr} {pos : Pos} {ra rb : Run} (ha : PD X a ra) (hb : PD X (.BoolOp .Or (b :: rest) pos) rb) : PD X (.BoolOp .Or (a :: b :: rest) pos) (runOr ra rb) := by
 refine PE.imp (pe_or ha hb) fun σ H Q h => ?_
 obtain ⟨ι, G, st, Γ, en, sr, q⟩ := h
 refine ⟨ι, G, st, Γ, en, sr, wpW.bind q fun w st1 v ι1 G1 H1 _ e1 sr1 r1 q1 => ?_⟩
 cases w with
 | bl b =>
  cases r1
  refine ⟨b, rfl, ?_⟩
  cases b with
  | true => rw [if_pos rfl]; exact q1 _ ι1 G1 H1 (Ext.refl _ _ _) sr1 (.bl true)
  | false => rw [if_neg Bool.false_ne_true]; exact ⟨ι1, G1, st1, Γ, en.mono e1, sr1, q1⟩
 | _ => exact (show False from q1).elim
theorem pd_not {a : Expr} {pos : Pos} {ra : Run} (ha : PD X a ra) : PD X (.UnaryOp .Not a pos) (runNot ra) := by
 refine PE.imp (pe_not ha) fun σ H Q h => ?_
 obtain ⟨ι, G, st, Γ, en, sr, q⟩ := h
 refine ⟨ι, G, st, Γ, en, sr, wpW.bind q fun w st1 v ι1 G1 H1 _ e1 sr1 r1 q1 => ?_⟩
 cases w with
 | bl b => cases r1; exact ⟨b, rfl, q1 _ ι1 G1 H1 (Ext.refl _ _ _) sr1 (.bl _)⟩
 | _ => exact (show False from q1).elim
theorem pdt_not {a : Expr} {pos : Pos} {ra : Run} (ha : PT X a (tDT X ra)) : PT X (.UnaryOp .Not a pos) (tDT X (runNot ra)) := by
 refine PT.imp (pt_not ha) fun σ H Q h => ?_
 obtain ⟨ι, G, st, Γ, en, sr, q⟩ := h
 refine ⟨ι, G, st, Γ, en, sr, wpW.bind q fun w st1 v ι1 G1 H1 _ e1 sr1 r1 q1 => ?_⟩
 cases w with
 | bl b =>
  cases r1
  obtain ⟨b', e, q'⟩ := q1 _ ι1 G1 H1 (Ext.refl _ _ _) sr1 (.bl _)
  cases e
  exact ⟨b, rfl, q'⟩
 | _ => exact (show False from q1).elim
theorem pwt_one {a : Expr} {op : BoolOp} {pos : Pos} {ra : Run} (ha : PT X a (tDT X ra)) : PW X (.BoolOp op [a] pos) (tDT X ra) := by
 cases op with
 | And => exact pw_and1 ha
 | Or => exact pw_or1 ha
theorem PW.imp {e : Expr} {t t' : TT} (h : PW X e t) (k : ∀ σ H Q, t' σ H Q → t σ H Q) : PW X e t' := fun whole pins s σ H Q I q => h whole pins s σ H Q I (k σ H Q q)
theorem pwt_and {a b : Expr} {rest : List Expr} {pos : Pos} {ra rb : Run} (ha : PT X a (tDT X ra)) (hb : PW X (.BoolOp .And (b :: rest) pos) (tDT X rb)) : PW X (.BoolOp .And (a :: b :: rest) pos) (tDT X (runAnd ra rb)) := by
 refine PW.imp (pw_and ha hb) fun σ H Q h => ?_
 obtain ⟨ι, G, st, Γ, en, sr, q⟩ := h
 refine ⟨ι, G, st, Γ, en, sr, wpW.bind q fun w st1 v ι1 G1 H1 _ e1 sr1 r1 q1 => ?_⟩
 cases w with
 | bl b =>
  cases r1
  refine ⟨b, rfl, ?_⟩
  cases b with
  | false =>
   rw [if_neg Bool.false_ne_true]
   obtain ⟨b', e, q'⟩ := q1 _ ι1 G1 H1 (Ext.refl _ _ _) sr1 (.bl false)
   cases e; exact q'
  | true => rw [if_pos rfl]; exact ⟨ι1, G1, st1, Γ, en.mono e1, sr1, q1⟩
 | _ => exact (show False from q1).elim
theorem pwt_or {a b : Expr} {rest : List Expr} {pos : Pos} {ra rb : Run} (ha : PT X a (tDT X ra)) (hb : PW X (.BoolOp .Or (b :: rest) pos) (tDT X rb)) : PW X (.BoolOp .Or (a :: b :: rest) pos) (tDT X (runOr ra rb)) := by
 refine PW.imp (pw_or ha hb) fun σ H Q h => ?_
 obtain ⟨ι, G, st, Γ, en, sr, q⟩ := h
 refine ⟨ι, G, st, Γ, en, sr, wpW.bind q fun w st1 v ι1 G1 H1 _ e1 sr1 r1 q1 => ?_⟩
 cases w with
 | bl b =>
  cases r1
  refine ⟨b, rfl, ?_⟩
  cases b with
  | true =>
   rw [if_pos rfl]
   obtain ⟨b', e, q'⟩ := q1 _ ι1 G1 H1 (Ext.refl _ _ _) sr1 (.bl true)
   cases e; exact q'
  | false => rw [if_neg Bool.false_ne_true]; exact ⟨ι1, G1, st1, Γ, en.mono e1, sr1, q1⟩
 | _ => exact (show False from q1).elim
theorem pd_if {c a b : Expr} {pos : Pos} {rc ra rb : Run} (hc : PT X c (tDT X rc)) (ha : PD X a ra) (hb : PD X b rb) : PD X (.IfExp c a b pos) (runIf rc ra rb) := by
 refine PE.imp (pe_ifExp hc ha hb) fun σ H Q h => ?_
 obtain ⟨ι, G, st, Γ, en, sr, q⟩ := h
 refine ⟨ι, G, st, Γ, en, sr, wpW.bind q fun w st1 v ι1 G1 H1 _ e1 sr1 r1 q1 => ?_⟩
 cases w with
 | bl b =>
  cases r1
  refine ⟨b, rfl, ?_⟩
  cases b with
  | true => rw [if_pos rfl]; exact ⟨ι1, G1, st1, Γ, en.mono e1, sr1, q1⟩
  | false => rw [if_neg Bool.false_ne_true]; exact ⟨ι1, G1, st1, Γ, en.mono e1, sr1, q1⟩
 | _ => exact (show False from q1).elim
theorem pdt_val {e : Expr} {r : Run} (h : PD X e r) (he : ∀ whole, isTrue e X.env whole = (do let v ← whole; standAt e.pos; holding [v] (truthy v))) : PT X e (tDT X r) := pt_val h he
abbrev Runs := Ga → S → R (List W)
def tDA (X : Cx) (run : Runs) : TA := fun σ H Q => ∃ ι G st Γ, EnvR X.K ι st.nxt G σ Γ ∧ SR X.K ι st G H ∧ (match run Γ st with
 | .ok ws st' => ∀ vs ι' G' H', Ext ι st.nxt G ι' st'.nxt G' → SR X.K ι' st' G' H' → RelWs X.K ι' st'.nxt G' vs ws → Q vs H'
 | .ex c st' => XW X ι st.nxt G c st'
 | .stuck => False)
abbrev PDA (X : Cx) (es : List Expr) (run : Runs) : Prop := PA X es (tDA X run)
def runsNil : Runs := fun _ st => .ok [] st
def runsCons (ra : Run) (rr : Runs) : Runs := fun Γ st => (ra Γ st).bind fun w st1 => (rr Γ st1).bind fun ws st2 => .ok (w :: ws) st2
theorem pda_nil : PDA X [] runsNil := by
 refine PA.imp pa_nil fun σ H Q h => ?_
 obtain ⟨ι, G, st, Γ, en, sr, q⟩ := h
 exact q [] ι G H (Ext.refl _ _ _) sr .nil
theorem pda_cons {e : Expr} {es : List Expr} {ra : Run} {rr : Runs} (ha : PD X e ra) (hr : PDA X es rr) (hs : starEach (e :: es) X.env = (false, eval e X.env) :: starEach es X.env) : PDA X (e :: es) (runsCons ra rr) := by
 refine PA.imp (pa_cons ha hr hs) fun σ H Q h => ?_
 obtain ⟨ι, G, st, Γ, en, sr, q⟩ := h
 refine ⟨ι, G, st, Γ, en, sr, ?_⟩
 unfold runsCons at q
 cases e1 : ra Γ st with
 | stuck => rw [e1] at q; exact q
 | ex c s => rw [e1] at q; exact q
 | ok w st1 =>
  rw [e1] at q
  intro v ι1 G1 H1 x1 sr1 r1
  refine ⟨ι1, G1, st1, Γ, en.mono x1, sr1, ?_⟩
  have q' : match (rr Γ st1).bind fun ws st2 => R.ok (w :: ws) st2 with
   | .ok ws st' => ∀ vs ι' G' H', Ext ι st.nxt G ι' st'.nxt G' → SR X.K ι' st' G' H' → RelWs X.K ι' st'.nxt G' vs ws → Q vs H'
   | .ex c st' => XW X ι st.nxt G c st'
   | .stuck => False := q
  cases e2 : rr Γ st1 with
  | stuck => rw [e2] at q'; exact q'
  | ex c s => rw [e2] at q'; exact XW.mono x1 q'
  | ok ws st2 =>
   rw [e2] at q'
   exact fun vs ι2 G2 H2 x2 sr2 r2 => q' (v :: vs) ι2 G2 H2 (x1.trans x2) sr2 (.cons (r1.mono x2) r2)
abbrev OpN := List W → S → R W
def runN (rr : Runs) (op : OpN) : Run := fun Γ st => (rr Γ st).bind op
theorem tD_args {rr : Runs} {op : OpN} {σ : St} {H : Hp} {Q : VK} {Q' : List V → Hp → Prop} (h : tD X (runN rr op) σ H Q)
  (k : ∀ ws st' vs ι' G' H', SR X.K ι' st' G' H' → RelWs X.K ι' st'.nxt G' vs ws → wpW X ι' st'.nxt G' (op ws st') Q → Q' vs H') : tDA X rr σ H Q' := by
 obtain ⟨ι, G, st, Γ, en, sr, q⟩ := h
 refine ⟨ι, G, st, Γ, en, sr, ?_⟩
 unfold runN at q
 cases e1 : rr Γ st with
 | stuck => rw [e1] at q; exact q
 | ex c s => rw [e1] at q; exact q
 | ok ws st1 =>
  rw [e1] at q
  intro vs ι1 G1 H1 x1 sr1 r1
  exact k ws st1 vs ι1 G1 H1 sr1 r1 (wpW.later x1 (show wpW X ι st.nxt G (op ws st1) Q from q))
def CallW (X : Cx) (f : Value) (op : OpN) : Prop :=
 ∀ (pins : List (Addr × Obj)) (s : Shared) (σ : St) (H : Hp) (ι : Nat → Addr) (G : Hp) (st : S) (xs : List V) (ws : List W) (us : List Value) (Q : VK), Inv X pins σ H s → SR X.K ι st G H → Vals xs us → RelWs X.K ι st.nxt G xs ws →
  wpW X ι st.nxt G (op ws st) Q → wpAny (model X.prog X.w) X.A (call f us) (EP X pins σ Q) X.xe s
def rCall (X : Cx) (op : OpN) : List V → Hp → VK → Prop := fun xs H Q => ∃ ι G st ws, SR X.K ι st G H ∧ RelWs X.K ι st.nxt G xs ws ∧ wpW X ι st.nxt G (op ws st) Q
theorem CallW.r {f : Value} {op : OpN} (h : CallW X f op) : CallR X f (rCall X op) := fun pins s σ H xs us Q I r ⟨ι, G, st, ws, sr, r1, q⟩ => h pins s σ H ι G st xs ws us Q I sr r r1 q
theorem tD_callB {rr : Runs} {op : OpN} {σ : St} {H : Hp} {Q : VK} (h : tD X (runN rr op) σ H Q) : tCB (rCall X op) (tDA X rr) σ H Q :=
 tD_args h fun ws st' vs ι' G' H' sr r q => ⟨ι', G', st', ws, sr, r, q⟩
def opTup : OpN := fun ws st => if ws.length ≤ sizeLine then .ok (.tup ws) st else .stuck
def opLst : OpN := fun ws st => if ws.length ≤ sizeLine then .ok (.lst ws) st else .stuck
def opNewL : OpN := fun ws st => if ws.length ≤ sizeLine then .ok (.ref st.nxt) (st.new (.lst ws)) else .stuck
theorem tup_laid {ι : Nat → Addr} {G H : Hp} {st : S} {xs : List V} {ws : List W} {Q : VK} (sr : SR X.K ι st G H) (r : RelWs X.K ι st.nxt G xs ws) (q : wpW X ι st.nxt G (opTup ws st) Q) : xs.length ≤ sizeLine ∧ ∀ p, H p = none → Q (.ref p) (upd H p (.tup xs)) := by
 unfold opTup at q
 by_cases hl : ws.length ≤ sizeLine
 ·rw [if_pos hl] at q
  refine ⟨by rw [r.length]; exact hl, fun p hp => ?_⟩
  obtain ⟨s2, e2⟩ := sr.laid (o := .tup xs) hp
  exact q _ ι _ _ e2 s2 (.tup (.inl (.inl upd_same)) (r.mono e2))
 ·rw [if_neg hl] at q; exact q.elim
theorem lst_laid {ι : Nat → Addr} {G H : Hp} {st : S} {xs : List V} {ws : List W} {Q : VK} (sr : SR X.K ι st G H) (r : RelWs X.K ι st.nxt G xs ws) (q : wpW X ι st.nxt G (opLst ws st) Q) : xs.length ≤ sizeLine ∧ ∀ p, H p = none → Q (.ref p) (upd H p (.lst xs)) := by
 unfold opLst at q
 by_cases hl : ws.length ≤ sizeLine
 ·rw [if_pos hl] at q
  refine ⟨by rw [r.length]; exact hl, fun p hp => ?_⟩
  obtain ⟨s2, e2⟩ := sr.laid (o := .lst xs) hp
  exact q _ ι _ _ e2 s2 (.lst (.inl (.inl upd_same)) (r.mono e2))
 ·rw [if_neg hl] at q; exact q.elim
theorem newL_laid {ι : Nat → Addr} {G H : Hp} {st : S} {xs : List V} {ws : List W} {Q : VK} (sr : SR X.K ι st G H) (r : RelWs X.K ι st.nxt G xs ws) (q : wpW X ι st.nxt G (opNewL ws st) Q) : xs.length ≤ sizeLine ∧ ∀ p, H p = none → Q (.ref p) (upd H p (.lst xs)) := by
 unfold opNewL at q
 by_cases hl : ws.length ≤ sizeLine
 ·rw [if_pos hl] at q
  refine ⟨by rw [r.length]; exact hl, fun p hp => ?_⟩
  obtain ⟨ι', e2, s2, ep⟩ := sr.newL hp r
  have q' := q (.ref p) ι' G (upd H p (.lst xs)) e2 s2
  rw [← ep] at q' ⊢
  exact q' (.ref (Nat.lt_succ_self _))
 ·rw [if_neg hl] at q; exact q.elim
theorem pd_tup {es : List Expr} {k : Nat} {pos : Pos} {rr : Runs} (h : PDA X es rr) : PD X (.Tuple es k pos) (runN rr opTup) :=
 PE.imp (pe_tup h) fun _ _ _ h => tD_args h fun _ _ _ _ _ _ sr r q => tup_laid sr r q
theorem pd_lst {es : List Expr} {pos : Pos} {rr : Runs} (h : PDA X es rr) : PD X (.List es pos) (runN rr opLst) :=
 PE.imp (pe_lst h) fun _ _ _ h => tD_args h fun _ _ _ _ _ _ sr r q => lst_laid sr r q
theorem pd_newL {es : List Expr} {pos : Pos} {rr : Runs} (h : PDA X es rr) : PD X (.List es pos) (runN rr opNewL) :=
 PE.imp (pe_lst h) fun _ _ _ h => tD_args h fun _ _ _ _ _ _ sr r q => newL_laid sr r q
end
end DL
namespace DL
open PySem PySem.Spec PyProof.Rows L2
section
variable {X : Cx}
def MO.items : Option MO → Option (List W)
 | some (.lst xs) => some xs
 | _ => none
def catO (a b : Option (List W)) (st : S) : R W := match a, b with
 | some xs, some ys => if xs.length + ys.length ≤ sizeLine then .ok (.lst (xs ++ ys)) st else .stuck
 | _, _ => .stuck
def opAdd : Op2 := fun a b st => match a, b with
 | .int i, .int j => .ok (.int (i + j)) st
 | .str x, .str y => if x.length + y.length ≤ sizeLine then .ok (.str (x ++ y)) st else .stuck
 | .lst xs, .lst ys => catO (some xs) (some ys) st
 | .lst xs, .ref m => catO (some xs) (MO.items (st.mu m)) st
 | .ref n, .lst ys => catO (MO.items (st.mu n)) (some ys) st
 | .ref n, .ref m => catO (MO.items (st.mu n)) (MO.items (st.mu m)) st
 | .tup xs, .tup ys => if xs ≠ [] ∧ xs.length + ys.length ≤ sizeLine then .ok (.tup (xs ++ ys)) st else .stuck
 | _, _ => .stuck
def opSub : Op2 := fun a b st => match a, b with
 | .int i, .int j => .ok (.int (i - j)) st
 | _, _ => .stuck
instance (i j : Int) : Decidable (CMul i j) := by unfold CMul; infer_instance
instance (i j : Int) : Decidable (CDiv i j) := by unfold CDiv; infer_instance
def opMulI : Op2 := fun a b st => match a, b with
 | .int i, .int j => if CMul i j then .ok (.int (i * j)) st else .stuck
 | _, _ => .stuck
def repO (a : Option (List W)) (k : Int) (st : S) : R W := match a with
 | some xs => if (-(2 ^ 63) ≤ k ∧ k < 2 ^ 63) ∧ xs.length * k.toNat ≤ sizeLine then .ok (.lst (List.replicate k.toNat xs).flatten) st else .stuck
 | none => .stuck
def opMul : Op2 := fun a b st => match a, b with
 | .lst xs, .int k => repO (some xs) k st
 | .ref n, .int k => repO (MO.items (st.mu n)) k st
 | a, b => opMulI a b st
def opDiv : Op2 := fun a b st => match a, b with
 | .int i, .int j => if CDiv i j then .ok (.int (i / j)) st else .stuck
 | _, _ => .stuck
def opMod : Op2 := fun a b st => match a, b with
 | .int i, .int j => if 0 < j then .ok (.int (i % j)) st else .stuck
 | _, _ => .stuck
theorem op_catL : OpR X (binaryOp .Add) (fun x y H Q => ∃ l b xs zs, x = .ref l ∧ y = .ref b ∧ SqL X.K H l xs ∧ SqL X.K H b zs ∧ xs.length + zs.length ≤ sizeLine ∧ ∀ p, H p = none → Q (.ref p) (upd H p (.lst (xs ++ zs)))) := by
 intro pins s σ H x y v u Q I rx ry h
 obtain ⟨l, b, xs, zs, rfl, rfl, hH, hB, hz, q⟩ := h
 cases rx
 cases ry
 obtain ⟨its, r, pl, z⟩ := I.list hH
 obtain ⟨its2, r2, pl2, z2⟩ := I.list hB
 have hl := r.length
 have hl2 := r2.length
 obtain ⟨⟨cls, dd, data, sl⟩, n, e, ec, ed, es⟩ := pl
 obtain ⟨⟨cls2, dd2, data2, sl2⟩, n2, e2, ec2, ed2, es2⟩ := pl2
 simp only at ec es ec2 es2
 subst ec es ec2 es2
 have ea : its.toArray ++ its2.toArray = (its ++ its2).toArray := by simp
 refine concat_meets ⟨_, e, rfl⟩ ⟨_, e2, rfl⟩ noFill_list_add seq_list_add PySem.F.slot_list_add PySem.F.entry_list_add (PySem.F.args_list_add_2 _ _) (list_addW l b its.toArray its2.toArray n n2 dd dd2 sl sl2 (by rw [List.size_toArray, List.size_toArray]; omega)) ⟨e, e2, ?_⟩
 rw [ea]
 exact ⟨.ref _, _, I.lnew (t' := s.toks) (r.append r2) (by rw [List.length_append]; omega), rfl, q _ I.fresh⟩
theorem items_live {K : PySem.W.Frag} {ι : Nat → Addr} {st : S} {G H : Hp} {n : Nat} {ws : List W} (sr : SR K ι st G H) (h : MO.items (st.mu n) = some ws) : ∃ xs, SqL K H (ι n) xs ∧ RelWs K ι st.nxt G xs ws := by
 cases e : st.mu n with
 | none => rw [e] at h; cases h
 | some o =>
  obtain ⟨_, _, h3⟩ := sr.live n o e
  cases o with
  | lst zs =>
   rw [e] at h
   cases h
   obtain ⟨vs, q, r⟩ := h3
   exact ⟨vs, SqL.of q, r⟩
  | dct ks vs => rw [e] at h; cases h
theorem opw_add : OpW X (binaryOp .Add) opAdd := by
 intro pins s σ H ι G st x y w1 w2 v u Q I sr rx ry r1 r2 q
 have cat : ∀ {a b : Addr} {xs ys : List V} {ws ws' : List W}, RelV (.ref a) v → RelV (.ref b) u → SqL X.K H a xs → SqL X.K H b ys → RelWs X.K ι st.nxt G xs ws → RelWs X.K ι st.nxt G ys ws' → wpW X ι st.nxt G (catO (some ws) (some ws') st) Q →
   wpAny (model X.prog X.w) X.A (binaryOp .Add v u) (EP X pins σ Q) X.xe s := by
  intro a b xs ys ws ws' rx ry s1 s2 t1 t2 q
  have q' : wpW X ι st.nxt G (if ws.length + ws'.length ≤ sizeLine then .ok (.lst (ws ++ ws')) st else .stuck) Q := q
  by_cases hl : ws.length + ws'.length ≤ sizeLine
  ·rw [if_pos hl] at q'
   refine op_catL pins s σ H _ _ v u Q I rx ry ⟨_, _, _, _, rfl, rfl, s1, s2, by rw [t1.length, t2.length]; exact hl, fun p hp => ?_⟩
   obtain ⟨sr2, e2⟩ := sr.laid (o := .lst _) hp
   exact q' _ ι _ _ e2 sr2 (.lst (.inl (.inl upd_same)) ((t1.append t2).mono e2))
  ·rw [if_neg hl] at q'; exact q'.elim
 cases w1 with
 | int i =>
  cases w2 with
  | int j => cases r1; cases r2; exact op_add pins s σ H _ _ v u Q I rx ry ⟨i, j, rfl, rfl, q _ ι G H (Ext.refl _ _ _) sr (.int _)⟩
  | _ => exact (show False from q).elim
 | str i =>
  cases w2 with
  | str j =>
   cases r1; cases r2
   have q' : wpW X ι st.nxt G (if i.length + j.length ≤ sizeLine then .ok (.str (i ++ j)) st else .stuck) Q := q
   by_cases hl : i.length + j.length ≤ sizeLine
   ·rw [if_pos hl] at q'
    exact op_add_str pins s σ H _ _ v u Q I rx ry ⟨i, j, rfl, rfl, hl, q' _ ι G H (Ext.refl _ _ _) sr (.str _)⟩
   ·rw [if_neg hl] at q'; exact q'.elim
  | _ => exact (show False from q).elim
 | lst xs =>
  cases w2 with
  | lst ys =>
   cases r1 with
   | lst s1 t1 =>
    cases r2 with
    | lst s2 t2 => exact cat rx ry (sr.sub.seq s1) (sr.sub.seq s2) t1 t2 q
  | ref m =>
   cases r1 with
   | lst s1 t1 =>
    have q' : wpW X ι st.nxt G (catO (some xs) (MO.items (st.mu m)) st) Q := q
    cases hm : MO.items (st.mu m) with
    | none => rw [hm] at q'; exact (show False from q').elim
    | some ys =>
     rw [hm] at q'
     cases r2 with
     | ref hn =>
      obtain ⟨vs, h1, h2⟩ := items_live sr hm
      exact cat rx ry (sr.sub.seq s1) h1 t1 h2 q'
  | _ => exact (show False from q).elim
 | ref n =>
  cases w2 with
  | lst ys =>
   cases r2 with
   | lst s2 t2 =>
    have q' : wpW X ι st.nxt G (catO (MO.items (st.mu n)) (some ys) st) Q := q
    cases hm : MO.items (st.mu n) with
    | none => rw [hm] at q'; exact (show False from q').elim
    | some xs =>
     rw [hm] at q'
     cases r1 with
     | ref hn =>
      obtain ⟨vs, h1, h2⟩ := items_live sr hm
      exact cat rx ry h1 (sr.sub.seq s2) h2 t2 q'
  | ref m =>
   have q' : wpW X ι st.nxt G (catO (MO.items (st.mu n)) (MO.items (st.mu m)) st) Q := q
   cases hm : MO.items (st.mu n) with
   | none => rw [hm] at q'; exact (show False from q').elim
   | some xs =>
    cases hk : MO.items (st.mu m) with
    | none => rw [hm, hk] at q'; exact (show False from q').elim
    | some ys =>
     rw [hm, hk] at q'
     cases r1 with
     | ref hn =>
      cases r2 with
      | ref hn' =>
       obtain ⟨vs, h1, h2⟩ := items_live sr hm
       obtain ⟨vs', h3, h4⟩ := items_live sr hk
       exact cat rx ry h1 h3 h2 h4 q'
  | _ => exact (show False from q).elim
 | tup xs =>
  cases w2 with
  | tup ys =>
   cases r1 with
   | tup s1 t1 =>
    cases r2 with
    | tup s2 t2 =>
     have q' : wpW X ι st.nxt G (if xs ≠ [] ∧ xs.length + ys.length ≤ sizeLine then .ok (.tup (xs ++ ys)) st else .stuck) Q := q
     by_cases hl : xs ≠ [] ∧ xs.length + ys.length ≤ sizeLine
     ·rw [if_pos hl] at q'
      refine op_catT pins s σ H _ _ v u Q I rx ry ⟨_, _, _, _, rfl, rfl, sqT_same sr.sub s1, sqT_same sr.sub s2, fun z => hl.1 ?_, by rw [t1.length, t2.length]; exact hl.2, fun z => ?_, fun z p hp => ?_⟩
      ·subst z; cases t1; rfl
      ·subst z
       cases t2
       refine q' _ ι G H (Ext.refl _ _ _) sr (.tup s1 ?_)
       rw [List.append_nil]; exact t1
      ·obtain ⟨sr2, e2⟩ := sr.laid (o := .tup _) hp
       exact q' _ ι _ _ e2 sr2 (.tup (.inl (.inl upd_same)) ((t1.append t2).mono e2))
     ·rw [if_neg hl] at q'; exact q'.elim
  | _ => exact (show False from q).elim
 | _ => exact (show False from q).elim
theorem opw_sub : OpW X (binaryOp .Sub) opSub := by
 intro pins s σ H ι G st x y w1 w2 v u Q I sr rx ry r1 r2 q
 cases w1 with
 | int i =>
  cases w2 with
  | int j => cases r1; cases r2; exact op_sub pins s σ H _ _ v u Q I rx ry ⟨i, j, rfl, rfl, q _ ι G H (Ext.refl _ _ _) sr (.int _)⟩
  | _ => exact (show False from q).elim
 | _ => exact (show False from q).elim
theorem opw_I {f : Value → Value → Sem Value} {C : Int → Int → Prop} [∀ i j, Decidable (C i j)] {g : Int → Int → Int} {op : Op2} (h : OpR X f (rI C fun i j => .int (g i j)))
  (hi : ∀ i j st, op (.int i) (.int j) st = if C i j then .ok (.int (g i j)) st else .stuck) (ho : ∀ a b st, (∀ i j, ¬ (a = .int i ∧ b = .int j)) → op a b st = .stuck) : OpW X f op := by
 intro pins s σ H ι G st x y w1 w2 v u Q I sr rx ry r1 r2 q
 by_cases hw : ∃ i j, w1 = .int i ∧ w2 = .int j
 ·obtain ⟨i, j, rfl, rfl⟩ := hw
  cases r1; cases r2
  rw [hi] at q
  by_cases hc : C i j
  ·rw [if_pos hc] at q
   exact h pins s σ H _ _ v u Q I rx ry ⟨i, j, rfl, rfl, hc, q _ ι G H (Ext.refl _ _ _) sr (.int _)⟩
  ·rw [if_neg hc] at q; exact (show False from q).elim
 ·rw [ho _ _ _ fun i j z => hw ⟨i, j, z.1, z.2⟩] at q
  exact (show False from q).elim
theorem list_mulW (l : Addr) (items : Array Value) (n : Nat) (x : Int) (u : Tok) (dd : Option Addr) (sl : Array (Option Value)) (hc0 : ¬(!Builtin.List.listFitsIndex x) = true) (hc1 : ¬items.size * x.toNat > (2 ^ 63 - 1) / 8) (hc2 : ¬Builtin.List.listTooLong (items.size * x.toNat) = true) :
  Meets (Builtin.«list.__mul__» ⟨[.ref l, .int x u], []⟩) (fun _ R s => s.heap.get? l = some { cls := .type "list", dict := dd, data := .seq items n, slots := sl } ∧ R (.ok (.ret (Value.ref s.heap.objs.size))) { s with heap := s.heap.push { cls := Value.type "list", data := Data.seq (List.foldl (fun x1 x2 => x1 ++ x2) #[] (List.replicate (if items.isEmpty = true then 0 else x.toNat) items)) }, toks := s.toks }) :=
 .of_wp fun prog w A R s h => by
  obtain ⟨hp, g, d, tk, os⟩ := s
  obtain ⟨hl, h⟩ := h
  have hsz := AutoListH.joined_fits hc2
  wp_walk
  refine wpAny_ite_false (decide_eq_false (Nat.not_lt.mpr hsz)) ?_
  wp_walk
  exact ⟨_, rfl, h⟩
theorem int_rmulW (a : Int) (t : Tok) (l : Addr) (items : Array Value) (n : Nat) (dd : Option Addr) (sl : Array (Option Value)) :
  Meets (Builtin.«int.__rmul__» ⟨[.int a t, .ref l], []⟩) (fun _ R s => s.heap.get? l = some { cls := .type "list", dict := dd, data := .seq items n, slots := sl } ∧ R (.ok (.ret Value.notImplemented)) s) :=
 .of_wp fun prog w A R s h => by
  obtain ⟨hp, g, d, tk, os⟩ := s
  obtain ⟨hl, h⟩ := h
  wp_walk
  exact ⟨_, rfl, h⟩
theorem op_repL : OpR X (binaryOp .Mult) (fun x y H Q => ∃ l k xs, x = .ref l ∧ y = .int k ∧ SqL X.K H l xs ∧ -(2 ^ 63) ≤ k ∧ k < 2 ^ 63 ∧ xs.length * k.toNat ≤ sizeLine ∧ ∀ p, H p = none → Q (.ref p) (upd H p (.lst (List.replicate k.toNat xs).flatten))) := by
 intro pins s σ H x y v u Q I rx ry h
 obtain ⟨l, k, xs, rfl, rfl, hH, h1, h2, hz, q⟩ := h
 cases rx
 obtain ⟨t, rfl⟩ := ry
 obtain ⟨its, r, pl, z⟩ := I.list hH
 have hl := r.length
 obtain ⟨⟨cls, dd, data, sl⟩, n, e, ec, ed, es⟩ := pl
 simp only at ec es
 subst ec es
 have hlen : its.toArray.size * k.toNat ≤ sizeLine := by rw [List.size_toArray, ← hl]; exact hz
 have hcap : ¬ its.toArray.size * k.toNat > (2 ^ 63 - 1) / 8 := by
  have : (sizeLine : Nat) ≤ (2 ^ 63 - 1) / 8 := by decide
  omega
 have hfit : ¬ (!Builtin.List.listFitsIndex k) = true := by rw [fitsIndex_both h1 h2]; exact Bool.false_ne_true
 have hlong : ¬ Builtin.List.listTooLong (its.toArray.size * k.toNat) = true := by rw [notLongL hlen]; exact Bool.false_ne_true
 have f0 : ∀ m : Nat, List.foldl (fun x1 x2 => x1 ++ x2) #[] (List.replicate m its.toArray) = (List.replicate m its).flatten.toArray := fun m => by have := foldl_rep its m []; rw [List.nil_append] at this; exact this
 have hnew : List.foldl (fun x1 x2 => x1 ++ x2) #[] (List.replicate (if its.toArray.isEmpty = true then 0 else k.toNat) its.toArray) = (List.replicate k.toNat its).flatten.toArray := by
  rw [f0]
  cases its with
  | nil => simp
  | cons a r' => rw [if_neg (by simp)]
 refine wpAny_binaryOp_repeat_ref (T := "list") (U := "int") (by decide) ⟨_, e, rfl⟩ (fun s' => typeIs_int s' k t) noFill_list_mul F.fills_int_mul F.slot_int_rmul repeat_list F.slot_int_index.lookup
  (call_meets F.slot_int_rmul (typeIs_int s k t) F.entry_int_rmul (F.args_int_rmul_2 _ _) (int_rmulW k t l its.toArray n dd sl) ⟨e, rfl, ⟨_, e, rfl⟩, call_meets F.slot_list_mul ⟨_, e, rfl⟩ F.entry_list_mul (F.args_list_mul_2 _ _) (list_mulW l its.toArray n k t dd sl hfit hcap hlong) ⟨e, ?_⟩⟩)
 rw [hnew]
 exact ⟨.ref _, _, I.lnew (t' := s.toks) (r.rep k.toNat) (by rw [len_rep, Nat.mul_comm]; exact hz), rfl, q _ I.fresh⟩
theorem RelWs.rep {K : PySem.W.Frag} {ι : Nat → Addr} {N : Nat} {G : Hp} {vs : List V} {ws : List W} (r : RelWs K ι N G vs ws) : ∀ k : Nat, RelWs K ι N G (List.replicate k vs).flatten (List.replicate k ws).flatten
 | 0 => .nil
 | k + 1 => by rw [List.replicate_succ, List.replicate_succ, List.flatten_cons, List.flatten_cons]; exact r.append (RelWs.rep r k)
theorem opw_mulI : OpW X (binaryOp .Mult) opMulI := opw_I op_mul (fun _ _ _ => rfl) fun a b st h => by
 cases a <;> cases b <;> first | rfl | exact absurd ⟨rfl, rfl⟩ (h _ _)
theorem opw_mul : OpW X (binaryOp .Mult) opMul := by
 intro pins s σ H ι G st x y w1 w2 v u Q I sr rx ry r1 r2 q
 have rep : ∀ {a : Addr} {k : Int} {xs : List V} {ws : List W}, RelV (.ref a) v → RelV (.int k) u → SqL X.K H a xs → RelWs X.K ι st.nxt G xs ws → wpW X ι st.nxt G (repO (some ws) k st) Q → wpAny (model X.prog X.w) X.A (binaryOp .Mult v u) (EP X pins σ Q) X.xe s := by
  intro a k xs ws rx ry s1 t1 q
  have q' : wpW X ι st.nxt G (if (-(2 ^ 63) ≤ k ∧ k < 2 ^ 63) ∧ ws.length * k.toNat ≤ sizeLine then .ok (.lst (List.replicate k.toNat ws).flatten) st else .stuck) Q := q
  by_cases hl : (-(2 ^ 63) ≤ k ∧ k < 2 ^ 63) ∧ ws.length * k.toNat ≤ sizeLine
  ·rw [if_pos hl] at q'
   refine op_repL pins s σ H _ _ v u Q I rx ry ⟨_, _, _, rfl, rfl, s1, hl.1.1, hl.1.2, by rw [t1.length]; exact hl.2, fun p hp => ?_⟩
   obtain ⟨sr2, e2⟩ := sr.laid (o := .lst _) hp
   exact q' _ ι _ _ e2 sr2 (.lst (.inl (.inl upd_same)) ((t1.rep _).mono e2))
  ·rw [if_neg hl] at q'; exact q'.elim
 unfold opMul at q
 split at q
 ·cases r1 with
  | lst s1 t1 => cases r2; exact rep rx ry (sr.sub.seq s1) t1 q
 ·rename_i n k
  cases r1 with
  | ref hn =>
   cases r2
   cases hm : MO.items (st.mu n) with
   | none => rw [hm] at q; exact (show False from q).elim
   | some xs =>
    rw [hm] at q
    obtain ⟨vs, h1, h2⟩ := items_live sr hm
    exact rep rx ry h1 h2 q
 ·exact opw_mulI pins s σ H ι G st x y w1 w2 v u Q I sr rx ry r1 r2 q
theorem opw_div : OpW X (binaryOp .FloorDiv) opDiv := opw_I op_fdiv (fun _ _ _ => rfl) fun a b st h => by
 cases a <;> cases b <;> first | rfl | exact absurd ⟨rfl, rfl⟩ (h _ _)
theorem opw_mod : OpW X (binaryOp .Mod) opMod := opw_I op_mod (fun _ _ _ => rfl) fun a b st h => by
 cases a <;> cases b <;> first | rfl | exact absurd ⟨rfl, rfl⟩ (h _ _)
def opNeg : W → S → R W := fun a st => match a with
 | .int i => .ok (.int (-i)) st
 | _ => .stuck
def run1 (ra : Run) (op : W → S → R W) : Run := fun Γ st => (ra Γ st).bind op
theorem pd_neg {a : Expr} {pos : Pos} {ra : Run} (ha : PD X a ra) : PD X (.UnaryOp .USub a pos) (run1 ra opNeg) := by
 refine PE.imp (pe_un un_neg ha) fun σ H Q h => ?_
 obtain ⟨ι, G, st, Γ, en, sr, q⟩ := h
 refine ⟨ι, G, st, Γ, en, sr, wpW.bind q fun w st1 v ι1 G1 H1 _ e1 sr1 r1 q1 => ?_⟩
 cases w with
 | int i => cases r1; exact ⟨i, rfl, q1 _ ι1 G1 H1 (Ext.refl _ _ _) sr1 (.int _)⟩
 | _ => exact (show False from q1).elim
def opLt : Op2 := fun a b st => match a, b with
 | .int i, .int j => .ok (.bl (decide (i < j))) st
 | .str x, .str y => .ok (.bl (decide (x.cps.toList < y.cps.toList))) st
 | _, _ => .stuck
def opLe : Op2 := fun a b st => match a, b with
 | .int i, .int j => .ok (.bl (decide (i ≤ j))) st
 | _, _ => .stuck
def opGt : Op2 := fun a b st => match a, b with
 | .int i, .int j => .ok (.bl (decide (j < i))) st
 | _, _ => .stuck
def opGe : Op2 := fun a b st => match a, b with
 | .int i, .int j => .ok (.bl (decide (j ≤ i))) st
 | _, _ => .stuck
theorem opw_B {f : Value → Value → Sem Value} {g : Int → Int → Bool} {op : Op2} (h : OpR X f (rI0 fun i j => .bl (g i j)))
  (hi : ∀ i j st, op (.int i) (.int j) st = .ok (.bl (g i j)) st) (ho : ∀ a b st, (∀ i j, ¬ (a = .int i ∧ b = .int j)) → op a b st = .stuck) : OpW X f op := by
 intro pins s σ H ι G st x y w1 w2 v u Q I sr rx ry r1 r2 q
 by_cases hw : ∃ i j, w1 = .int i ∧ w2 = .int j
 ·obtain ⟨i, j, rfl, rfl⟩ := hw
  cases r1; cases r2
  rw [hi] at q
  exact h pins s σ H _ _ v u Q I rx ry ⟨i, j, rfl, rfl, q _ ι G H (Ext.refl _ _ _) sr (.bl _)⟩
 ·rw [ho _ _ _ fun i j z => hw ⟨i, j, z.1, z.2⟩] at q
  exact (show False from q).elim
theorem opw_le : OpW X (compareOp .LtE) opLe := opw_B op_le (fun _ _ _ => rfl) fun a b st h => by
 cases a <;> cases b <;> first | rfl | exact absurd ⟨rfl, rfl⟩ (h _ _)
theorem opw_gt : OpW X (compareOp .Gt) opGt := opw_B op_gt (fun _ _ _ => rfl) fun a b st h => by
 cases a <;> cases b <;> first | rfl | exact absurd ⟨rfl, rfl⟩ (h _ _)
theorem opw_lt : OpW X (compareOp .Lt) opLt := by
 intro pins s σ H ι G st x y w1 w2 v u Q I sr rx ry r1 r2 q
 cases w1 with
 | int i =>
  cases w2 with
  | int j => cases r1; cases r2; exact op_lt pins s σ H _ _ v u Q I rx ry ⟨i, j, rfl, rfl, q _ ι G H (Ext.refl _ _ _) sr (.bl _)⟩
  | _ => exact (show False from q).elim
 | str i =>
  cases w2 with
  | str j => cases r1; cases r2; exact op_lt_str pins s σ H _ _ v u Q I rx ry ⟨i, j, rfl, rfl, q _ ι G H (Ext.refl _ _ _) sr (.bl _)⟩
  | _ => exact (show False from q).elim
 | _ => exact (show False from q).elim
def flatW : W → Option V
 | .non => some .non
 | .bl b => some (.bl b)
 | .int i => some (.int i)
 | .str x => some (.str x)
 | _ => none
def isSeq : W → Bool
 | .tup _ => true
 | .lst _ => true
 | _ => false
def eqItems (f : W → W → Option Bool) : List W → List W → Option Bool
 | x :: xs, y :: ys => match f x y, eqItems f xs ys with
  | some a, some b => some (a && b)
  | _, _ => none
 | _, _ => some true
def eqD : Nat → W → W → Option Bool
 | 0, _, _ => none
 | n + 1, a, b => match flatW a, flatW b with
  | some x, some y => some (eqV x y)
  | some _, none => if isSeq b then some false else none
  | none, some _ => if isSeq a then some false else none
  | none, none => match a, b with
   | .tup xs, .tup ys => (eqItems (eqD n) xs ys).map fun r => r && xs.length == ys.length
   | .lst xs, .lst ys => if xs.length = ys.length then eqItems (eqD n) xs ys else some false
   | .tup _, .lst _ => some false
   | .lst _, .tup _ => some false
   | _, _ => none
theorem eqItems_e {f : W → W → Option Bool} : ∀ {xs ys : List W} {r : Bool}, eqItems f xs ys = some r →
  ∃ e : Nat → Bool, (∀ (j : Nat) x y, xs[j]? = some x → ys[j]? = some y → f x y = some (e j)) ∧ (List.range (min xs.length ys.length)).all e = r
 | [], ys, r, h => by
  refine ⟨fun _ => true, fun j x y hx _ => by simp at hx, ?_⟩
  cases h
  simp
 | x :: xs, [], r, h => by
  refine ⟨fun _ => true, fun j x y _ hy => by simp at hy, ?_⟩
  cases h
  simp
 | x :: xs, y :: ys, r, h => by
  unfold eqItems at h
  cases e1 : f x y with
  | none => rw [e1] at h; cases h
  | some a =>
   cases e2 : eqItems f xs ys with
   | none => rw [e1, e2] at h; cases h
   | some b =>
    rw [e1, e2] at h
    obtain ⟨e, h1, h2⟩ := eqItems_e e2
    refine ⟨fun j => match j with | 0 => a | j + 1 => e j, fun j x' y' hx hy => ?_, ?_⟩
    ·cases j with
     | zero => simp at hx hy; subst hx hy; exact e1
     | succ j => exact h1 j x' y' (by simpa using hx) (by simpa using hy)
    ·have em : min (x :: xs).length (y :: ys).length = min xs.length ys.length + 1 := by simp only [List.length_cons]; omega
     rw [em, List.range_succ_eq_map, List.all_cons, List.all_map]
     cases h
     show (a && (List.range (min xs.length ys.length)).all e) = (a && b)
     rw [h2]
theorem flatW_rel {K : PySem.W.Frag} {ι : Nat → Addr} {N : Nat} {G : Hp} {v x : V} {w : W} (r : RelW K ι N G v w) (h : flatW w = some x) : v = x ∧ flatV x = true := by
 cases r <;> first | (cases h; exact ⟨rfl, rfl⟩) | cases h
theorem eqD_same {K : PySem.W.Frag} {ι : Nat → Addr} {N : Nat} {G : Hp} (inT : ∀ a xs ys, SqT K G a xs → SqT K G a ys → xs = ys) (inL : ∀ a xs ys, SqL K G a xs → SqL K G a ys → xs = ys) (ntl : ∀ a xs ys, SqT K G a xs → SqL K G a ys → False) :
  ∀ (n : Nat) {v : V} {w1 w2 : W} {b : Bool}, RelW K ι N G v w1 → RelW K ι N G v w2 → eqD n w1 w2 = some b → b = true
 | 0, _, _, _, _, _, _, h => by cases h
 | n + 1, v, w1, w2, b, r1, r2, h => by
  have items : ∀ {xs : List V} {ws1 ws2 : List W} {r : Bool}, RelWs K ι N G xs ws1 → RelWs K ι N G xs ws2 → eqItems (eqD n) ws1 ws2 = some r → r = true := by
   intro xs
   induction xs with
   | nil => intro ws1 ws2 r t1 t2 e; cases t1; cases t2; cases e; rfl
   | cons x xs ih =>
    intro ws1 ws2 r t1 t2 e
    cases t1 with
    | @cons _ w _ wt1 a1 t1 =>
     cases t2 with
     | @cons _ w' _ wt2 a2 t2 =>
      unfold eqItems at e
      cases e1 : eqD n w w' with
      | none => rw [e1] at e; cases e
      | some p =>
       cases e2 : eqItems (eqD n) wt1 wt2 with
       | none => rw [e1, e2] at e; cases e
       | some q =>
        rw [e1, e2] at e
        cases e
        rw [eqD_same inT inL ntl n a1 a2 e1, ih t1 t2 e2]; rfl
  unfold eqD at h
  cases f1 : flatW w1 with
  | some x =>
   obtain ⟨ex, fx⟩ := flatW_rel r1 f1
   cases f2 : flatW w2 with
   | some y =>
    obtain ⟨ey, fy⟩ := flatW_rel r2 f2
    rw [f1, f2] at h
    have h' : some (eqV x y) = some b := h
    cases h'
    rw [← ex, ← ey]
    exact eqV_refl (by rw [ex]; exact fx)
   | none =>
    rw [f1, f2] at h
    cases r2 <;> first | (cases f2; done) | (subst ex; cases fx; done)
  | none =>
   cases f2 : flatW w2 with
   | some y =>
    obtain ⟨ey, fy⟩ := flatW_rel r2 f2
    cases r1 <;> first | (cases f1; done) | (subst ey; cases fy; done)
   | none =>
    rw [f1, f2] at h
    cases r1 with
    | tup s1 t1 =>
     rename_i a xs ws1
     cases w2 with
     | tup ws2 =>
      cases r2 with
      | tup s2 t2 =>
       cases inT _ _ _ s1 s2
       have h' : (eqItems (eqD n) ws1 ws2).map (fun r => r && ws1.length == ws2.length) = some b := h
       cases e : eqItems (eqD n) ws1 ws2 with
       | none => rw [e] at h'; cases h'
       | some r =>
        rw [e] at h'
        cases h'
        rw [items t1 t2 e, ← t1.length, ← t2.length]
        simp
     | lst ws2 =>
      cases r2 with
      | lst s2 t2 => exact (ntl _ _ _ s1 s2).elim
     | _ => cases h
    | lst s1 t1 =>
     rename_i a xs ws1
     cases w2 with
     | lst ws2 =>
      cases r2 with
      | lst s2 t2 =>
       cases inL _ _ _ s1 s2
       have h' : (if ws1.length = ws2.length then eqItems (eqD n) ws1 ws2 else some false) = some b := h
       rw [if_pos (by rw [← t1.length, ← t2.length])] at h'
       exact items t1 t2 h'
     | tup ws2 =>
      cases r2 with
      | tup s2 t2 => exact (ntl _ _ _ s2 s1).elim
     | _ => cases h
    | _ => first | (cases f1; done) | (cases w2 <;> cases h)
end
end DL
namespace DL
open PySem PySem.Spec PyProof.Rows L2
section
variable {X : Cx}
def EqB (A : Around) (s : Shared) (u v : Value) (b : Bool) : Prop := SeqAt.EqAt A s u v b ∧ SeqAt.RcAt A s u v b ∧ SeqAt.RcNeAt A s u v (!b)
theorem eqB_V {A : Around} {s : Shared} {y x : V} {u v : Value} (ry : RelV y u) (rx : RelV x v) (fy : flatV y = true) (fx : flatV x = true) : EqB A s u v (eqV y x) := by
 refine ⟨eqAt_V ry rx fy fx, ?_⟩
 cases y with
 | non =>
  cases ry
  cases x with
  | non => cases rx; exact ⟨SeqAt.RcAt.none_none, SeqAt.RcNeAt.none_none⟩
  | bl b => cases rx; exact ⟨SeqAt.RcAt.none_bool b, SeqAt.RcNeAt.none_bool b⟩
  | int b => obtain ⟨t, rfl⟩ := rx; exact ⟨SeqAt.RcAt.none_int b t, SeqAt.RcNeAt.none_int b t⟩
  | str b => obtain ⟨t, rfl⟩ := rx; exact ⟨SeqAt.RcAt.none_str b t, SeqAt.RcNeAt.none_str b t⟩
  | _ => exact absurd (show false = true from fx) Bool.false_ne_true
 | bl a =>
  cases ry
  cases x with
  | non => cases rx; exact ⟨SeqAt.RcAt.bool_none a, SeqAt.RcNeAt.bool_none a⟩
  | bl b => cases rx; exact ⟨SeqAt.RcAt.bool_bool a b, SeqAt.RcNeAt.bool_bool a b⟩
  | int b => obtain ⟨t, rfl⟩ := rx; exact ⟨SeqAt.RcAt.bool_int a b t, SeqAt.RcNeAt.bool_int a b t⟩
  | str b => obtain ⟨t, rfl⟩ := rx; exact ⟨SeqAt.RcAt.bool_str a b t, SeqAt.RcNeAt.bool_str a b t⟩
  | _ => exact absurd (show false = true from fx) Bool.false_ne_true
 | int a =>
  obtain ⟨t', rfl⟩ := ry
  cases x with
  | non => cases rx; exact ⟨SeqAt.RcAt.int_none a t', SeqAt.RcNeAt.int_none a t'⟩
  | bl b => cases rx; exact ⟨SeqAt.RcAt.int_bool a t' b, SeqAt.RcNeAt.int_bool a t' b⟩
  | int b => obtain ⟨t, rfl⟩ := rx; exact ⟨SeqAt.RcAt.int_int a t' b t, SeqAt.RcNeAt.int_int a t' b t⟩
  | str b => obtain ⟨t, rfl⟩ := rx; exact ⟨SeqAt.RcAt.int_str a t' b t, SeqAt.RcNeAt.int_str a t' b t⟩
  | _ => exact absurd (show false = true from fx) Bool.false_ne_true
 | str a =>
  obtain ⟨t', rfl⟩ := ry
  cases x with
  | non => cases rx; exact ⟨SeqAt.RcAt.str_none a t', SeqAt.RcNeAt.str_none a t'⟩
  | bl b => cases rx; exact ⟨SeqAt.RcAt.str_bool a t' b, SeqAt.RcNeAt.str_bool a t' b⟩
  | int b => obtain ⟨t, rfl⟩ := rx; exact ⟨SeqAt.RcAt.str_int a t' b t, SeqAt.RcNeAt.str_int a t' b t⟩
  | str b => obtain ⟨t, rfl⟩ := rx; exact ⟨SeqAt.RcAt.str_str a t' b t, SeqAt.RcNeAt.str_str a t' b t⟩
  | _ => exact absurd (show false = true from fx) Bool.false_ne_true
 | _ => exact absurd (show false = true from fy) Bool.false_ne_true
section
variable {A : Around} {s : Shared} {y : V} {u : Value} {l : Addr} {items : Array Value}
theorem eqB_flat_list (ry : RelV y u) (fy : flatV y = true) (hl : s.heap.IsList l items) (hu : A.units < cLine) : EqB A s u (.ref l) false := by
 cases y with
 | non => cases ry; exact ⟨SeqAt.EqAt.none_list hl hu, SeqAt.RcAt.none_list hl hu, SeqAt.RcNeAt.none_list hl hu⟩
 | bl b => cases ry; exact ⟨SeqAt.EqAt.bool_list b hl hu, SeqAt.RcAt.bool_list b hl hu, SeqAt.RcNeAt.bool_list b hl hu⟩
 | int b => obtain ⟨t, rfl⟩ := ry; exact ⟨SeqAt.EqAt.int_list b t hl hu, SeqAt.RcAt.int_list b t hl hu, SeqAt.RcNeAt.int_list b t hl hu⟩
 | str b => obtain ⟨t, rfl⟩ := ry; exact ⟨SeqAt.EqAt.str_list b t hl hu, SeqAt.RcAt.str_list b t hl hu, SeqAt.RcNeAt.str_list b t hl hu⟩
 | _ => exact absurd (show false = true from fy) Bool.false_ne_true
theorem eqB_list_flat (ry : RelV y u) (fy : flatV y = true) (hl : s.heap.IsList l items) (hu : A.units < cLine) : EqB A s (.ref l) u false := by
 cases y with
 | non => cases ry; exact ⟨SeqAt.EqAt.list_none hl hu, SeqAt.RcAt.list_none hl hu, SeqAt.RcNeAt.list_none hl hu⟩
 | bl b => cases ry; exact ⟨SeqAt.EqAt.list_bool b hl hu, SeqAt.RcAt.list_bool b hl hu, SeqAt.RcNeAt.list_bool b hl hu⟩
 | int b => obtain ⟨t, rfl⟩ := ry; exact ⟨SeqAt.EqAt.list_int b t hl hu, SeqAt.RcAt.list_int b t hl hu, SeqAt.RcNeAt.list_int b t hl hu⟩
 | str b => obtain ⟨t, rfl⟩ := ry; exact ⟨SeqAt.EqAt.list_str b t hl hu, SeqAt.RcAt.list_str b t hl hu, SeqAt.RcNeAt.list_str b t hl hu⟩
 | _ => exact absurd (show false = true from fy) Bool.false_ne_true
theorem eqB_flat_tuple (ry : RelV y u) (fy : flatV y = true) (hl : s.heap.IsTuple l items) (hu : A.units < cLine) : EqB A s u (.ref l) false := by
 cases y with
 | non => cases ry; exact ⟨SeqAt.EqAt.none_tuple hl hu, SeqAt.RcAt.none_tuple hl hu, SeqAt.RcNeAt.none_tuple hl hu⟩
 | bl b => cases ry; exact ⟨SeqAt.EqAt.bool_tuple b hl hu, SeqAt.RcAt.bool_tuple b hl hu, SeqAt.RcNeAt.bool_tuple b hl hu⟩
 | int b => obtain ⟨t, rfl⟩ := ry; exact ⟨SeqAt.EqAt.int_tuple b t hl hu, SeqAt.RcAt.int_tuple b t hl hu, SeqAt.RcNeAt.int_tuple b t hl hu⟩
 | str b => obtain ⟨t, rfl⟩ := ry; exact ⟨SeqAt.EqAt.str_tuple b t hl hu, SeqAt.RcAt.str_tuple b t hl hu, SeqAt.RcNeAt.str_tuple b t hl hu⟩
 | _ => exact absurd (show false = true from fy) Bool.false_ne_true
theorem eqB_tuple_flat (ry : RelV y u) (fy : flatV y = true) (hl : s.heap.IsTuple l items) (hu : A.units < cLine) : EqB A s (.ref l) u false := by
 cases y with
 | non => cases ry; exact ⟨SeqAt.EqAt.tuple_none hl hu, SeqAt.RcAt.tuple_none hl hu, SeqAt.RcNeAt.tuple_none hl hu⟩
 | bl b => cases ry; exact ⟨SeqAt.EqAt.tuple_bool b hl hu, SeqAt.RcAt.tuple_bool b hl hu, SeqAt.RcNeAt.tuple_bool b hl hu⟩
 | int b => obtain ⟨t, rfl⟩ := ry; exact ⟨SeqAt.EqAt.tuple_int b t hl hu, SeqAt.RcAt.tuple_int b t hl hu, SeqAt.RcNeAt.tuple_int b t hl hu⟩
 | str b => obtain ⟨t, rfl⟩ := ry; exact ⟨SeqAt.EqAt.tuple_str b t hl hu, SeqAt.RcAt.tuple_str b t hl hu, SeqAt.RcNeAt.tuple_str b t hl hu⟩
 | _ => exact absurd (show false = true from fy) Bool.false_ne_true
end
section
variable {pins : List (Addr × Obj)} {σ : St} {H : Hp} {s : Shared} {ι : Nat → Addr} {N : Nat}
theorem list_inj (I : Inv X pins σ H s) {a : Addr} {xs ys : List V} (h1 : SqL X.K H a xs) (h2 : SqL X.K H a ys) : xs = ys := by
 obtain ⟨its, r, pl, _⟩ := I.list h1
 obtain ⟨its2, r2, pl2, _⟩ := I.list h2
 obtain ⟨o, n, e, _, _, d⟩ := pl
 obtain ⟨o2, n2, e2, _, _, d2⟩ := pl2
 rw [e] at e2; cases e2
 rw [d] at d2; cases d2
 exact r.inj r2
theorem not_both (I : Inv X pins σ H s) {a : Addr} {xs ys : List V} (h1 : SqT X.K H a xs) (h2 : SqL X.K H a ys) : False := by
 obtain ⟨its, r, pl, _⟩ := I.tuple h1
 obtain ⟨its2, r2, pl2, _⟩ := I.list h2
 obtain ⟨o, e, c, _⟩ := pl
 obtain ⟨o2, n2, e2, c2, _, _⟩ := pl2
 rw [e] at e2; cases e2
 rw [c] at c2
 injection c2 with h
 exact absurd h (by decide)
theorem eqD_at (I : Inv X pins σ H s) : ∀ (n : Nat) {w1 w2 : W} {b : Bool} {v1 v2 : V} {u1 u2 : Value} {A : Around}, eqD n w1 w2 = some b → RelW X.K ι N H v1 w1 → RelW X.K ι N H v2 w2 → RelV v1 u1 → RelV v2 u2 → A.units + n < cLine → EqB A s u1 u2 b
 | 0, _, _, _, _, _, _, _, _, h, _, _, _, _, _ => by cases h
 | n + 1, w1, w2, b, v1, v2, u1, u2, A, h, r1, r2, q1, q2, hA => by
  have hA1 : A.units < cLine := by omega
  have its_at : ∀ {xs ys : List V} {ws1 ws2 : List W} {its its2 : List Value} {e : Nat → Bool}, RelWs X.K ι N H xs ws1 → RelWs X.K ι N H ys ws2 → Vals xs its → Vals ys its2 → (∀ (j : Nat) x y, ws1[j]? = some x → ws2[j]? = some y → eqD n x y = some (e j)) →
    ∀ j (h1 : j < its.toArray.size) (h2 : j < its2.toArray.size), SeqAt.EqAt A.in1 s its.toArray[j] its2.toArray[j] (e j) := by
   intro xs ys ws1 ws2 its its2 e t1 t2 p1 p2 he j h1 h2
   have h1' : j < its.length := by simpa using h1
   have h2' : j < its2.length := by simpa using h2
   obtain ⟨x', ex, rx⟩ := p1.at h1'
   obtain ⟨y', ey, ry⟩ := p2.at h2'
   obtain ⟨w, ew, rw1⟩ := t1.get' ex
   obtain ⟨w', ew', rw2⟩ := t2.get' ey
   have z1 : its.toArray[j] = its[j] := by simp
   have z2 : its2.toArray[j] = its2[j] := by simp
   rw [z1, z2]
   exact (eqD_at I n (A := A.in1) (he j w w' ew ew') rw1 rw2 rx ry (by show A.units + 1 + n < cLine; omega)).1
  have keep := h
  unfold eqD at h
  cases f1 : flatW w1 with
  | some x =>
   obtain ⟨ex, fx⟩ := flatW_rel r1 f1
   subst ex
   cases f2 : flatW w2 with
   | some y =>
    obtain ⟨ey, fy⟩ := flatW_rel r2 f2
    subst ey
    rw [f1, f2] at h
    have h' : some (eqV v1 v2) = some b := h
    cases h'
    exact eqB_V q1 q2 fx fy
   | none =>
    rw [f1, f2] at h
    have h' : (if isSeq w2 then some false else none) = some b := h
    cases r2 with
    | tup s2 t2 =>
     cases h'
     cases q2
     obtain ⟨its, _, pl, _⟩ := I.tuple s2
     exact eqB_flat_tuple q1 fx pl hA1
    | lst s2 t2 =>
     cases h'
     cases q2
     obtain ⟨its, _, pl, _⟩ := I.list s2
     exact eqB_flat_list q1 fx pl.isList hA1
    | _ => first | (cases f2; done) | (cases h'; done)
  | none =>
   cases f2 : flatW w2 with
   | some y =>
    obtain ⟨ey, fy⟩ := flatW_rel r2 f2
    subst ey
    rw [f1, f2] at h
    have h' : (if isSeq w1 then some false else none) = some b := h
    cases r1 with
    | tup s1 t1 =>
     cases h'
     cases q1
     obtain ⟨its, _, pl, _⟩ := I.tuple s1
     exact eqB_tuple_flat q2 fy pl hA1
    | lst s1 t1 =>
     cases h'
     cases q1
     obtain ⟨its, _, pl, _⟩ := I.list s1
     exact eqB_list_flat q2 fy pl.isList hA1
    | _ => first | (cases f1; done) | (cases h'; done)
   | none =>
    rw [f1, f2] at h
    cases r1 with
    | tup s1 t1 =>
     rename_i a xs ws1
     cases q1
     obtain ⟨its, p1, pl1, _⟩ := I.tuple s1
     cases w2 with
     | tup ws2 =>
      cases r2 with
      | tup s2 t2 =>
       rename_i a2 ys
       cases q2
       obtain ⟨its2, p2, pl2, _⟩ := I.tuple s2
       have h' : (eqItems (eqD n) ws1 ws2).map (fun r => r && ws1.length == ws2.length) = some b := h
       cases e : eqItems (eqD n) ws1 ws2 with
       | none => rw [e] at h'; cases h'
       | some r =>
        rw [e] at h'
        obtain ⟨ef, he1, he2⟩ := eqItems_e e
        have l1 : ws1.length = its.toArray.size := by rw [List.size_toArray, ← p1.length, t1.length]
        have l2 : ws2.length = its2.toArray.size := by rw [List.size_toArray, ← p2.length, t2.length]
        have eb : b = ((List.range (min its.toArray.size its2.toArray.size)).all ef && its.toArray.size == its2.toArray.size) := by
         cases h'
         rw [← l1, ← l2, he2]
        have at1 := its_at t1 t2 p1 p2 he1
        have rc : SeqAt.RcAt A s (.ref a) (.ref a2) b := by
         rw [eb]
         exact SeqAt.RcAt.tuples (e := ef) pl1 pl2 hA1 at1
        refine ⟨?_, rc, ?_⟩
        ·by_cases ha : a = a2
         ·subst ha
          have ht : b = true := eqD_same (fun a xs ys h1 h2 => I.tuple_inj h1 h2) (fun a xs ys h1 h2 => list_inj I h1 h2) (fun a xs ys h1 h2 => not_both I h1 h2) (n + 1) (.tup s1 t1) (.tup s2 t2) keep
          rw [ht]; exact SeqAt.EqAt.same _
         ·exact SeqAt.EqAt.of_refs ha rc
        ·rw [eb]
         exact SeqAt.RcNeAt.tuples (e := ef) pl1 pl2 hA1 at1
     | lst ws2 =>
      cases r2 with
      | lst s2 t2 =>
       cases q2
       cases h
       obtain ⟨its2, p2, pl2, _⟩ := I.list s2
       exact ⟨SeqAt.EqAt.tuple_list pl1 pl2.isList hA1, SeqAt.RcAt.tuple_list pl1 pl2.isList hA1, SeqAt.RcNeAt.tuple_list pl1 pl2.isList hA1⟩
     | _ => cases h
    | lst s1 t1 =>
     rename_i a xs ws1
     cases q1
     obtain ⟨its, p1, pl1, _⟩ := I.list s1
     cases w2 with
     | lst ws2 =>
      cases r2 with
      | lst s2 t2 =>
       rename_i a2 ys
       cases q2
       obtain ⟨its2, p2, pl2, _⟩ := I.list s2
       have l1 : ws1.length = its.toArray.size := by rw [List.size_toArray, ← p1.length, t1.length]
       have l2 : ws2.length = its2.toArray.size := by rw [List.size_toArray, ← p2.length, t2.length]
       have h' : (if ws1.length = ws2.length then eqItems (eqD n) ws1 ws2 else some false) = some b := h
       by_cases hl : ws1.length = ws2.length
       ·rw [if_pos hl] at h'
        obtain ⟨ef, he1, he2⟩ := eqItems_e h'
        have hsz : its.toArray.size = its2.toArray.size := by rw [← l1, ← l2, hl]
        have eb : b = (List.range its.toArray.size).all ef := by
         rw [← he2, ← l1, ← hl, Nat.min_self]
        have at1 := its_at t1 t2 p1 p2 he1
        have rc : SeqAt.RcAt A s (.ref a) (.ref a2) b := by
         rw [eb]
         exact SeqAt.RcAt.lists (e := ef) pl1.isList pl2.isList hsz hA1 at1
        refine ⟨?_, rc, ?_⟩
        ·by_cases ha : a = a2
         ·subst ha
          have ht : b = true := eqD_same (fun a xs ys h1 h2 => I.tuple_inj h1 h2) (fun a xs ys h1 h2 => list_inj I h1 h2) (fun a xs ys h1 h2 => not_both I h1 h2) (n + 1) (.lst s1 t1) (.lst s2 t2) keep
          rw [ht]; exact SeqAt.EqAt.same _
         ·exact SeqAt.EqAt.of_refs ha rc
        ·rw [eb]
         exact SeqAt.RcNeAt.lists (e := ef) pl1.isList pl2.isList hsz hA1 at1
       ·rw [if_neg hl] at h'
        cases h'
        have hsz : (its.toArray.size != its2.toArray.size) = true := by
         rw [← l1, ← l2]; simpa using hl
        have rc : SeqAt.RcAt A s (.ref a) (.ref a2) false := SeqAt.RcAt.lists_lengths pl1.isList pl2.isList hsz hA1
        refine ⟨SeqAt.EqAt.of_refs (fun ha => ?_) rc, rc, SeqAt.RcNeAt.lists_lengths pl1.isList pl2.isList hsz hA1⟩
        subst ha
        have := list_inj I s1 s2
        subst this
        exact hl (by rw [← t1.length, ← t2.length])
     | tup ws2 =>
      cases r2 with
      | tup s2 t2 =>
       cases q2
       cases h
       obtain ⟨its2, p2, pl2, _⟩ := I.tuple s2
       exact ⟨SeqAt.EqAt.list_tuple pl1.isList pl2 hA1, SeqAt.RcAt.list_tuple pl1.isList pl2 hA1, SeqAt.RcNeAt.list_tuple pl1.isList pl2 hA1⟩
     | _ => cases h
    | _ => first | (cases f1; done) | (cases w2 <;> cases h)
end
theorem SR.look {K : PySem.W.Frag} {ι : Nat → Addr} {st : S} {G H : Hp} (h : SR K ι st G H) : Ext ι st.nxt G ι st.nxt H := ⟨Nat.le_refl _, fun _ _ => rfl, h.sub⟩
def inStr (i j : Str) : Bool := !(Builtin.Str.occurrences j i 0 j.length 1).isEmpty
def inD (x : W) : List W → Option Bool
 | [] => some false
 | y :: ys => match eqD 12 y x, inD x ys with
  | some a, some b => some (a || b)
  | _, _ => none
def itemsOf (st : S) : W → Option (List W)
 | .lst xs => some xs
 | .tup xs => some xs
 | .ref n => MO.items (st.mu n)
 | _ => none
def inW (st : S) (a b : W) : Option Bool := match a, b with
 | .str i, .str j => some (inStr i j)
 | x, y => match itemsOf st y with
  | some ys => inD x ys
  | none => none
def opIn0 : Op2 := fun a b st => match inW st a b with
 | some r => .ok (.bl r) st
 | none => .stuck
def opNotIn0 : Op2 := fun a b st => match inW st a b with
 | some r => .ok (.bl (!r)) st
 | none => .stuck
theorem items_rel {K : PySem.W.Frag} {ι : Nat → Addr} {st : S} {G H : Hp} {v : V} {w : W} {ws : List W} (sr : SR K ι st G H) (r : RelW K ι st.nxt G v w) (h : itemsOf st w = some ws) : ∃ a xs, v = .ref a ∧ (SqL K H a xs ∨ SqT K H a xs) ∧ RelWs K ι st.nxt G xs ws := by
 cases r with
 | tup s1 t1 => cases h; exact ⟨_, _, rfl, .inr (sqT_same sr.sub s1), t1⟩
 | lst s1 t1 => cases h; exact ⟨_, _, rfl, .inl (sr.sub.seq s1), t1⟩
 | ref hn =>
  rename_i n
  have h : MO.items (st.mu n) = some ws := h
  cases e : st.mu n with
  | none => rw [e] at h; cases h
  | some o =>
   obtain ⟨_, _, h3⟩ := sr.live n o e
   cases o with
   | lst xs =>
    rw [e] at h
    cases h
    obtain ⟨vs, q, r⟩ := h3
    exact ⟨_, vs, rfl, .inl (SqL.of q), r⟩
   | dct ks vs => rw [e] at h; cases h
 | _ => cases h
theorem eqD_det {K : PySem.W.Frag} {ι : Nat → Addr} {N : Nat} {G : Hp} (inT : ∀ a xs ys, SqT K G a xs → SqT K G a ys → xs = ys) (inL : ∀ a xs ys, SqL K G a xs → SqL K G a ys → xs = ys) (ntl : ∀ a xs ys, SqT K G a xs → SqL K G a ys → False) :
  ∀ (n : Nat) {v : V} {w w' x : W} {c c' : Bool}, RelW K ι N G v w → RelW K ι N G v w' → eqD n w x = some c → eqD n w' x = some c' → c = c'
 | 0, _, _, _, _, _, _, _, _, h, _ => by cases h
 | n + 1, v, w, w', x, c, c', r1, r2, h1, h2 => by
  have items : ∀ {vs : List V} {ws1 ws2 ys : List W} {r r' : Bool}, RelWs K ι N G vs ws1 → RelWs K ι N G vs ws2 → eqItems (eqD n) ws1 ys = some r → eqItems (eqD n) ws2 ys = some r' → r = r' := by
   intro vs
   induction vs with
   | nil => intro ws1 ws2 ys r r' t1 t2 e e'; cases t1; cases t2; rw [e] at e'; exact Option.some.inj e'
   | cons x xs ih =>
    intro ws1 ws2 ys r r' t1 t2 e e'
    cases t1 with
    | @cons _ w1 _ wt1 a1 t1 =>
     cases t2 with
     | @cons _ w2 _ wt2 a2 t2 =>
      cases ys with
      | nil => cases e; cases e'; rfl
      | cons y ys =>
       unfold eqItems at e e'
       cases e1 : eqD n w1 y with
       | none => rw [e1] at e; cases e
       | some p =>
        cases e2 : eqItems (eqD n) wt1 ys with
        | none => rw [e1, e2] at e; cases e
        | some q =>
         cases e3 : eqD n w2 y with
         | none => rw [e3] at e'; cases e'
         | some p' =>
          cases e4 : eqItems (eqD n) wt2 ys with
          | none => rw [e3, e4] at e'; cases e'
          | some q' =>
           rw [e1, e2] at e
           rw [e3, e4] at e'
           cases e; cases e'
           rw [eqD_det inT inL ntl n a1 a2 e1 e3, ih t1 t2 e2 e4]
  unfold eqD at h1 h2
  cases f1 : flatW w with
  | some y =>
   obtain ⟨ey, fy⟩ := flatW_rel r1 f1
   cases f2 : flatW w' with
   | some z =>
    obtain ⟨ez, fz⟩ := flatW_rel r2 f2
    have : y = z := by rw [← ey, ← ez]
    subst this
    cases f3 : flatW x with
    | some z =>
     rw [f1, f3] at h1; rw [f2, f3] at h2
     have g1 : some (eqV y z) = some c := h1
     have g2 : some (eqV y z) = some c' := h2
     rw [g1] at g2; exact Option.some.inj g2
    | none =>
     rw [f1, f3] at h1; rw [f2, f3] at h2
     have g1 : (if isSeq x then some false else none) = some c := h1
     have g2 : (if isSeq x then some false else none) = some c' := h2
     rw [g1] at g2; exact Option.some.inj g2
   | none => cases r2 <;> first | (cases f2; done) | (subst ey; cases fy; done)
  | none =>
   cases f2 : flatW w' with
   | some z =>
    obtain ⟨ez, fz⟩ := flatW_rel r2 f2
    cases r1 <;> first | (cases f1; done) | (subst ez; cases fz; done)
   | none =>
    rw [f1] at h1; rw [f2] at h2
    cases r1 with
    | tup s1 t1 =>
     rename_i a xs ws1
     cases w' with
     | tup ws2 =>
      cases r2 with
      | tup s2 t2 =>
       cases inT _ _ _ s1 s2
       cases f3 : flatW x with
       | some z => rw [f3] at h1 h2; cases h1; cases h2; rfl
       | none =>
        rw [f3] at h1 h2
        cases x with
        | tup ys =>
         have g1 : (eqItems (eqD n) ws1 ys).map (fun r => r && ws1.length == ys.length) = some c := h1
         have g2 : (eqItems (eqD n) ws2 ys).map (fun r => r && ws2.length == ys.length) = some c' := h2
         cases e1 : eqItems (eqD n) ws1 ys with
         | none => rw [e1] at g1; cases g1
         | some p =>
          cases e2 : eqItems (eqD n) ws2 ys with
          | none => rw [e2] at g2; cases g2
          | some q =>
           rw [e1] at g1; rw [e2] at g2
           cases g1; cases g2
           rw [items t1 t2 e1 e2, ← t1.length, ← t2.length]
        | lst ys => cases h1; cases h2; rfl
        | _ => cases h1
     | lst ws2 => cases r2 with | lst s2 t2 => exact (ntl _ _ _ s1 s2).elim
     | _ => first | (cases f2; done) | (cases f3 : flatW x <;> rw [f3] at h2 <;> first | (cases h2; done) | (cases x <;> cases h2))
    | lst s1 t1 =>
     rename_i a xs ws1
     cases w' with
     | lst ws2 =>
      cases r2 with
      | lst s2 t2 =>
       cases inL _ _ _ s1 s2
       cases f3 : flatW x with
       | some z => rw [f3] at h1 h2; cases h1; cases h2; rfl
       | none =>
        rw [f3] at h1 h2
        cases x with
        | lst ys =>
         have g1 : (if ws1.length = ys.length then eqItems (eqD n) ws1 ys else some false) = some c := h1
         have g2 : (if ws2.length = ys.length then eqItems (eqD n) ws2 ys else some false) = some c' := h2
         have hl : ws1.length = ws2.length := by rw [← t1.length, ← t2.length]
         rw [← hl] at g2
         by_cases hy : ws1.length = ys.length
         ·rw [if_pos hy] at g1 g2
          exact items t1 t2 g1 g2
         ·rw [if_neg hy] at g1 g2
          cases g1; cases g2; rfl
        | tup ys => cases h1; cases h2; rfl
        | _ => cases h1
     | tup ws2 => cases r2 with | tup s2 t2 => exact (ntl _ _ _ s2 s1).elim
     | _ => first | (cases f2; done) | (cases f3 : flatW x <;> rw [f3] at h2 <;> first | (cases h2; done) | (cases x <;> cases h2))
    | _ => first | (cases f1; done) | (cases f3 : flatW x <;> rw [f3] at h1 <;> first | (cases h1; done) | (cases x <;> cases h1))
theorem mem_fun {pins : List (Addr × Obj)} {σ : St} {H : Hp} {s : Shared} {ι : Nat → Addr} {N : Nat} {A : Around} {x : W} {vx : V} {ux : Value} (I : Inv X pins σ H s) (rx : RelW X.K ι N H vx x) (qx : RelV vx ux) (hA : A.units + 12 < cLine) :
  ∀ {ws : List W} {vs : List V} {us : List Value} {b : Bool}, inD x ws = some b → RelWs X.K ι N H vs ws → Vals vs us →
   ∃ e : Value → Bool, (∀ u ∈ us, SeqAt.EqAt A s u ux (e u)) ∧ us.any e = b ∧ ∀ (j : Nat) v u w, vs[j]? = some v → us[j]? = some u → ws[j]? = some w → eqD 12 w x = some (e u) := by
 intro ws
 induction ws with
 | nil => intro vs us b h t q; cases t; cases q; cases h; exact ⟨fun _ => false, fun u hu => (by cases hu), rfl, fun j v u w hv => (by simp at hv)⟩
 | cons w ws ih =>
  intro vs us b h t q
  cases t with
  | cons r t =>
   cases q with
   | cons qv q =>
    rename_i v vs u us
    unfold inD at h
    cases e1 : eqD 12 w x with
    | none => rw [e1] at h; cases h
    | some a =>
     cases e2 : inD x ws with
     | none => rw [e1, e2] at h; cases h
     | some c =>
      rw [e1, e2] at h
      obtain ⟨e, h1, h2, h3⟩ := ih e2 t q
      have at1 := (eqD_at I 12 (A := A) e1 r rx qv qx hA).1
      have keep : ∀ u' ∈ us, u' = u → e u' = a := fun u' hu hue => by
       obtain ⟨j, hj, ej⟩ := List.mem_iff_getElem.mp hu
       have g1 : us[j]? = some u' := by rw [List.getElem?_eq_getElem hj, ej]
       obtain ⟨v', gv, rv'⟩ := Vals.at q hj
       obtain ⟨w', gw, rw'⟩ := t.get' gv
       have d := h3 j v' u' w' gv g1 gw
       rw [ej, hue] at rv'
       have ev : v' = v := rv'.inj qv
       subst ev
       exact eqD_det (fun a xs ys h1 h2 => I.tuple_inj h1 h2) (fun a xs ys h1 h2 => list_inj I h1 h2) (fun a xs ys h1 h2 => not_both I h1 h2) 12 rw' r d e1
      refine ⟨fun z => if z = u then a else e z, fun z hz => ?_, ?_, fun j v' u' w' hv hu hw => ?_⟩
      ·by_cases hzu : z = u
       ·(try dsimp only); rw [if_pos hzu, hzu]; exact at1
       ·(try dsimp only); rw [if_neg hzu]
        rcases List.mem_cons.mp hz with hz | hz
        ·exact absurd hz hzu
        ·exact h1 z hz
      ·rw [List.any_cons, if_pos rfl]
       have e3 : us.any (fun z => if z = u then a else e z) = us.any e := by
        rw [Bool.eq_iff_iff, List.any_eq_true, List.any_eq_true]
        constructor
        ·rintro ⟨z, hz, hq⟩
         refine ⟨z, hz, ?_⟩
         by_cases hzu : z = u
         ·rw [if_pos hzu] at hq; rw [keep z hz hzu]; exact hq
         ·rw [if_neg hzu] at hq; exact hq
        ·rintro ⟨z, hz, hq⟩
         refine ⟨z, hz, ?_⟩
         by_cases hzu : z = u
         ·rw [if_pos hzu, ← keep z hz hzu]; exact hq
         ·rw [if_neg hzu]; exact hq
       rw [e3, h2]
       cases h; rfl
      ·cases j with
       | zero =>
        simp at hv hu hw
        subst hv hu hw
        (try dsimp only); rw [if_pos rfl]; exact e1
       | succ j =>
        have hv' : vs[j]? = some v' := by simpa using hv
        have hu' : us[j]? = some u' := by simpa using hu
        have hw' : ws[j]? = some w' := by simpa using hw
        have d := h3 j v' u' w' hv' hu' hw'
        dsimp only
        by_cases hzu : u' = u
        ·rw [if_pos hzu, ← keep u' (List.mem_of_getElem? hu') hzu]; exact d
        ·rw [if_neg hzu]; exact d
theorem opw_inG {neg : Bool} {op : CmpOp} {o : Op2} (ho : o = fun a b st => match inW st a b with | some r => .ok (.bl (if neg then !r else r)) st | none => .stuck)
  (hs : OpR X (compareOp op) (fun x y H Q => ∃ i j, x = .str i ∧ y = .str j ∧ Q (.bl (if neg then !(!(Builtin.Str.occurrences j i 0 j.length 1).isEmpty) else (!(Builtin.Str.occurrences j i 0 j.length 1).isEmpty))) H))
  (hl : ∀ {s : Shared} {l : Addr} {items : Array Value} {x : Value} {Q : Value → Shared → Prop} (e : Value → Bool), s.heap.IsList l items → (∀ y, y ∈ items → SeqAt.EqAt X.A.in1 s y x (e y)) → Q (.bool (if neg then !items.any e else items.any e)) s → wpAny (model X.prog X.w) X.A (compareOp op x (.ref l)) Q X.xe s)
  (ht : ∀ {s : Shared} {l : Addr} {items : Array Value} {x : Value} {Q : Value → Shared → Prop} (e : Value → Bool), s.heap.IsTuple l items → (∀ y, y ∈ items → SeqAt.EqAt X.A.in1 s y x (e y)) → Q (.bool (if neg then !items.any e else items.any e)) s → wpAny (model X.prog X.w) X.A (compareOp op x (.ref l)) Q X.xe s)
  (hu : X.A.units + 64 < cLine) : OpW X (compareOp op) o := by
 subst ho
 intro pins s σ H ι G st x y w1 w2 v u Q I sr rx ry r1 r2 q
 dsimp only at q
 cases e : inW st w1 w2 with
 | none => rw [e] at q; exact (show False from q).elim
 | some b =>
  rw [e] at q
  have qq : ∀ (H' : Hp), H' = H → Q (.bl (if neg then !b else b)) H' := fun H' hh => by rw [hh]; exact q _ ι G H (Ext.refl _ _ _) sr (.bl _)
  have seq : ∀ {ys : List W}, itemsOf st w2 = some ys → inD w1 ys = some b → wpAny (model X.prog X.w) X.A (compareOp op v u) (EP X pins σ Q) X.xe s := by
   intro ys hi hd
   obtain ⟨a, xs, ea, hq, t⟩ := items_rel sr r2 hi
   subst ea
   cases ry
   rcases hq with hq | hq
   ·obtain ⟨its, r, pl, hz⟩ := I.list hq
    obtain ⟨f, h1, h2, _⟩ := mem_fun (A := X.A.in1) I (r1.mono sr.look) rx (by show X.A.units + 1 + 12 < cLine; omega) hd (t.mono sr.look) r
    refine hl f pl.isList (fun w hw => h1 w (by simpa using hw)) ⟨.bl (if neg then !b else b), H, I, ?_, qq H rfl⟩
    rw [show its.toArray.any f = its.any f by simp, h2]; rfl
   ·obtain ⟨its, r, pl, hz⟩ := I.tuple hq
    obtain ⟨f, h1, h2, _⟩ := mem_fun (A := X.A.in1) I (r1.mono sr.look) rx (by show X.A.units + 1 + 12 < cLine; omega) hd (t.mono sr.look) r
    refine ht f pl (fun w hw => h1 w (by simpa using hw)) ⟨.bl (if neg then !b else b), H, I, ?_, qq H rfl⟩
    rw [show its.toArray.any f = its.any f by simp, h2]; rfl
  by_cases hb : ∃ i j, w1 = .str i ∧ w2 = .str j
  ·obtain ⟨i, j, rfl, rfl⟩ := hb
   cases r1; cases r2
   have e' : some (inStr i j) = some b := e
   cases e'
   exact hs pins s σ H _ _ v u Q I rx ry ⟨i, j, rfl, rfl, qq H rfl⟩
  ·have e' : (match itemsOf st w2 with | some ys => inD w1 ys | none => none) = some b := by
    rw [← e]
    unfold inW
    cases w1 <;> cases w2 <;> first | rfl | exact absurd ⟨_, _, rfl, rfl⟩ hb
   cases hi : itemsOf st w2 with
   | none => rw [hi] at e'; cases e'
   | some ys => rw [hi] at e'; exact seq hi e'
theorem opw_in0 (hu : X.A.units + 64 < cLine) : OpW X (compareOp .In) opIn0 := opw_inG (neg := false) rfl op_in_str (fun e h1 h2 h3 => SeqAt.in_listAt e h1 h2 h3) (fun e h1 h2 h3 => SeqAt.in_tupleAt e h1 h2 h3) hu
theorem opw_notIn0 (hu : X.A.units + 64 < cLine) : OpW X (compareOp .NotIn) opNotIn0 := opw_inG (neg := true) rfl op_notIn_str (fun e h1 h2 h3 => SeqAt.notIn_listAt e h1 h2 h3) (fun e h1 h2 h3 => SeqAt.notIn_tupleAt e h1 h2 h3) hu
end
end DL
namespace DL
open PySem PySem.Spec PyProof.Rows L2
section
variable {X : Cx}
def opIdx0 : Op2 := fun a b st => match b with
 | .int i => match a with
  | .str z => if z.length ≤ sizeLine then (match atI z.cps.toList i with | some c => .ok (.str ⟨#[c]⟩) st | none => .stuck) else .stuck
  | a => match itemsOf st a with
   | some ws => (match atI ws i with | some w => .ok w st | none => .stuck)
   | none => .stuck
 | _ => .stuck
theorem atI_rel {K : PySem.W.Frag} {ι : Nat → Addr} {N : Nat} {G : Hp} {xs : List V} {ws : List W} {i : Int} {w : W} (t : RelWs K ι N G xs ws) (h : atI ws i = some w) : ∃ v, atI xs i = some v ∧ RelW K ι N G v w := by
 unfold atI at h ⊢
 rw [t.length]
 cases e : ixN ws.length i with
 | none => rw [e] at h; cases h
 | some j =>
  rw [e] at h
  exact t.get (show ws[j]? = some w from h)
theorem ix_w : IxR X (rOp X opIdx0) := by
 intro value slice pins s σ H x y v u Q I rx ry h hs
 obtain ⟨ι, G, st, w1, w2, sr, r1, r2, q⟩ := h
 cases w2 with
 | int i =>
  cases r2
  have seq : ∀ {ws : List W}, itemsOf st w1 = some ws → wpW X ι st.nxt G (match atI ws i with | some w => .ok w st | none => .stuck) Q → wpAny (model X.prog X.w) X.A (subscriptTail value slice v u) (EP X pins σ Q) X.xe s := by
   intro ws hi q
   cases e : atI ws i with
   | none => rw [e] at q; exact (show False from q).elim
   | some w =>
    rw [e] at q
    obtain ⟨a, xs, ea, hq, t⟩ := items_rel sr r1 hi
    subst ea
    obtain ⟨z, hz, rz⟩ := atI_rel t e
    have fin := q z ι G H (Ext.refl _ _ _) sr rz
    rcases hq with hq | hq
    ·exact ix_list value slice pins s σ H _ _ v u Q I rx ry ⟨a, xs, i, z, rfl, rfl, hq, hz, fin⟩ hs
    ·exact ix_tup value slice pins s σ H _ _ v u Q I rx ry ⟨a, xs, i, z, rfl, rfl, hq, hz, fin⟩ hs
  cases w1 with
  | str z =>
   cases r1
   have q' : wpW X ι st.nxt G (if z.length ≤ sizeLine then (match atI z.cps.toList i with | some c => .ok (.str ⟨#[c]⟩) st | none => .stuck) else .stuck) Q := q
   by_cases hl : z.length ≤ sizeLine
   ·rw [if_pos hl] at q'
    cases e : atI z.cps.toList i with
    | none => rw [e] at q'; exact (show False from q').elim
    | some c =>
     rw [e] at q'
     exact ix_str value slice pins s σ H _ _ v u Q I rx ry ⟨z, i, c, rfl, rfl, hl, e, q' _ ι G H (Ext.refl _ _ _) sr (.str _)⟩ hs
   ·rw [if_neg hl] at q'; exact (show False from q').elim
  | tup ws => exact seq (ws := ws) rfl q
  | lst ws => exact seq (ws := ws) rfl q
  | ref n =>
   cases hi : itemsOf st (.ref n) with
   | none =>
    have q' : wpW X ι st.nxt G (match itemsOf st (.ref n) with | some ws => (match atI ws i with | some w => .ok w st | none => .stuck) | none => .stuck) Q := q
    rw [hi] at q'; exact (show False from q').elim
   | some ws =>
    have q' : wpW X ι st.nxt G (match itemsOf st (.ref n) with | some ws => (match atI ws i with | some w => .ok w st | none => .stuck) | none => .stuck) Q := q
    rw [hi] at q'; exact seq hi q'
  | _ => exact (show False from q).elim
 | _ => exact (show False from q).elim
theorem pd_ix0 {a b : Expr} {pos : Pos} {ra rb : Run} (ha : PD X a ra) (hb : PD X b rb) (hs : PlainIx b) : PD X (.Subscript a b pos) (run2 ra rb opIdx0) :=
 PE.imp (pe_ix ix_w ha hb hs) fun _ _ _ h => tD_op h
def cutW (xs : List W) (lo hi : Option Int) : List W := (xs.drop (HT.sIx xs.length 0 lo)).take (HT.sIx xs.length xs.length hi - HT.sIx xs.length 0 lo)
def opSl (m : Bool) (lo hi : Option Int) (a : W) (st : S) : R W := match a with
 | .str z => if z.length ≤ sizeLine then .ok (.str (Txt.slice z lo hi)) st else .stuck
 | .tup ws => .ok (.tup (cutW ws lo hi)) st
 | a => match itemsOf st a with
  | some ws => if m then opNewL (cutW ws lo hi) st else opLst (cutW ws lo hi) st
  | none => .stuck
theorem cut_rel {K : PySem.W.Frag} {ι : Nat → Addr} {N : Nat} {G : Hp} {xs : List V} {ws : List W} (t : RelWs K ι N G xs ws) (lo hi : Option Int) : RelWs K ι N G (cutV xs lo hi) (cutW ws lo hi) := by
 unfold cutV cutW
 rw [t.length]
 exact (t.drop _).take _
theorem tupleIsExact_ {prog : Program} {w : World} {A : Around} {E : Value → Shared → Prop} {s : Shared} {t : Addr} {items : Array Value} {Q : Bool → Shared → Prop} (ht : IsTup s.heap t items) (h : Q true s) : wpAny (model prog w) A (Builtin.Tuple.tupleIsExact (.ref t)) Q E s := by
 unfold Builtin.Tuple.tupleIsExact
 refine wpAny_bind (wpAny_typeOf ht.typeIs (wpAny_pure ?_))
 exact h
theorem getItem_tuple_whole {prog : Program} {w : World} {A : Around} {E : Value → Shared → Prop} {s : Shared} {t sl : Addr} {items : Array Value} {vl vu : Value} {lo hi : Option Int} {Q : Value → Shared → Prop} (ht : IsTup s.heap t items) (hs : s.heap.IsSliceOf sl vl vu .none) (pl : IsPart vl lo) (pu : IsPart vu hi)
  (h0 : HT.sIx items.size 0 lo = 0) (h1 : HT.sIx items.size items.size hi = items.size) (h : Q (.ref t) s) : wpAny (model prog w) A (getItem (.ref t) (.ref sl)) Q E s := by
 obtain ⟨os, hos, hcs, hds⟩ := id hs
 have hTs : s.TypeIs (.ref sl) "slice" := ⟨os, hos, hcs⟩
 unfold getItem
 try with_reducible refine wpAny_holding ?_
 first | refine wpAny_bind (wpAny_pure ?_) | skip
 refine wpAny_bind (wpAny_sequenceKey ht.typeIs (by decide) ?_)
 refine wpAny_bind (wpAny_callSpecial?_slot (name := Str.ofString "__getitem__") ht.typeIs PyProof.Rows.slot_tuple_getitem
  (wpAny_call_entry PyProof.Rows.slot_tuple_getitem ht.typeIs entry_tuple_getitem ?_ (args_tuple_getitem _ _)))
 show wpAny _ _ (Builtin.Tuple.tupleItemsOf (.ref t) >>= _) _ _ s
 refine wpAny_bind (tupleItemsOf_ ht ?_)
 refine wpAny_bind (wpAny_typeOf hTs ?_)
 rw [if_pos (by decide)]
 refine wpAny_bind (HT.sliceApplied_gen hs pl pu ?_)
 show wpAny _ _ (if (((HT.sIx items.size 0 lo : Nat) : Int) == 0 && (1 : Int) == 1 && (HT.sIx items.size items.size hi - HT.sIx items.size 0 lo) == items.size) = true then _ else _) _ _ s
 rw [h0, h1, if_pos (by simp)]
 refine wpAny_bind (tupleIsExact_ ht ?_)
 rw [if_pos rfl]
 refine wpAny_bind (wpAny_rule ?_)
 exact wpAny_pure ⟨_, rfl, wpAny_pure h⟩
theorem sl_tupAll : SlR X (fun x lo hi H Q => ∃ a xs, x = .ref a ∧ SqT X.K H a xs ∧ HT.sIx xs.length 0 lo = 0 ∧ HT.sIx xs.length xs.length hi = xs.length ∧ Q (.ref a) H) := by
 intro pins s σ H x v vl vu lo hi sl Q I rx hs pl pu h
 obtain ⟨a, xs, rfl, hx, h0, h1, q⟩ := h
 cases rx
 obtain ⟨its, r, ht, hz⟩ := I.tuple hx
 have hlen : its.toArray.size = xs.length := by rw [List.size_toArray]; exact r.length.symm
 refine ⟨"tuple", _, PyProof.Rows.slot_tuple_getitem.lookup, ht.typeIs, ?_⟩
 exact getItem_tuple_whole ht hs pl pu (by rw [hlen]; exact h0) (by rw [hlen]; exact h1) ⟨.ref a, H, I, rfl, q⟩
def rSlW (X : Cx) (m : Bool) : V → Option Int → Option Int → Hp → VK → Prop := fun x lo hi H Q => ∃ ι G st w, SR X.K ι st G H ∧ RelW X.K ι st.nxt G x w ∧ wpW X ι st.nxt G (opSl m lo hi w st) Q
theorem sl_w {m : Bool} : SlR X (rSlW X m) := by
 intro pins s σ H x v vl vu lo hi sl Q I rx hs pl pu h
 obtain ⟨ι, G, st, w, sr, r1, q⟩ := h
 have seq : ∀ {a : Addr} {xs : List V} {ws : List W}, v = .ref a → x = .ref a → SqL X.K H a xs → RelWs X.K ι st.nxt G xs ws → wpW X ι st.nxt G (if m then opNewL (cutW ws lo hi) st else opLst (cutW ws lo hi) st) Q →
   ∃ T id, typeLookup (.type T) "__getitem__" = pure (some (.builtin id)) ∧ s.TypeIs v T ∧ wpAny (model X.prog X.w) X.A (getItem v (.ref sl)) (EP X pins σ Q) X.xe s := by
  intro a xs ws ev ex hq t q
  refine sl_list pins s σ H x v vl vu lo hi sl Q I rx hs pl pu ⟨a, xs, ex, hq, ?_⟩
  cases m with
  | true => rw [if_pos rfl] at q; exact (newL_laid sr (cut_rel t lo hi) q).2
  | false => rw [if_neg Bool.false_ne_true] at q; exact (lst_laid sr (cut_rel t lo hi) q).2
 cases r1 with
 | str z =>
  have q' : wpW X ι st.nxt G (if z.length ≤ sizeLine then .ok (.str (Txt.slice z lo hi)) st else .stuck) Q := q
  by_cases hl : z.length ≤ sizeLine
  ·rw [if_pos hl] at q'
   exact sl_str pins s σ H _ v vl vu lo hi sl Q I rx hs pl pu ⟨z, rfl, hl, q' _ ι G H (Ext.refl _ _ _) sr (.str _)⟩
  ·rw [if_neg hl] at q'; exact (show False from q').elim
 | tup s1 t1 =>
  rename_i a xs ws
  have hq := sqT_same sr.sub s1
  by_cases hw : HT.sIx xs.length 0 lo = 0 ∧ HT.sIx xs.length xs.length hi = xs.length
  ·refine sl_tupAll pins s σ H _ v vl vu lo hi sl Q I rx hs pl pu ⟨a, xs, rfl, hq, hw.1, hw.2, q _ ι G H (Ext.refl _ _ _) sr (.tup s1 ?_)⟩
   have ec : cutW ws lo hi = ws := by
    unfold cutW
    rw [← t1.length, hw.1, hw.2, List.drop_zero, Nat.sub_zero, t1.length, List.take_length]
   rw [ec]; exact t1
  ·refine sl_tup pins s σ H _ v vl vu lo hi sl Q I rx hs pl pu ⟨a, xs, rfl, hq, hw, fun p hp => ?_⟩
   obtain ⟨sr2, e2⟩ := sr.laid (o := .tup (cutV xs lo hi)) hp
   exact q _ ι _ _ e2 sr2 (.tup (.inl (.inl upd_same)) ((cut_rel t1 lo hi).mono e2))
 | lst s1 t1 => exact seq rx rfl (sr.sub.seq s1) t1 q
 | ref hn =>
  rename_i n
  have q' : wpW X ι st.nxt G (match itemsOf st (.ref n) with | some ws => if m then opNewL (cutW ws lo hi) st else opLst (cutW ws lo hi) st | none => .stuck) Q := q
  cases hi' : itemsOf st (.ref n) with
  | none => rw [hi'] at q'; exact (show False from q').elim
  | some ws =>
   rw [hi'] at q'
   obtain ⟨a, xs, ea, hq, t⟩ := items_rel sr (.ref hn) hi'
   rcases hq with hq | hq
   ·exact seq (by cases ea; exact rx) ea hq t q'
   ·exfalso
    have hi2 := hi'
    have hi2 : MO.items (st.mu n) = some ws := hi2
    cases e : st.mu n with
    | none => rw [e] at hi2; cases hi2
    | some o =>
     obtain ⟨_, _, h3⟩ := sr.live n o e
     cases o with
     | lst zs =>
      obtain ⟨vs, qv, _⟩ := h3
      cases ea
      exact not_both I hq (SqL.of qv)
     | dct ks vs => rw [e] at hi2; cases hi2
 | _ => exact (show False from q).elim
def runSlNN (m : Bool) (ra : Run) : Run := fun Γ st => (ra Γ st).bind fun w st1 => opSl m none none w st1
def runSlSN (m : Bool) (ra rl : Run) : Run := fun Γ st => (ra Γ st).bind fun w st1 => (rl Γ st1).bind fun l st2 => (match l with | .int i => opSl m (some i) none w st2 | _ => .stuck)
def runSlNS (m : Bool) (ra rh : Run) : Run := fun Γ st => (ra Γ st).bind fun w st1 => (rh Γ st1).bind fun h st2 => (match h with | .int i => opSl m none (some i) w st2 | _ => .stuck)
def runSlSS (m : Bool) (ra rl rh : Run) : Run := fun Γ st => (ra Γ st).bind fun w st1 => (rl Γ st1).bind fun l st2 => (match l with | .int i => (rh Γ st2).bind fun h st3 => (match h with | .int j => opSl m (some i) (some j) w st3 | _ => .stuck) | _ => .stuck)
section
variable {e lo hi : Expr} {pos p2 : Pos} {ra rl rh : Run} {m : Bool}
theorem pd_slNN (ha : PD X e ra) : PD X (.Subscript e (.Slice none none none p2) pos) (runSlNN m ra) := by
 refine PE.imp (pe_slice (sl_w (m := m)) ha po_none po_none) fun σ H Q h => ?_
 obtain ⟨ι, G, st, Γ, en, sr, q⟩ := h
 exact ⟨ι, G, st, Γ, en, sr, wpW.bind q fun w st1 v ι1 G1 H1 _ e1 sr1 r1 q1 => ⟨ι1, G1, st1, w, sr1, r1, q1⟩⟩
theorem pd_slSN (ha : PD X e ra) (hl : PD X lo rl) : PD X (.Subscript e (.Slice (some lo) none none p2) pos) (runSlSN m ra rl) := by
 refine PE.imp (pe_slice (sl_w (m := m)) ha (po_some hl) po_none) fun σ H Q h => ?_
 obtain ⟨ι, G, st, Γ, en, sr, q⟩ := h
 refine ⟨ι, G, st, Γ, en, sr, wpW.bind q fun w st1 v ι1 G1 H1 _ e1 sr1 r1 q1 => ?_⟩
 refine ⟨ι1, G1, st1, Γ, en.mono e1, sr1, wpW.bind q1 fun l st2 v2 ι2 G2 H2 _ e2 sr2 r2 q2 => ?_⟩
 cases l with
 | int i => cases r2; exact ⟨i, rfl, ι2, G2, st2, w, sr2, r1.mono e2, q2⟩
 | _ => exact (show False from q2).elim
theorem pd_slNS (ha : PD X e ra) (hh : PD X hi rh) : PD X (.Subscript e (.Slice none (some hi) none p2) pos) (runSlNS m ra rh) := by
 refine PE.imp (pe_slice (sl_w (m := m)) ha po_none (po_some hh)) fun σ H Q h => ?_
 obtain ⟨ι, G, st, Γ, en, sr, q⟩ := h
 refine ⟨ι, G, st, Γ, en, sr, wpW.bind q fun w st1 v ι1 G1 H1 _ e1 sr1 r1 q1 => ?_⟩
 refine ⟨ι1, G1, st1, Γ, en.mono e1, sr1, wpW.bind q1 fun l st2 v2 ι2 G2 H2 _ e2 sr2 r2 q2 => ?_⟩
 cases l with
 | int i => cases r2; exact ⟨i, rfl, ι2, G2, st2, w, sr2, r1.mono e2, q2⟩
 | _ => exact (show False from q2).elim
theorem pd_slSS (ha : PD X e ra) (hl : PD X lo rl) (hh : PD X hi rh) : PD X (.Subscript e (.Slice (some lo) (some hi) none p2) pos) (runSlSS m ra rl rh) := by
 refine PE.imp (pe_slice (sl_w (m := m)) ha (po_some hl) (po_some hh)) fun σ H Q h => ?_
 obtain ⟨ι, G, st, Γ, en, sr, q⟩ := h
 refine ⟨ι, G, st, Γ, en, sr, wpW.bind q fun w st1 v ι1 G1 H1 _ e1 sr1 r1 q1 => ?_⟩
 refine ⟨ι1, G1, st1, Γ, en.mono e1, sr1, wpW.bind q1 fun l st2 v2 ι2 G2 H2 _ e2 sr2 r2 q2 => ?_⟩
 cases l with
 | int i =>
  cases r2
  refine ⟨i, rfl, ι2, G2, st2, Γ, (en.mono e1).mono e2, sr2, wpW.bind q2 fun h st3 v3 ι3 G3 H3 _ e3 sr3 r3 q3 => ?_⟩
  cases h with
  | int j => cases r3; exact ⟨j, rfl, ι3, G3, st3, w, sr3, (r1.mono e2).mono e3, q3⟩
  | _ => exact (show False from q3).elim
 | _ => exact (show False from q2).elim
end
def opLen : OpN := fun ws st => match ws with
 | [.str z] => if z.length ≤ sizeLine then .ok (.int z.length) st else .stuck
 | [w] => match itemsOf st w with
  | some xs => .ok (.int xs.length) st
  | none => .stuck
 | _ => .stuck
def bools : List W → Option (List Bool)
 | [] => some []
 | .bl b :: ws => (bools ws).map (b :: ·)
 | _ :: _ => none
def opAll : OpN := fun ws st => match ws with
 | [.lst xs] => (match bools xs with | some bs => .ok (.bl (bs.all id)) st | none => .stuck)
 | _ => .stuck
def opTuple : OpN := fun ws st => match ws with
 | [.tup xs] => .ok (.tup xs) st
 | [w] => match itemsOf st w with
  | some xs => opTup xs st
  | none => .stuck
 | _ => .stuck
def opList (m : Bool) : OpN := fun ws st => match ws with
 | [w] => match itemsOf st w with
  | some xs => if m then opNewL xs st else opLst xs st
  | none => .stuck
 | _ => .stuck
theorem bools_map : ∀ {ws : List W} {bs : List Bool}, bools ws = some bs → ws = bs.map W.bl
 | [], bs, h => by cases h; rfl
 | w :: ws, bs, h => by
  cases w with
  | bl b =>
   have h' : (bools ws).map (b :: ·) = some bs := h
   cases e : bools ws with
   | none => rw [e] at h'; cases h'
   | some cs => rw [e] at h'; cases h'; rw [List.map_cons, ← bools_map e]
  | _ => cases h
theorem rel1 {K : PySem.W.Frag} {ι : Nat → Addr} {N : Nat} {G : Hp} {xs : List V} {w : W} (t : RelWs K ι N G xs [w]) : ∃ v, xs = [v] ∧ RelW K ι N G v w := by
 cases t with
 | cons r t => cases t; exact ⟨_, rfl, r⟩
theorem rel2 {K : PySem.W.Frag} {ι : Nat → Addr} {N : Nat} {G : Hp} {xs : List V} {w w' : W} (t : RelWs K ι N G xs [w, w']) : ∃ v v', xs = [v, v'] ∧ RelW K ι N G v w ∧ RelW K ι N G v' w' := by
 cases t with
 | cons r t => obtain ⟨v, rfl, r'⟩ := rel1 t; exact ⟨_, _, rfl, r, r'⟩
theorem cw_len : CallW X (.builtin "len") opLen := by
 intro pins s σ H ι G st xs ws us Q I sr rv t q
 match ws, t, q with
 | [w], t, q =>
  obtain ⟨v, rfl, r⟩ := rel1 t
  have seq : ∀ {zs : List W}, itemsOf st w = some zs → wpW X ι st.nxt G (.ok (.int zs.length) st) Q → wpAny (model X.prog X.w) X.A (call (.builtin "len") us) (EP X pins σ Q) X.xe s := by
   intro zs hi q
   obtain ⟨a, ys, ea, hq, t2⟩ := items_rel sr r hi
   subst ea
   refine call_len_seq pins s σ H _ us Q I rv ⟨a, ys, rfl, hq, ?_⟩
   rw [t2.length]
   exact q _ ι G H (Ext.refl _ _ _) sr (.int _)
  cases w with
  | str z =>
   cases r
   have q' : wpW X ι st.nxt G (if z.length ≤ sizeLine then .ok (.int z.length) st else .stuck) Q := q
   by_cases hl : z.length ≤ sizeLine
   ·rw [if_pos hl] at q'
    exact call_len_str pins s σ H _ us Q I rv ⟨z, rfl, hl, q' _ ι G H (Ext.refl _ _ _) sr (.int _)⟩
   ·rw [if_neg hl] at q'; exact (show False from q').elim
  | tup zs => exact seq rfl q
  | lst zs => exact seq rfl q
  | ref n =>
   have q' : wpW X ι st.nxt G (match itemsOf st (.ref n) with | some xs => .ok (.int xs.length) st | none => .stuck) Q := q
   cases hi : itemsOf st (.ref n) with
   | none => rw [hi] at q'; exact (show False from q').elim
   | some zs => rw [hi] at q'; exact seq hi q'
  | _ => exact (show False from q).elim
 | [], _, q => exact (show False from q).elim
 | w :: w' :: ws, _, q => exact (show False from (by cases w <;> exact q)).elim
theorem cw_all (hc : X.calm = true) : CallW X (.builtin "all") opAll := by
 intro pins s σ H ι G st xs ws us Q I sr rv t q
 unfold opAll at q
 split at q
 ·rename_i zs
  cases e : bools zs with
  | none => rw [e] at q; exact (show False from q).elim
  | some bs =>
   rw [e] at q
   obtain ⟨v, rfl, r⟩ := rel1 t
   cases r with
   | lst s1 t1 =>
    rw [bools_map e] at t1
    have e2 := t1.bls
    subst e2
    exact call_allB hc pins s σ H _ us Q I rv ⟨_, bs, rfl, sr.sub.seq s1, q _ ι G H (Ext.refl _ _ _) sr (.bl _)⟩
 ·exact (show False from q).elim
theorem cw_list {m : Bool} : CallW X (.type "list") (opList m) := by
 intro pins s σ H ι G st xs ws us Q I sr rv t q
 unfold opList at q
 split at q
 ·rename_i w
  cases hi : itemsOf st w with
  | none => rw [hi] at q; exact (show False from q).elim
  | some zs =>
   rw [hi] at q
   obtain ⟨v, rfl, r⟩ := rel1 t
   obtain ⟨a, ys, ea, hq, t2⟩ := items_rel sr r hi
   subst ea
   refine call_list_of pins s σ H _ us Q I rv ⟨a, ys, rfl, hq, ?_⟩
   cases m with
   | true => exact (newL_laid sr t2 q).2
   | false => exact (lst_laid sr t2 q).2
 ·exact (show False from q).elim
theorem cw_tuple : CallW X (.type "tuple") opTuple := by
 intro pins s σ H ι G st xs ws us Q I sr rv t q
 unfold opTuple at q
 split at q
 ·rename_i zs
  obtain ⟨v, rfl, r⟩ := rel1 t
  cases r with
  | tup s1 t1 => exact call_tuple_of pins s σ H _ us Q I rv ⟨_, _, rfl, .inr ⟨sqT_same sr.sub s1, q _ ι G H (Ext.refl _ _ _) sr (.tup s1 t1)⟩⟩
 ·rename_i w hne
  cases hi : itemsOf st w with
  | none => rw [hi] at q; exact (show False from q).elim
  | some zs =>
   rw [hi] at q
   obtain ⟨v, rfl, r⟩ := rel1 t
   obtain ⟨a, ys, ea, hq, t2⟩ := items_rel sr r hi
   subst ea
   rcases hq with hq | hq
   ·exact call_tuple_of pins s σ H _ us Q I rv ⟨a, ys, rfl, .inl ⟨hq, (tup_laid sr t2 q).2⟩⟩
   ·exfalso
    cases r with
    | tup s1 t1 => exact hne _ rfl
    | lst s1 t1 => exact not_both I hq (sr.sub.seq s1)
    | @ref n hn =>
     have hi : MO.items (st.mu n) = some zs := hi
     cases e : st.mu n with
     | none => rw [e] at hi; cases hi
     | some o =>
      obtain ⟨_, _, h3⟩ := sr.live n o e
      cases o with
      | lst zs => obtain ⟨vs, qv, _⟩ := h3; exact not_both I hq (SqL.of qv)
      | dct ks vs => rw [e] at hi; cases hi
    | _ => cases hi
 ·exact (show False from q).elim
def MO.kind : Option MO → Option String
 | some (.lst _) => some "list"
 | some (.dct _ _) => some "dict"
 | none => none
def kindW (st : S) : W → Option String
 | .non => some "NoneType"
 | .bl _ => some "bool"
 | .int _ => some "int"
 | .str _ => some "str"
 | .tup _ => some "tuple"
 | .lst _ => some "list"
 | .dct _ _ => some "dict"
 | .ref n => MO.kind (st.mu n)
 | .ty _ => none
 | .exn _ => none
def isKind (k T : String) : Bool := k == T || (k == "bool" && T == "int")
def kinds : List String := ["NoneType", "bool", "int", "str", "tuple", "list", "dict"]
def opIsi : OpN := fun ws st => match ws with
 | [w, .ty T] => if kinds.contains T then (match kindW st w with | some k => .ok (.bl (isKind k T)) st | none => .stuck) else .stuck
 | _ => .stuck
end
end DL
namespace DL
open PySem PySem.Spec PyProof.Rows L2
section
variable {X : Cx}
structure SrcR (K : PySem.W.Frag) (J : It) (items : List W) (ι : Nat → Addr) (N : Nat) (G : Hp) : Prop where
 go : ∀ (i : Nat) (w : W) (ι' : Nat → Addr) (N' : Nat) (G' H' : Hp), items[i]? = some w → Ext ι N G ι' N' G' → Same G' H' → J.go i H' ∧ ∀ v H'', J.yld i H' v H'' → H'' = H' ∧ RelW K ι' N' G' v w
 stop : ∀ (G' H' : Hp), Same G G' → Same G' H' → J.stop items.length H'
abbrev Src := Ga → S → R (List W)
def tDI (X : Cx) (src : Src) : TI := fun σ H Rr => ∃ ι G st Γ, EnvR X.K ι st.nxt G σ Γ ∧ SR X.K ι st G H ∧ (match src Γ st with
 | .ok items st' => ∀ J ι' G' H', Ext ι st.nxt G ι' st'.nxt G' → SR X.K ι' st' G' H' → SrcR X.K J items ι' st'.nxt G' → Rr J H'
 | .ex c st' => XW X ι st.nxt G c st'
 | .stuck => False)
abbrev PDI (X : Cx) (tg iter : Expr) (src : Src) : Prop := PI X tg iter (tDI X src)
theorem PI.imp {tg e : Expr} {t t' : TI} (h : PI X tg e t) (k : ∀ σ H Q, t' σ H Q → t σ H Q) : PI X tg e t' := fun pins s σ H Q I q => h pins s σ H Q I (k σ H Q q)
def iSeq (K : PySem.W.Frag) (tl : TE) : TI := fun σ H R => tl σ H fun x H1 => (∃ a, x = .ref a ∧ (∃ xs, SqL K H1 a xs) ∧ R (Itl K a) H1) ∨ (∃ a, x = .ref a ∧ (∃ xs, SqT K H1 a xs) ∧ R (Itt K a) H1) ∨ ∃ z, x = .str z ∧ R (Its z) H1
theorem pi_seq {y : Str} {py : Pos} {l : Expr} {tl : TE} (hl : PE X l tl) : PI X (.Name y py) l (iSeq X.K tl) := by
 intro pins s σ H R I h
 refine thn (hl pins s σ H _ I h) fun v s1 ⟨x, H1, I1, r1, q1⟩ => ?_
 rcases q1 with ⟨a, e, ⟨xs, hq⟩, q⟩ | ⟨a, e, ⟨xs, hq⟩, q⟩ | ⟨z, e, q⟩
 ·subst e
  cases r1
  obtain ⟨its, rv, p, hz⟩ := I1.list hq
  refine wpAny_pyIter_list p.isList ?_
  refine ⟨s1.heap.objs.size, [s1.heap.objs.size], _, _, H1, rfl, I1.kept (t' := s1.toks) fun b o e => Heap.get?_push_of_some _ e, turn_list a _, ⟨_, Heap.get?_push_size _ rfl, rfl, rfl⟩, fun b hb => ?_, q⟩
  have e : b = s1.heap.objs.size := by simpa using hb
  subst e
  exact I1.fpOk (Nat.le_refl _) (I1.hok.fresh (Nat.le_refl _))
 ·subst e
  cases r1
  obtain ⟨its, rv, p, hz⟩ := I1.tuple hq
  refine wpAny_pyIter_tuple (show s1.heap.IsTuple a its.toArray from p) ?_
  refine ⟨s1.heap.objs.size, [s1.heap.objs.size], _, _, H1, rfl, I1.kept (t' := s1.toks) fun b o e => Heap.get?_push_of_some _ e, turn_tuple a _, ⟨_, Heap.get?_push_size _ rfl, rfl, rfl⟩, fun b hb => ?_, q⟩
  have e : b = s1.heap.objs.size := by simpa using hb
  subst e
  exact I1.fpOk (Nat.le_refl _) (I1.hok.fresh (Nat.le_refl _))
 ·subst e
  obtain ⟨t, rfl⟩ := r1
  have fp : ∀ b ∈ [s1.heap.objs.size], FpOk X pins H1 b := fun b hb => by
   have e : b = s1.heap.objs.size := by simpa using hb
   subst e
   exact I1.fpOk (Nat.le_refl _) (I1.hok.fresh (Nat.le_refl _))
  cases ha : z.cps.all (· < 128)
  ·refine wpAny_pyIter_wide ha ?_
   exact ⟨s1.heap.objs.size, [s1.heap.objs.size], _, _, H1, rfl, I1.kept (t' := s1.toks) fun b o e => Heap.get?_push_of_some _ e,
    turn_str (fun A' hA => Walks.strWide hA _ z t) (fun i h st => by obtain ⟨o, e, c, d⟩ := st; exact ⟨o, e, fun v z => by rw [d] at z; cases z⟩) (fun _ _ _ _ _ st h => wpAny_pyIter_striter_wide st h),
    ⟨Nat.zero_le _, ⟨_, Heap.get?_push_size _ rfl, rfl, rfl⟩⟩, fp, q⟩
  ·refine wpAny_pyIter_ascii ha ?_
   exact ⟨s1.heap.objs.size, [s1.heap.objs.size], _, _, H1, rfl, I1.kept (t' := s1.toks) fun b o e => Heap.get?_push_of_some _ e,
    turn_str (fun A' hA => Walks.strAscii hA _ z t) (fun i h st => by obtain ⟨o, e, c, d⟩ := st; exact ⟨o, e, fun v z => by rw [d] at z; cases z⟩) (fun _ _ _ _ _ st h => wpAny_pyIter_striter_ascii st h),
    ⟨Nat.zero_le _, ⟨_, Heap.get?_push_size _ rfl, rfl, rfl⟩⟩, fp, q⟩
def signs (z : Str) : List W := z.cps.toList.map fun c => W.str ⟨#[c]⟩
def srcOf : W → Option (List W)
 | .lst xs => some xs
 | .tup xs => some xs
 | .str z => some (signs z)
 | _ => none
def runSrc (r : Run) : Src := fun Γ st => (r Γ st).bind fun w st1 => match srcOf w with
 | some xs => .ok xs st1
 | none => .stuck
theorem src_list {K : PySem.W.Frag} {ι : Nat → Addr} {N : Nat} {G : Hp} {a : Addr} {xs : List V} {ws : List W} (h : SqL K G a xs) (t : RelWs K ι N G xs ws) : SrcR K (Itl K a) ws ι N G where
 go := fun i w ι' N' G' H' hw e sm => by
  obtain ⟨v, hv, rv⟩ := (t.mono e).get hw
  have hq : SqL K H' a xs := sm.seq (e.sm.seq h)
  refine ⟨⟨xs, v, hq, hv⟩, fun v' H'' ⟨e1, y⟩ => ⟨e1, ?_⟩⟩
  have := y xs hq
  rw [hv] at this
  cases this
  exact rv
 stop := fun G' H' sm sm' => ⟨xs, sm'.seq (sm.seq h), by rw [t.length]; exact Nat.le_refl _⟩
theorem src_tup {K : PySem.W.Frag} {ι : Nat → Addr} {N : Nat} {G : Hp} {a : Addr} {xs : List V} {ws : List W} (h : SqT K G a xs) (t : RelWs K ι N G xs ws) : SrcR K (Itt K a) ws ι N G where
 go := fun i w ι' N' G' H' hw e sm => by
  obtain ⟨v, hv, rv⟩ := (t.mono e).get hw
  have hq : SqT K H' a xs := sqT_same sm (sqT_same e.sm h)
  refine ⟨⟨xs, v, hq, hv⟩, fun v' H'' ⟨e1, y⟩ => ⟨e1, ?_⟩⟩
  have := y xs hq
  rw [hv] at this
  cases this
  exact rv
 stop := fun G' H' sm sm' => ⟨xs, sqT_same sm' (sqT_same sm h), by rw [t.length]; exact Nat.le_refl _⟩
theorem src_str {K : PySem.W.Frag} {ι : Nat → Addr} {N : Nat} {G : Hp} (z : Str) : SrcR K (Its z) (signs z) ι N G where
 go := fun i w ι' N' G' H' hw e sm => by
  unfold signs at hw
  rw [List.getElem?_map] at hw
  cases hc : z.cps.toList[i]? with
  | none => rw [hc] at hw; cases hw
  | some c =>
   rw [hc] at hw
   cases hw
   have hc' : z.cps[i]? = some c := by simpa using hc
   have hi : i < z.cps.size := (Array.getElem?_eq_some_iff.mp hc').1
   refine ⟨hi, fun v' H'' ⟨e1, c', h1, h2⟩ => ⟨e1, ?_⟩⟩
   rw [hc'] at h1
   cases h1
   rw [h2]
   exact .str _
 stop := fun G' H' sm sm' => by
  show z.cps.size ≤ (signs z).length
  unfold signs
  simp
def rangeW (lo : Int) (n : Nat) : List W := (List.range n).map fun (i : Nat) => W.int (lo + i)
theorem src_range {K : PySem.W.Frag} {ι : Nat → Addr} {N : Nat} {G : Hp} (lo : Int) (n : Nat) : SrcR K (Itr lo n) (rangeW lo n) ι N G where
 go := fun i w ι' N' G' H' hw e sm => by
  unfold rangeW at hw
  rw [List.getElem?_map] at hw
  by_cases hi : i < n
  ·rw [List.getElem?_range hi] at hw
   cases hw
   refine ⟨hi, fun v' H'' ⟨e1, h2⟩ => ⟨e1, ?_⟩⟩
   rw [h2]
   exact .int _
  ·rw [List.getElem?_eq_none (by simp; omega)] at hw; cases hw
 stop := fun G' H' sm sm' => by
  show n ≤ (rangeW lo n).length
  unfold rangeW
  simp
theorem pdi_val {y : Str} {py : Pos} {l : Expr} {r : Run} (h : PD X l r) : PDI X (.Name y py) l (runSrc r) := by
 refine PI.imp (pi_seq h) fun σ H Q hq => ?_
 obtain ⟨ι, G, st, Γ, en, sr, q⟩ := hq
 refine ⟨ι, G, st, Γ, en, sr, ?_⟩
 unfold runSrc at q
 cases e1 : r Γ st with
 | stuck => rw [e1] at q; exact q
 | ex c s => rw [e1] at q; exact q
 | ok w st1 =>
  rw [e1] at q
  intro v ι1 G1 H1 x1 sr1 r1
  have q' : match (match srcOf w with | some xs => R.ok xs st1 | none => R.stuck) with
   | .ok items st' => ∀ J ι' G' H', Ext ι st.nxt G ι' st'.nxt G' → SR X.K ι' st' G' H' → SrcR X.K J items ι' st'.nxt G' → Q J H'
   | .ex c st' => XW X ι st.nxt G c st'
   | .stuck => False := q
  cases r1 with
  | tup s1 t1 => exact .inr (.inl ⟨_, rfl, ⟨_, sqT_same sr1.sub s1⟩, q' _ ι1 G1 H1 x1 sr1 (src_tup s1 t1)⟩)
  | lst s1 t1 => exact .inl ⟨_, rfl, ⟨_, sr1.sub.seq s1⟩, q' _ ι1 G1 H1 x1 sr1 (src_list s1 t1)⟩
  | str z => exact .inr (.inr ⟨z, rfl, q' _ ι1 G1 H1 x1 sr1 (src_str z)⟩)
  | _ => exact q'.elim
def inRange (j : Int) : Prop := -(2 ^ 62) ≤ j ∧ j < 2 ^ 62
instance (j : Int) : Decidable (inRange j) := by unfold inRange; infer_instance
def runRng1 (r : Run) : Src := fun Γ st => (r Γ st).bind fun w st1 => match w with
 | .int j => if inRange j then .ok (rangeW 0 j.toNat) st1 else .stuck
 | _ => .stuck
def runRng2 (r r' : Run) : Src := fun Γ st => (r Γ st).bind fun w st1 => (r' Γ st1).bind fun w' st2 => match w, w' with
 | .int i, .int j => if inRange i ∧ inRange j then .ok (rangeW i (j - i).toNat) st2 else .stuck
 | _, _ => .stuck
theorem pdi_range1 {tg a : Expr} {p pos : Pos} {ra : Run} (hg : Gl X "range") (hm : X.mg "range" = none) (ha : PD X a ra) (hs : starEach [a] X.env = [(false, eval a X.env)]) : PDI X tg (.Call (.Name "range" p) [a] [] pos) (runRng1 ra) := by
 refine PI.imp (pi_range1 hg hm (pda_cons ha pda_nil hs) hs) fun σ H Q hq => ?_
 obtain ⟨ι, G, st, Γ, en, sr, q⟩ := hq
 refine ⟨ι, G, st, Γ, en, sr, ?_⟩
 unfold runRng1 at q
 unfold runsCons runsNil
 cases e1 : ra Γ st with
 | stuck => rw [e1] at q; exact q
 | ex c s => rw [e1] at q; exact q
 | ok w st1 =>
  rw [e1] at q
  intro vs ι1 G1 H1 x1 sr1 r1
  obtain ⟨v, rfl, r2⟩ := rel1 r1
  cases r2 with
  | int j =>
   by_cases hr : inRange j
   ·have q' : match (if inRange j then R.ok (rangeW 0 j.toNat) st1 else R.stuck) with
     | .ok items st' => ∀ J ι' G' H', Ext ι st.nxt G ι' st'.nxt G' → SR X.K ι' st' G' H' → SrcR X.K J items ι' st'.nxt G' → Q J H'
     | .ex c st' => XW X ι st.nxt G c st'
     | .stuck => False := q
    rw [if_pos hr] at q'
    exact ⟨j, rfl, hr.1, hr.2, q' _ ι1 G1 H1 x1 sr1 (src_range 0 _)⟩
   ·have q' : match (if inRange j then R.ok (rangeW 0 j.toNat) st1 else R.stuck) with
     | .ok items st' => ∀ J ι' G' H', Ext ι st.nxt G ι' st'.nxt G' → SR X.K ι' st' G' H' → SrcR X.K J items ι' st'.nxt G' → Q J H'
     | .ex c st' => XW X ι st.nxt G c st'
     | .stuck => False := q
    rw [if_neg hr] at q'
    exact q'.elim
  | _ => exact (show False from q).elim
def R.calm {α : Type} : R α → R α
 | .ok a s => .ok a s
 | _ => .stuck
def wp0 (K : PySem.W.Frag) (ι : Nat → Addr) (N : Nat) (G : Hp) (r : R W) (Q : VK) : Prop := match r with
 | .ok w st' => ∀ v ι' G' H', Ext ι N G ι' st'.nxt G' → SR K ι' st' G' H' → RelW K ι' st'.nxt G' v w → Q v H'
 | _ => False
def tD0 (K : PySem.W.Frag) (run : Run) : TE := fun σ H Q => ∃ ι G st Γ, EnvR K ι st.nxt G σ Γ ∧ SR K ι st G H ∧ wp0 K ι st.nxt G (run Γ st) Q
def tT0 (K : PySem.W.Frag) (run : Run) : TT := fun σ H Q => tD0 K run σ H fun v H' => ∃ b, v = .bl b ∧ Q b H'
theorem tD0_tD {run : Run} {σ : St} {H : Hp} {Q : VK} (h : tD0 X.K run σ H Q) : tD X run σ H Q := by
 obtain ⟨ι, G, st, Γ, en, sr, q⟩ := h
 refine ⟨ι, G, st, Γ, en, sr, ?_⟩
 cases e : run Γ st with
 | ok w st' => rw [e] at q; exact q
 | ex c s => rw [e] at q; exact q.elim
 | stuck => rw [e] at q; exact q
theorem PD.calm {e : Expr} {run : Run} (h : PD X e run) : PE X e (tD0 X.K run) := PE.imp h fun _ _ _ q => tD0_tD q
theorem PT.calm {e : Expr} {run : Run} (h : PT X e (tDT X run)) : PT X e (tT0 X.K run) := PT.imp h fun _ _ _ q => tD0_tD q
def compGo (rt re : Run) (Γc : Ga) : List W → List W → S → R (List W)
 | [], acc, st => .ok acc st
 | x :: xs, acc, st => (rt (some x :: Γc) st).calm.bind fun b st1 => match b with
  | .bl true => (re (some x :: Γc) st1).calm.bind fun y st2 => compGo rt re Γc xs (acc ++ [y]) st2
  | .bl false => compGo rt re Γc xs acc st1
  | _ => .stuck
def capG (cap : List Nat) (Γ : Ga) : Ga := cap.map fun j => (Γ[j]?).getD none
def opL (m : Bool) : OpN := if m then opNewL else opLst
def runComp (m : Bool) (src : Src) (cap : List Nat) (rt re : Run) : Run := fun Γ st => (src Γ st).bind fun items st1 => if items.length < sizeLine then (compGo rt re (capG cap Γ) items [] st1).bind (opL m) else .stuck
theorem cap_env {K : PySem.W.Frag} {ι : Nat → Addr} {N : Nat} {G : Hp} {σ : St} {Γ : Ga} {v : V} {w : W} (cap : List Nat) (en : EnvR K ι N G σ Γ) (r : RelW K ι N G v w) : EnvR K ι N G (capS cap σ (some v)) (some w :: capG cap Γ) := by
 refine ⟨by unfold capS capG; simp, fun i u h => ?_⟩
 cases i with
 | zero =>
  have h' : some (some w) = some (some u) := by simpa using h
  cases h'
  exact ⟨v, by unfold capS; simp, r⟩
 | succ i =>
  have h' : (capG cap Γ)[i]? = some (some u) := by simpa using h
  unfold capG at h'
  rw [List.getElem?_map] at h'
  cases hj : cap[i]? with
  | none => rw [hj] at h'; cases h'
  | some j =>
   rw [hj] at h'
   have h2 : (Γ[j]?).getD none = some u := Option.some.inj h'
   cases hg : Γ[j]? with
   | none => rw [hg] at h2; cases h2
   | some o =>
    rw [hg] at h2
    have h3 : o = some u := h2
    subst h3
    obtain ⟨z, h4, h5⟩ := en.get j u hg
    refine ⟨z, ?_, h5⟩
    unfold capS
    rw [List.getElem?_cons_succ, List.getElem?_map, hj]
    show some ((σ[j]?).getD none) = some (some z)
    rw [h4]; rfl
def wpL (X : Cx) (m : Bool) (ι : Nat → Addr) (N : Nat) (G : Hp) (r : R (List W)) (Q : VK) : Prop := match r with
 | .ok ys st => wpW X ι N G (opL m ys st) Q
 | .ex c st => XW X ι N G c st
 | .stuck => False
theorem wpL_bind {m : Bool} {ι : Nat → Addr} {N : Nat} {G : Hp} {r : R (List W)} {Q : VK} (h : wpW X ι N G (r.bind (opL m)) Q) : wpL X m ι N G r Q := by
 cases r <;> exact h
theorem wpL.later {m : Bool} {ι ι1 : Nat → Addr} {N N1 : Nat} {G G1 : Hp} {r : R (List W)} {Q : VK} (e : Ext ι N G ι1 N1 G1) (h : wpL X m ι N G r Q) : wpL X m ι1 N1 G1 r Q := by
 cases r with
 | stuck => exact h
 | ex c s => exact XW.mono e h
 | ok w st' => exact wpW.later e h
theorem wpL_step {m : Bool} {ι : Nat → Addr} {N : Nat} {G : Hp} {r : R W} {f : W → S → R (List W)} {Q : VK} {Q' : VK} {K : PySem.W.Frag} (hK : K = X.K) (h : wpL X m ι N G (r.calm.bind f) Q)
  (k : ∀ w st' v ι' G' H', Ext ι N G ι' st'.nxt G' → SR X.K ι' st' G' H' → RelW X.K ι' st'.nxt G' v w → wpL X m ι' st'.nxt G' (f w st') Q → Q' v H') : wp0 K ι N G r Q' := by
 subst hK
 cases r with
 | stuck => exact h
 | ex c s => exact (show False from h).elim
 | ok w st' => exact fun v ι' G' H' e sr rel => k w st' v ι' G' H' e sr rel (wpL.later e (show wpL X m ι N G (f w st') Q from h))
theorem pd_comp {scope : Scope} {x : Str} {px pos : Pos} {cl : List (Str × Addr)} {N : List Str} {cap : List Nat} {elt iter : Expr} {ifs : List Expr} {src : Src} {rt re : Run} {m : Bool} (hc : X.calm = true) (hi : PDI X (.Name x px) iter src) (Sc : CompSc X scope x cl N cap)
  (ht : ∀ C s H ex, PTs (cxComp X scope cl C N s H ex) ifs (tT0 X.K rt)) (he : ∀ C s H ex, PE (cxComp X scope cl C N s H ex) elt (tD0 X.K re)) (hs : ∀ z, foldedSetIterable iter X.env z = pure z) :
  PD X (.ListComp elt [⟨.Name x px, iter, ifs, 0⟩] scope pos) (runComp m src cap rt re) ∧
  (∀ {i : Nat} {y : Str} {py spos : Pos}, X.N.Nodup → X.N[i]? = some y → X.env.scope.names.lookup y = some .local → swapsWith (.ListComp elt [⟨.Name x px, iter, ifs, 0⟩] scope pos) (some (.Name y py)) spos.line X.env = pure true →
   PS X (.Assign [.Name y py] (.ListComp elt [⟨.Name x px, iter, ifs, 0⟩] scope pos) spos) (tAsg (tD X (runComp m src cap rt re)) (gName i))) := by
 have key : ∀ σ H Q, tD X (runComp m src cap rt re) σ H Q → tComp (tDI X src) cap (tT0 X.K rt) (tD0 X.K re) σ H Q := by
  intro σ H Q h
  obtain ⟨ι, G, st, Γ, en, sr, q⟩ := h
  refine ⟨ι, G, st, Γ, en, sr, ?_⟩
  unfold runComp at q
  cases e1 : src Γ st with
  | stuck => rw [e1] at q; exact q
  | ex c s => rw [e1] at q; exact q
  | ok items st1 =>
   rw [e1] at q
   intro J ι1 G1 H1 x1 sr1 sc
   have q' : wpW X ι st.nxt G (if items.length < sizeLine then (compGo rt re (capG cap Γ) items [] st1).bind (opL m) else .stuck) Q := q
   by_cases hl : items.length < sizeLine
   ·rw [if_pos hl] at q'
    have q1 := wpL.later x1 (wpL_bind q')
    have en1 := en.mono x1
    refine ⟨fun i k ys H' => k = items.length - i ∧ i ≤ items.length ∧ ys.length ≤ i ∧ ∃ ι2 G2 st2 acc, Ext ι1 st1.nxt G1 ι2 st2.nxt G2 ∧ SR X.K ι2 st2 G2 H' ∧ RelWs X.K ι2 st2.nxt G2 ys acc ∧ wpL X m ι2 st2.nxt G2 (compGo rt re (capG cap Γ) (items.drop i) acc st2) Q,
     ⟨items.length, by simp, Nat.zero_le _, Nat.zero_le _, ι1, G1, st1, [], Ext.refl _ _ _, sr1, .nil, by rw [List.drop_zero]; exact q1⟩, ?_⟩
    rintro i k ys H' ⟨rfl, hi', hy, ι2, G2, st2, acc, e2, sr2, ra, q2⟩
    refine ⟨by omega, ?_⟩
    by_cases hlt : i < items.length
    ·have hd : items.drop i = items[i] :: items.drop (i + 1) := List.drop_eq_getElem_cons hlt
     have hg : items[i]? = some items[i] := List.getElem?_eq_getElem hlt
     obtain ⟨g1, g2⟩ := sc.go i items[i] ι2 st2.nxt G2 H' hg e2 sr2.sub
     refine .inr ⟨g1, fun v H'' hy' => ?_⟩
     obtain ⟨eh, rv⟩ := g2 v H'' hy'
     subst eh
     rw [hd] at q2
     have q2' : wpL X m ι2 st2.nxt G2 ((rt (some items[i] :: capG cap Γ) st2).calm.bind fun b st3 => match b with
      | .bl true => (re (some items[i] :: capG cap Γ) st3).calm.bind fun y st4 => compGo rt re (capG cap Γ) (items.drop (i + 1)) (acc ++ [y]) st4
      | .bl false => compGo rt re (capG cap Γ) (items.drop (i + 1)) acc st3
      | _ => .stuck) Q := q2
     have en2 : EnvR X.K ι2 st2.nxt G2 (capS cap σ (some v)) (some items[i] :: capG cap Γ) := cap_env cap (en1.mono e2) rv
     refine ⟨ι2, G2, st2, some items[i] :: capG cap Γ, en2, sr2, wpL_step rfl q2' fun b st3 vb ι3 G3 H3 e3 sr3 rb q3 => ?_⟩
     cases b with
     | bl b =>
      cases rb
      refine ⟨b, rfl, ?_⟩
      cases b with
      | true =>
       rw [if_pos rfl]
       refine ⟨ι3, G3, st3, some items[i] :: capG cap Γ, en2.mono e3, sr3, wpL_step rfl q3 fun y st4 vy ι4 G4 H4 e4 sr4 ry q4 => ?_⟩
       refine ⟨items.length - (i + 1), by omega, rfl, hlt, by rw [List.length_append, List.length_singleton]; omega, ι4, G4, st4, acc ++ [y], (e2.trans e3).trans e4, sr4, ((ra.mono e3).mono e4).append (.cons ry .nil), q4⟩
      | false =>
       rw [if_neg Bool.false_ne_true]
       exact ⟨items.length - (i + 1), by omega, rfl, hlt, by omega, ι3, G3, st3, acc, e2.trans e3, sr3, ra.mono e3, q3⟩
     | _ => exact (show False from q3).elim
    ·have ei : i = items.length := by omega
     subst ei
     rw [List.drop_length] at q2
     refine .inl ⟨sc.stop G2 H' e2.sm sr2.sub, ?_⟩
     have q3 : wpW X ι2 st2.nxt G2 (opL m acc st2) Q := q2
     cases m with
     | true => exact (newL_laid sr2 ra q3).2
     | false => exact (lst_laid sr2 ra q3).2
   ·rw [if_neg hl] at q'; exact (show False from q').elim
 refine ⟨PE.imp (pe_comp hc hi Sc ht he hs) key, fun {i y py spos} hN hy hL hsw => ?_⟩
 exact PS.imp (ps_setComp hN hy hL hc hi Sc ht he hsw hs) fun D σ H h => key σ H _ h
def SpD (K : PySem.W.Frag) (n : Nat) (op : OpN) : Sp := fun vs H Q _ => vs.length = n ∧ ∃ ι G st ws, SR K ι st G H ∧ RelWs K ι st.nxt G vs ws ∧ wp0 K ι st.nxt G (op ws st) Q
def calmOp (op : OpN) : OpN := fun ws st => (op ws st).calm
theorem wp0_calm {ι : Nat → Addr} {N : Nat} {G : Hp} {r : R W} {Q : VK} (h : wpW X ι N G r.calm Q) : wp0 X.K ι N G r Q := by
 cases r with
 | ok w st => exact h
 | ex c s => exact (show False from h).elim
 | stuck => exact h
theorem pd_call {k n : Nat} {f : Addr} {fd : FuncData} {ps : List Str} {op : OpN} {x : Str} {p pos : Pos} {e : Expr} {es : List Expr} {rr : Runs} (F : FnOk X.prog X.w X.K X.mg X.base CX0 k f fd ps (SpD X.K n op)) (hr : Room k X.A) (hg : Gl X x) (hm : X.mg x = some (.ref f)) (hk : PySem.W.keepIn X.K (.ref f) = true)
  (hb : Binds X.K fd ps []) (ha : PDA X (e :: es) rr) (hn : ∀ Γ st ws st', rr Γ st = .ok ws st' → ws.length = n) (hdb : (x == ("__debug__" : Str)) = false) (he : starEach (e :: es) X.env = (false, eval e X.env) :: starEach es X.env) (hpl : (backTo pos (starEach es X.env)).any (·.1) = false) :
  PD X (.Call (.Name x p) (e :: es) [] pos) (runN rr (calmOp op)) := by
 refine PE.imp (pe_call F hr hg hm hk hb .nil pass0 ha hdb he hpl) fun σ H Q h => ?_
 obtain ⟨ι, G, st, Γ, en, sr, q⟩ := h
 refine ⟨ι, G, st, Γ, en, sr, ?_⟩
 unfold runN at q
 cases e1 : rr Γ st with
 | stuck => rw [e1] at q; exact q
 | ex c s => rw [e1] at q; exact q
 | ok ws st1 =>
  rw [e1] at q
  intro vs ι1 G1 H1 x1 sr1 r1
  rw [List.append_nil]
  exact ⟨by rw [r1.length]; exact hn Γ st ws st1 e1, ι1, G1, st1, ws, sr1, r1, wp0_calm (wpW.later x1 (show wpW X ι st.nxt G (calmOp op ws st1) Q from q))⟩
end
end DL
namespace DL
open PySem PySem.Spec PyProof.Rows L2
inductive Fl where
 | nx (Γ : Ga) | rt (w : W) | bk (Γ : Ga) | ct (Γ : Ga)
abbrev RunS := Ga → S → R Fl
section
variable {X : Cx}
def wpF (X : Cx) (ι : Nat → Addr) (N : Nat) (G : Hp) (r : R Fl) (D : Ends) : Prop := match r with
 | .ok fl st' => ∀ ι' G' H', Ext ι N G ι' st'.nxt G' → SR X.K ι' st' G' H' → (match fl with
  | .nx Γ' => ∀ σ', EnvR X.K ι' st'.nxt G' σ' Γ' → D.nx σ' H'
  | .rt w => ∀ v, RelW X.K ι' st'.nxt G' v w → D.rt v H'
  | .bk Γ' => ∀ σ', EnvR X.K ι' st'.nxt G' σ' Γ' → D.bk σ' H'
  | .ct Γ' => ∀ σ', EnvR X.K ι' st'.nxt G' σ' Γ' → D.ct σ' H')
 | .ex c st' => XW X ι N G c st'
 | .stuck => False
theorem wpF.later {ι ι1 : Nat → Addr} {N N1 : Nat} {G G1 : Hp} {r : R Fl} {D : Ends} (e : Ext ι N G ι1 N1 G1) (h : wpF X ι N G r D) : wpF X ι1 N1 G1 r D := by
 cases r with
 | stuck => exact h
 | ex c s => exact XW.mono e h
 | ok w st' => exact fun ι' G' H' e' sr => h ι' G' H' (e.trans e') sr
theorem wpF_bind {ι : Nat → Addr} {N : Nat} {G : Hp} {r : R W} {f : W → S → R Fl} {D : Ends} {Q' : VK} (h : wpF X ι N G (r.bind f) D)
  (k : ∀ w st' v ι' G' H', Ext ι N G ι' st'.nxt G' → SR X.K ι' st' G' H' → RelW X.K ι' st'.nxt G' v w → wpF X ι' st'.nxt G' (f w st') D → Q' v H') : wpW X ι N G r Q' := by
 cases r with
 | stuck => exact h
 | ex c s => exact h
 | ok w st' => exact fun v ι' G' H' e sr rel => k w st' v ι' G' H' e sr rel (wpF.later e (show wpF X ι N G (f w st') D from h))
def tDS (X : Cx) (run : RunS) : TS := fun D σ H => ∃ ι G st Γ, EnvR X.K ι st.nxt G σ Γ ∧ SR X.K ι st G H ∧ wpF X ι st.nxt G (run Γ st) D
abbrev PDS (X : Cx) (s : Stmt) (run : RunS) : Prop := PS X s (tDS X run)
abbrev PDSs (X : Cx) (s : List Stmt) (run : RunS) : Prop := PSs X s (tDS X run)
def sPass : RunS := fun Γ st => .ok (.nx Γ) st
def sBrk : RunS := fun Γ st => .ok (.bk Γ) st
def sCnt : RunS := fun Γ st => .ok (.ct Γ) st
def sRetN : RunS := fun _ st => .ok (.rt .non) st
def sRet (r : Run) : RunS := fun Γ st => (r Γ st).bind fun w st' => .ok (.rt w) st'
def sDrop (r : Run) : RunS := fun Γ st => (r Γ st).bind fun _ st' => .ok (.nx Γ) st'
def sSet (i : Nat) (r : Run) : RunS := fun Γ st => (r Γ st).bind fun w st' => .ok (.nx (Γ.set i (some w))) st'
def sIf (rc : Run) (a b : RunS) : RunS := fun Γ st => (rc Γ st).bind fun w st' => match w with
 | .bl true => a Γ st'
 | .bl false => b Γ st'
 | _ => .stuck
def sSeq (a b : RunS) : RunS := fun Γ st => (a Γ st).bind fun fl st' => match fl with
 | .nx Γ' => b Γ' st'
 | fl => .ok fl st'
theorem pds_pass {pos : Pos} : PDS X (.Pass pos) sPass := PS.imp ps_pass fun D σ H ⟨ι, G, _, _, en, sr, q⟩ => q ι G H (Ext.refl _ _ _) sr σ en
theorem pds_brk {pos : Pos} : PDS X (.Break pos) sBrk := PS.imp ps_break fun D σ H ⟨ι, G, _, _, en, sr, q⟩ => q ι G H (Ext.refl _ _ _) sr σ en
theorem pds_cnt {pos : Pos} : PDS X (.Continue pos) sCnt := PS.imp ps_continue fun D σ H ⟨ι, G, _, _, en, sr, q⟩ => q ι G H (Ext.refl _ _ _) sr σ en
theorem pds_retN {pos : Pos} : PDS X (.Return none pos) sRetN := PS.imp ps_retN fun D σ H ⟨ι, G, _, _, en, sr, q⟩ => q ι G H (Ext.refl _ _ _) sr .non .non
theorem pds_ret {e : Expr} {pos : Pos} {r : Run} (he : PD X e r) : PDS X (.Return (some e) pos) (sRet r) := by
 refine PS.imp (ps_ret he) fun D σ H ⟨ι, G, st, Γ, en, sr, q⟩ => ⟨ι, G, st, Γ, en, sr, wpF_bind q fun w st1 v ι1 G1 H1 e1 sr1 r1 q1 => ?_⟩
 exact q1 ι1 G1 H1 (Ext.refl _ _ _) sr1 v r1
theorem pds_drop {e : Expr} {pos : Pos} {r : Run} (he : PD X e r) (hs : swapsWith e none pos.line X.env = pure false) : PDS X (.Expr e pos) (sDrop r) := by
 refine PS.imp (ps_expr he hs) fun D σ H ⟨ι, G, st, Γ, en, sr, q⟩ => ⟨ι, G, st, Γ, en, sr, wpF_bind q fun w st1 v ι1 G1 H1 e1 sr1 r1 q1 => ?_⟩
 exact q1 ι1 G1 H1 (Ext.refl _ _ _) sr1 σ (en.mono e1)
theorem asg_set {r : Run} {i : Nat} {D : Ends} {σ : St} {H : Hp} (h : tDS X (sSet i r) D σ H) : tAsg (tD X r) (gName i) D σ H := by
 obtain ⟨ι, G, st, Γ, en, sr, q⟩ := h
 refine ⟨ι, G, st, Γ, en, sr, wpF_bind q fun w st1 v ι1 G1 H1 e1 sr1 r1 q1 => ?_⟩
 exact q1 ι1 G1 H1 (Ext.refl _ _ _) sr1 _ ((en.mono e1).set i r1)
theorem pds_set {i : Nat} {x : Str} {e : Expr} {pos pos' : Pos} {r : Run} (hN : X.N.Nodup) (hi : X.N[i]? = some x) (hx : Loc X.env.scope x) (he : PD X e r) (hs : swapsWith e (some (.Name x pos')) pos.line X.env = pure false) (hf : X.fn x = true ∨ X.env.scope.names.lookup x = some .local) :
  PDS X (.Assign [.Name x pos'] e pos) (sSet i r) := PS.imp (ps_set hN hi hx he hs hf) fun D σ H h => asg_set h
theorem pds_if {c : Expr} {a b : List Stmt} {pos : Pos} {rc : Run} {ra rb : RunS} (hc : PT X c (tDT X rc)) (ha : PDSs X a ra) (hb : PDSs X b rb) : PDS X (.If c a b pos) (sIf rc ra rb) := by
 refine PS.imp (ps_if hc ha hb) fun D σ H ⟨ι, G, st, Γ, en, sr, q⟩ => ⟨ι, G, st, Γ, en, sr, wpF_bind q fun w st1 v ι1 G1 H1 e1 sr1 r1 q1 => ?_⟩
 cases w with
 | bl b =>
  cases r1
  refine ⟨b, rfl, ?_⟩
  cases b with
  | true => rw [if_pos rfl]; exact ⟨ι1, G1, st1, Γ, en.mono e1, sr1, q1⟩
  | false => rw [if_neg Bool.false_ne_true]; exact ⟨ι1, G1, st1, Γ, en.mono e1, sr1, q1⟩
 | _ => exact (show False from q1).elim
theorem pdss_nil : PDSs X [] sPass := PSs.imp pss_nil fun D σ H ⟨ι, G, _, _, en, sr, q⟩ => q ι G H (Ext.refl _ _ _) sr σ en
theorem pdss_cons {s : Stmt} {ss : List Stmt} {a b : RunS} (h1 : PDS X s a) (h2 : PDSs X ss b) : PDSs X (s :: ss) (sSeq a b) := by
 refine PSs.imp (pss_cons h1 h2) fun D σ H ⟨ι, G, st, Γ, en, sr, q⟩ => ⟨ι, G, st, Γ, en, sr, ?_⟩
 unfold sSeq at q
 cases e1 : a Γ st with
 | stuck => rw [e1] at q; exact q
 | ex c s => rw [e1] at q; exact q
 | ok fl st1 =>
  rw [e1] at q
  intro ι1 G1 H1 x1 sr1
  cases fl with
  | nx Γ1 => exact fun σ1 en1 => ⟨ι1, G1, st1, Γ1, en1, sr1, wpF.later x1 (show wpF X ι st.nxt G (b Γ1 st1) D from q)⟩
  | rt w => exact q ι1 G1 H1 x1 sr1
  | bk Γ1 => exact q ι1 G1 H1 x1 sr1
  | ct Γ1 => exact q ι1 G1 H1 x1 sr1
def loopS (i : Nat) (body : RunS) : List W → Ga → S → R Fl
 | [], Γ, st => .ok (.nx Γ) st
 | x :: xs, Γ, st => (body (Γ.set i (some x)) st).bind fun fl st' => match fl with
  | .nx Γ' => loopS i body xs Γ' st'
  | .ct Γ' => loopS i body xs Γ' st'
  | .bk Γ' => .ok (.nx Γ') st'
  | .rt w => .ok (.rt w) st'
def sFor (i : Nat) (src : Src) (body : RunS) : RunS := fun Γ st => (src Γ st).bind fun items st' => loopS i body items Γ st'
theorem pds_for {i : Nat} {x : Str} {px pos : Pos} {iter : Expr} {body : List Stmt} {src : Src} {rb : RunS} (hp : PassesOwn (model X.prog X.w) X.A X.env X.xe) (hc : X.calm = true) (hi : PDI X (.Name x px) iter src) (hg : PG X (.Name x px) (gName i)) (hb : PDSs X body rb) (hs : ∀ z, foldedSetIterable iter X.env z = pure z) :
  PDS X (.For (.Name x px) iter body [] pos) (sFor i src rb) := by
 refine PS.imp (ps_for hp hc hi hg hb hs) fun D σ H ⟨ι, G, st, Γ, en, sr, q⟩ => ⟨ι, G, st, Γ, en, sr, ?_⟩
 unfold sFor at q
 cases e1 : src Γ st with
 | stuck => rw [e1] at q; exact q
 | ex c s => rw [e1] at q; exact q
 | ok items st1 =>
  rw [e1] at q
  intro J ι1 G1 H1 x1 sr1 sc
  have q1 : wpF X ι1 st1.nxt G1 (loopS i rb items Γ st1) D := wpF.later x1 (show wpF X ι st.nxt G (loopS i rb items Γ st1) D from q)
  refine ⟨fun k m σ' H' => m = items.length - k ∧ k ≤ items.length ∧ ∃ ι2 G2 st2 Γ2, Ext ι1 st1.nxt G1 ι2 st2.nxt G2 ∧ SR X.K ι2 st2 G2 H' ∧ EnvR X.K ι2 st2.nxt G2 σ' Γ2 ∧ wpF X ι2 st2.nxt G2 (loopS i rb (items.drop k) Γ2 st2) D,
   ⟨items.length, by simp, Nat.zero_le _, ι1, G1, st1, Γ, Ext.refl _ _ _, sr1, en.mono x1, by rw [List.drop_zero]; exact q1⟩, ?_⟩
  rintro k m σ' H' ⟨rfl, hk, ι2, G2, st2, Γ2, e2, sr2, en2, q2⟩
  by_cases hlt : k < items.length
  ·have hd : items.drop k = items[k] :: items.drop (k + 1) := List.drop_eq_getElem_cons hlt
   have hg' : items[k]? = some items[k] := List.getElem?_eq_getElem hlt
   obtain ⟨g1, g2⟩ := sc.go k items[k] ι2 st2.nxt G2 H' hg' e2 sr2.sub
   rw [hd] at q2
   refine .inr ⟨g1, fun σ3 H3 => ∃ ι3 G3 st3 Γ3, Ext ι1 st1.nxt G1 ι3 st3.nxt G3 ∧ SR X.K ι3 st3 G3 H3 ∧ EnvR X.K ι3 st3.nxt G3 σ3 Γ3 ∧ wpF X ι3 st3.nxt G3 (loopS i rb (items.drop (k + 1)) Γ3 st3) D,
    fun σ3 H3 h3 => ⟨items.length - (k + 1), by omega, rfl, hlt, h3⟩, fun v H'' hy => ?_⟩
   obtain ⟨eh, rv⟩ := g2 v H'' hy
   subst eh
   refine ⟨ι2, G2, st2, Γ2.set i (some items[k]), en2.set i rv, sr2, ?_⟩
   have q2' : wpF X ι2 st2.nxt G2 ((rb (Γ2.set i (some items[k])) st2).bind fun fl st' => match fl with
    | .nx Γ' => loopS i rb (items.drop (k + 1)) Γ' st'
    | .ct Γ' => loopS i rb (items.drop (k + 1)) Γ' st'
    | .bk Γ' => .ok (.nx Γ') st'
    | .rt w => .ok (.rt w) st') D := q2
   cases e3 : rb (Γ2.set i (some items[k])) st2 with
   | stuck => rw [e3] at q2'; exact q2'
   | ex c s => rw [e3] at q2'; exact q2'
   | ok fl st3 =>
    rw [e3] at q2'
    intro ι3 G3 H3 x3 sr3
    cases fl with
    | nx Γ3 => exact fun σ3 en3 => ⟨ι3, G3, st3, Γ3, e2.trans x3, sr3, en3, wpF.later x3 q2'⟩
    | ct Γ3 => exact fun σ3 en3 => ⟨ι3, G3, st3, Γ3, e2.trans x3, sr3, en3, wpF.later x3 q2'⟩
    | bk Γ3 => exact q2' ι3 G3 H3 x3 sr3
    | rt w => exact q2' ι3 G3 H3 x3 sr3
  ·have ek : k = items.length := by omega
   subst ek
   rw [List.drop_length] at q2
   exact .inl ⟨sc.stop G2 H' e2.sm sr2.sub, q2 ι2 G2 H' (Ext.refl _ _ _) sr2 σ' en2⟩
def putAt (n : Nat) (k : Int) (v : W) (st : S) : Option MO → R Unit
 | some (.lst ws) => (match ixN ws.length k with | some j => .ok () (st.put n (.lst (ws.set j v))) | none => .stuck)
 | _ => .stuck
def opSetIx0 : W → W → W → S → R Unit := fun o i v st => match o, i with
 | .ref n, .int k => putAt n k v st (st.mu n)
 | _, _ => .stuck
def sSetIx0 (ro ri rv : Run) : RunS := fun Γ st => (rv Γ st).bind fun v st1 => (ro Γ st1).bind fun o st2 => (ri Γ st2).bind fun i st3 => (opSetIx0 o i v st3).bind fun _ st4 => .ok (.nx Γ) st4
theorem pds_setIx0 {o i e : Expr} {pos tpos : Pos} {ro ri rv : Run} (ho : PD X o ro) (hi : PD X i ri) (he : PD X e rv) (hg : ∀ {t : TSet}, PSet X t → PG X (.Subscript o i tpos) (gSub (tD X ro) (tD X ri) t)) (hs : swapsWithSole [.Subscript o i tpos] e pos.line X.env = pure false) (hw : swappedStores [.Subscript o i tpos] e X.env = pure none) :
  PDS X (.Assign [.Subscript o i tpos] e pos) (sSetIx0 ro ri rv) := by
 refine PS.imp (ps_asg he (hg set_list) hs hw) fun D σ H ⟨ι, G, st, Γ, en, sr, q⟩ => ⟨ι, G, st, Γ, en, sr, wpF_bind q fun w st1 v ι1 G1 H1 e1 sr1 r1 q1 => ?_⟩
 refine ⟨ι1, G1, st1, Γ, en.mono e1, sr1, wpF_bind q1 fun wo st2 vo ι2 G2 H2 e2 sr2 r2 q2 => ?_⟩
 refine ⟨ι2, G2, st2, Γ, (en.mono e1).mono e2, sr2, wpF_bind q2 fun wi st3 vi ι3 G3 H3 e3 sr3 r3 q3 => ?_⟩
 have r1' := (r1.mono e2).mono e3
 have r2' := r2.mono e3
 cases wo with
 | ref n =>
  cases wi with
  | int k =>
   cases r3
   cases r2'
   have q3 : wpF X ι3 st3.nxt G3 ((putAt n k w st3 (st3.mu n)).bind fun x st4 => .ok (.nx Γ) st4) D := q3
   cases em : st3.mu n with
   | none => rw [em] at q3; exact (show False from q3).elim
   | some ob =>
    cases ob with
    | dct ks vs => rw [em] at q3; exact (show False from q3).elim
    | lst ws =>
     rw [em] at q3
     have q3 : wpF X ι3 st3.nxt G3 ((match ixN ws.length k with | some j => R.ok () (st3.put n (.lst (ws.set j w))) | none => R.stuck).bind fun x st4 => .ok (.nx Γ) st4) D := q3
     cases ej : ixN ws.length k with
     | none => rw [ej] at q3; exact (show False from q3).elim
     | some j =>
      rw [ej] at q3
      obtain ⟨_, _, xs, hx, rx⟩ := sr3.live n _ em
      refine ⟨_, xs, k, j, rfl, rfl, hx, by rw [rx.length]; exact ej, ?_⟩
      have sr4 := sr3.putL em (rx.set r1' j)
      exact q3 ι3 G3 _ (Ext.refl _ _ _) sr4 σ (((en.mono e1).mono e2).mono e3)
  | _ => exact (show False from q3).elim
 | _ => exact (show False from q3).elim
def frzs (f : W → Option W) : List W → Option (List W)
 | [] => some []
 | x :: xs => match f x, frzs f xs with
  | some y, some ys => some (y :: ys)
  | _, _ => none
def frz (N : Nat) (mu : Nat → Option MO) : Nat → W → Option W
 | 0, _ => none
 | k + 1, w => match w with
  | .ref n => if n < N then some (.ref n) else (match mu n with
   | some (.lst xs) => (frzs (frz N mu k) xs).map W.lst
   | some (.dct ks xs) => (frzs (frz N mu k) xs).map (W.dct ks)
   | none => none)
  | .tup xs => (frzs (frz N mu k) xs).map W.tup
  | .lst xs => (frzs (frz N mu k) xs).map W.lst
  | .dct ks xs => (frzs (frz N mu k) xs).map (W.dct ks)
  | w => some w
section
variable {K : PySem.W.Frag} {ι ι' : Nat → Addr} {N N' : Nat} {G G' : Hp}
theorem RelW.low {v0 : V} {w : W} (h : RelW K ι N G v0 w) : ∀ v, RelW K ι' N' G' v w → RelW K ι' N G' v w := by
 refine RelW.rec (motive_1 := fun _ w _ => ∀ v, RelW K ι' N' G' v w → RelW K ι' N G' v w) (motive_2 := fun _ ws _ => ∀ vs, RelWs K ι' N' G' vs ws → RelWs K ι' N G' vs ws) ?_ ?_ ?_ ?_ ?_ ?_ ?_ ?_ ?_ ?_ ?_ ?_ h
 ·intro v r; cases r; exact .non
 ·intro b v r; cases r; exact .bl b
 ·intro i v r; cases r; exact .int i
 ·intro x v r; cases r; exact .str x
 ·intro n v r; cases r; exact .ty n
 ·intro a xs ws _ _ ih v r; cases r with | tup s t => exact .tup s (ih _ t)
 ·intro a xs ws _ _ ih v r; cases r with | lst s t => exact .lst s (ih _ t)
 ·intro a xs ks ws _ _ _ ih v r; cases r with | dct s l t => exact .dct s l (ih _ t)
 ·intro n hn v r; cases r; exact .ref hn
 ·intro a C x _ _ v r; cases r with | exn s n => exact .exn s n
 ·intro vs r; cases r; exact .nil
 ·intro x w xs ws _ _ i1 i2 vs r; cases r with | cons r t => exact .cons (i1 _ r) (i2 _ t)
theorem RelWs.low : ∀ {vs0 : List V} {ws : List W} {vs : List V}, RelWs K ι N G vs0 ws → RelWs K ι' N' G' vs ws → RelWs K ι' N G' vs ws
 | _, _, _, .nil, .nil => .nil
 | _, _, _, .cons r0 t0, .cons r t => .cons (r0.low _ r) (RelWs.low t0 t)
theorem frzs_rel {f : W → Option W} (hf : ∀ v w w', RelW K ι N' G v w → f w = some w' → RelW K ι N G' v w') : ∀ {vs : List V} {ws ws' : List W}, RelWs K ι N' G vs ws → frzs f ws = some ws' → RelWs K ι N G' vs ws'
 | _, _, _, .nil, h => by cases h; exact .nil
 | _, w :: ws, ws', .cons r t, h => by
  unfold frzs at h
  cases e1 : f w with
  | none => rw [e1] at h; cases h
  | some y =>
   cases e2 : frzs f ws with
   | none => rw [e1, e2] at h; cases h
   | some ys =>
    rw [e1, e2] at h
    cases h
    exact .cons (hf _ _ _ r e1) (frzs_rel hf t e2)
theorem frz_rel {mu : Nat → Option MO} (sm : Same G G') (hmu : ∀ n o, N ≤ n → mu n = some o → MOR K ι N' G G' (ι n) o) : ∀ (k : Nat) (v : V) (w w' : W), RelW K ι N' G v w → frz N mu k w = some w' → RelW K ι N G' v w'
 | 0, _, _, _, _, h => by cases h
 | k + 1, v, w, w', r, h => by
  have ih := frz_rel sm hmu k
  unfold frz at h
  cases r with
  | non => cases h; exact .non
  | bl b => cases h; exact .bl b
  | int i => cases h; exact .int i
  | str x => cases h; exact .str x
  | ty n => cases h; exact .ty n
  | exn s n => cases h; exact .exn (sm _ _ s) n
  | @tup a xs ws s t =>
   have h : (frzs (frz N mu k) ws).map W.tup = some w' := h
   cases e : frzs (frz N mu k) ws with
   | none => rw [e] at h; cases h
   | some ys => rw [e] at h; cases h; exact .tup (sqT_same sm s) (frzs_rel ih t e)
  | @lst a xs ws s t =>
   have h : (frzs (frz N mu k) ws).map W.lst = some w' := h
   cases e : frzs (frz N mu k) ws with
   | none => rw [e] at h; cases h
   | some ys => rw [e] at h; cases h; exact .lst (sm.seq s) (frzs_rel ih t e)
  | @dct a xs ks ws s l t =>
   have h : (frzs (frz N mu k) ws).map (W.dct ks) = some w' := h
   cases e : frzs (frz N mu k) ws with
   | none => rw [e] at h; cases h
   | some ys => rw [e] at h; cases h; exact .dct (sm _ _ s) l (frzs_rel ih t e)
  | @ref n hn =>
   have h : (if n < N then some (W.ref n) else (match mu n with
    | some (.lst xs) => (frzs (frz N mu k) xs).map W.lst
    | some (.dct ks xs) => (frzs (frz N mu k) xs).map (W.dct ks)
    | none => none)) = some w' := h
   by_cases hl : n < N
   ·rw [if_pos hl] at h; cases h; exact .ref hl
   ·rw [if_neg hl] at h
    cases em : mu n with
    | none => rw [em] at h; cases h
    | some o =>
     rw [em] at h
     have m := hmu n o (Nat.le_of_not_lt hl) em
     cases o with
     | lst ws =>
      obtain ⟨xs, h1, t⟩ := m
      have h : (frzs (frz N mu k) ws).map W.lst = some w' := h
      cases e : frzs (frz N mu k) ws with
      | none => rw [e] at h; cases h
      | some ys => rw [e] at h; cases h; exact .lst (SqL.of h1) (frzs_rel ih t e)
     | dct ks ws =>
      obtain ⟨xs, h1, l, t⟩ := m
      have h : (frzs (frz N mu k) ws).map (W.dct ks) = some w' := h
      cases e : frzs (frz N mu k) ws with
      | none => rw [e] at h; cases h
      | some ys => rw [e] at h; cases h; exact .dct h1 l (frzs_rel ih t e)
end
theorem SR.kept {K : PySem.W.Frag} {ι ι' : Nat → Addr} {st st' : S} {G G' H H' : Hp} (sr0 : SR K ι st G H) (e : Ext ι st.nxt G ι' st'.nxt G') (sr1 : SR K ι' st' G' H') (hs : ∀ n, n < st.nxt → st'.mu n = st.mu n) :
  ∃ G'', Ext ι st.nxt G ι' st.nxt G'' ∧ SR K ι' st G'' H' ∧ (∀ (k : Nat) (v : V) (w w' : W), RelW K ι' st'.nxt G' v w → frz st.nxt st'.mu k w = some w' → RelW K ι' st.nxt G'' v w') ∧
   ∀ a, (¬ ∃ n o, st.nxt ≤ n ∧ st'.mu n = some o ∧ ι' n = a) → G'' a = G' a := by
 have hold : ∀ n o, st.mu n = some o → n < st.nxt ∧ st'.mu n = some o := fun n o h => by
  have l := (sr0.live n o h).1
  exact ⟨l, by rw [hs n l]; exact h⟩
 let P : Addr → Prop := fun a => ∃ n o, st.nxt ≤ n ∧ st'.mu n = some o ∧ ι' n = a
 let G'' : Hp := fun a => @ite _ (P a) (Classical.propDecidable _) (H' a) (G' a)
 have g1 : ∀ a, P a → G'' a = H' a := fun a h => @if_pos _ (Classical.propDecidable _) h _ _ _
 have g2 : ∀ a, ¬ P a → G'' a = G' a := fun a h => @if_neg _ (Classical.propDecidable _) h _ _ _
 have sm : Same G' G'' := fun a u h => by
  by_cases p : P a
  ·obtain ⟨n, o, _, h2, h3⟩ := p
   have := (sr1.live n o h2).2.1
   rw [h3, h] at this
   cases this
  ·rw [g2 a p]; exact h
 have sub : Same G'' H' := fun a u h => by
  by_cases p : P a
  ·rw [g1 a p] at h; exact h
  ·rw [g2 a p] at h; exact sr1.sub a u h
 refine ⟨G'', ⟨Nat.le_refl _, e.ag, e.sm.trans sm⟩, ⟨sub, fun n o h => ?_, fun n m o o' h h' z => sr1.inj n m o o' (hold n o h).2 (hold m o' h').2 z⟩, ?_, g2⟩
 ·obtain ⟨l, h'⟩ := hold n o h
  have np : ¬ P (ι' n) := fun ⟨m, o', h1, h2, h3⟩ => by
   have := sr1.inj m n o' o h2 h' h3
   omega
  obtain ⟨_, a2, a3⟩ := sr1.live n o h'
  have ex : Ext ι' st'.nxt G' ι' st'.nxt G'' := ⟨Nat.le_refl _, fun _ _ => rfl, sm⟩
  refine ⟨l, by rw [g2 _ np]; exact a2, ?_⟩
  have b3 := (sr0.live n o h).2.2
  cases o with
  | lst ws => obtain ⟨xs, q, t⟩ := a3; obtain ⟨_, _, t0⟩ := b3; exact ⟨xs, q, RelWs.low t0 (t.mono ex)⟩
  | dct ks ws => obtain ⟨xs, q, z, t⟩ := a3; obtain ⟨_, _, _, t0⟩ := b3; exact ⟨xs, q, z, RelWs.low t0 (t.mono ex)⟩
 ·refine frz_rel sm fun n o hn h => ?_
  have p : P (ι' n) := ⟨n, o, hn, h, rfl⟩
  have a3 := (sr1.live n o h).2.2
  cases o with
  | lst ws => obtain ⟨xs, q, t⟩ := a3; exact ⟨xs, by rw [g1 _ p]; exact q, t⟩
  | dct ks ws => obtain ⟨xs, q, z, t⟩ := a3; exact ⟨xs, by rw [g1 _ p]; exact q, z, t⟩
noncomputable def keep (st st' : S) (w : W) : R W := @ite _ (∀ n, n < st.nxt → st'.mu n = st.mu n) (Classical.propDecidable _) (match frz st.nxt st'.mu 12 w with
 | some w' => .ok w' st
 | none => .stuck) .stuck
theorem keep_pos {st st' : S} {w w' : W} (h : ∀ n, n < st.nxt → st'.mu n = st.mu n) (e : frz st.nxt st'.mu 12 w = some w') : keep st st' w = .ok w' st := by
 unfold keep
 rw [if_pos h, e]
theorem keep_inv {st st' : S} {w : W} (h : keep st st' w ≠ .stuck) : (∀ n, n < st.nxt → st'.mu n = st.mu n) ∧ ∃ w', frz st.nxt st'.mu 12 w = some w' ∧ keep st st' w = .ok w' st := by
 by_cases hs : ∀ n, n < st.nxt → st'.mu n = st.mu n
 ·refine ⟨hs, ?_⟩
  cases e : frz st.nxt st'.mu 12 w with
  | none => exact absurd (by unfold keep; rw [if_pos hs, e]) h
  | some w' => exact ⟨w', rfl, keep_pos hs e⟩
 ·exact absurd (by unfold keep; rw [if_neg hs]) h
theorem SR.adopt {K : PySem.W.Frag} {ι : Nat → Addr} {st : S} {G H : Hp} {p : Addr} {o : MO} (h : SR K ι st G H) (hG : G p = none) (hne : ∀ m o, st.mu m = some o → ι m ≠ p) (mor : MOR K ι st.nxt G H p o) :
  ∃ ι', Ext ι st.nxt G ι' (st.nxt + 1) G ∧ SR K ι' (st.new o) G H ∧ ι' st.nxt = p := by
 have ex : Ext ι st.nxt G (fun n => if n = st.nxt then p else ι n) (st.nxt + 1) G := ⟨Nat.le_succ _, fun n hn => if_neg (Nat.ne_of_lt hn), Same.refl G⟩
 have up : ∀ {a : Addr} {q : MO}, MOR K ι st.nxt G H a q → MOR K (fun n => if n = st.nxt then p else ι n) (st.nxt + 1) G H a q := by
  intro a q m
  cases q with
  | lst ws => obtain ⟨xs, q, r⟩ := m; exact ⟨xs, q, r.mono ex⟩
  | dct ks ws => obtain ⟨xs, q, l, r⟩ := m; exact ⟨xs, q, l, r.mono ex⟩
 refine ⟨fun n => if n = st.nxt then p else ι n, ex, ⟨h.sub, fun n q e => ?_, fun n m q q' e e' z => ?_⟩, if_pos rfl⟩
 ·by_cases hn : n = st.nxt
  ·subst hn
   have e' : (if st.nxt = st.nxt then some o else st.mu st.nxt) = some q := e
   rw [if_pos rfl] at e'
   cases e'
   refine ⟨Nat.lt_succ_self _, ?_, ?_⟩
   ·(try dsimp only); rw [if_pos rfl]; exact hG
   ·(try dsimp only); rw [if_pos rfl]; exact up mor
  ·have e' : (if n = st.nxt then some o else st.mu n) = some q := e
   rw [if_neg hn] at e'
   obtain ⟨h1, h2, h3⟩ := h.live n q e'
   refine ⟨Nat.lt_succ_of_lt h1, ?_, ?_⟩
   ·(try dsimp only); rw [if_neg hn]; exact h2
   ·(try dsimp only); rw [if_neg hn]; exact up h3
 ·have e1 : (if n = st.nxt then some o else st.mu n) = some q := e
  have e2 : (if m = st.nxt then some o else st.mu m) = some q' := e'
  (try dsimp only at z)
  by_cases hn : n = st.nxt
  ·by_cases hm : m = st.nxt
   ·rw [hn, hm]
   ·rw [if_neg hm] at e2
    rw [if_pos hn, if_neg hm] at z
    exact absurd z.symm (hne m q' e2)
  ·rw [if_neg hn] at e1
   by_cases hm : m = st.nxt
   ·rw [if_neg hn, if_pos hm] at z
    exact absurd z (hne n q e1)
   ·rw [if_neg hm] at e2
    rw [if_neg hn, if_neg hm] at z
    exact h.inj n m q q' e1 e2 z
def S.less (st : S) (n : Nat) : S := ⟨st.nxt, fun m => if m = n then none else st.mu m⟩
theorem SR.less {K : PySem.W.Frag} {ι : Nat → Addr} {st : S} {G H : Hp} (h : SR K ι st G H) (n : Nat) : SR K ι (st.less n) G H := by
 have sub : ∀ m o, (st.less n).mu m = some o → st.mu m = some o ∧ m ≠ n := fun m o e => by
  have e : (if m = n then none else st.mu m) = some o := e
  by_cases hm : m = n
  ·rw [if_pos hm] at e; cases e
  ·rw [if_neg hm] at e; exact ⟨e, hm⟩
 exact ⟨h.sub, fun m o e => h.live m o (sub m o e).1, fun a b o o' e e' z => h.inj a b o o' (sub a o e).1 (sub b o' e').1 z⟩
def frzMO (N : Nat) (mu : Nat → Option MO) : MO → Option MO
 | .lst xs => (frzs (frz N mu 12) xs).map MO.lst
 | .dct ks xs => (frzs (frz N mu 12) xs).map (MO.dct ks)
noncomputable def keepL (st st' : S) (w : W) : R W := match w with
 | .ref n => if n < st.nxt then keep st st' (.ref n) else @ite _ (∀ m, m < st.nxt → st'.mu m = st.mu m) (Classical.propDecidable _) (match st'.mu n with
  | some o => (match frzMO st.nxt (st'.less n).mu o with
   | some o' => .ok (.ref st.nxt) (st.new o')
   | none => .stuck)
  | none => .stuck) .stuck
 | w => keep st st' w
theorem SR.keptL {K : PySem.W.Frag} {ι ι' : Nat → Addr} {st st' : S} {G G' H H' : Hp} {n : Nat} {o o' : MO} (sr0 : SR K ι st G H) (e : Ext ι st.nxt G ι' st'.nxt G') (sr1 : SR K ι' st' G' H') (hs : ∀ n, n < st.nxt → st'.mu n = st.mu n)
  (hn : st.nxt ≤ n) (ho : st'.mu n = some o) (hf : frzMO st.nxt (st'.less n).mu o = some o') :
  ∃ ι'' G'', Ext ι st.nxt G ι'' (st.nxt + 1) G'' ∧ SR K ι'' (st.new o') G'' H' ∧ ι'' st.nxt = ι' n := by
 have hs' : ∀ m, m < st.nxt → (st'.less n).mu m = st.mu m := fun m hm => by
  show (if m = n then none else st'.mu m) = _
  rw [if_neg (by omega)]; exact hs m hm
 obtain ⟨G'', ex, sr2, rel, g2⟩ := sr0.kept (st' := st'.less n) e (sr1.less n) hs'
 obtain ⟨_, a2, a3⟩ := sr1.live n o ho
 have np : ¬ ∃ m q, st.nxt ≤ m ∧ (st'.less n).mu m = some q ∧ ι' m = ι' n := fun ⟨m, q, _, h2, h3⟩ => by
  have h2 : (if m = n then none else st'.mu m) = some q := h2
  by_cases hm : m = n
  ·rw [if_pos hm] at h2; cases h2
  ·rw [if_neg hm] at h2; exact hm (sr1.inj m n q o h2 ho h3)
 have hG : G'' (ι' n) = none := by rw [g2 _ np]; exact a2
 have mor : MOR K ι' st.nxt G'' H' (ι' n) o' := by
  cases o with
  | lst ws =>
   obtain ⟨xs, q, t⟩ := a3
   have hf : (frzs (frz st.nxt (st'.less n).mu 12) ws).map MO.lst = some o' := hf
   cases e2 : frzs (frz st.nxt (st'.less n).mu 12) ws with
   | none => rw [e2] at hf; cases hf
   | some ys => rw [e2] at hf; cases hf; exact ⟨xs, q, frzs_rel (rel 12) t e2⟩
  | dct ks ws =>
   obtain ⟨xs, q, z, t⟩ := a3
   have hf : (frzs (frz st.nxt (st'.less n).mu 12) ws).map (MO.dct ks) = some o' := hf
   cases e2 : frzs (frz st.nxt (st'.less n).mu 12) ws with
   | none => rw [e2] at hf; cases hf
   | some ys => rw [e2] at hf; cases hf; exact ⟨xs, q, z, frzs_rel (rel 12) t e2⟩
 obtain ⟨ι'', ex2, sr3, ep⟩ := sr2.adopt hG (fun m q h z => by
  have l := (sr0.live m q h).1
  have h' : st'.mu m = some q := by rw [hs m l]; exact h
  have := sr1.inj m n q o h' ho z
  omega) mor
 exact ⟨ι'', G'', ex.trans ex2, sr3, ep⟩
noncomputable def keepM (fz : Nat) (st st' : S) (w : W) : R W := match fz with
 | 0 => .ok w st'
 | 1 => keep st st' w
 | _ => keepL st st' w
noncomputable def leave (fz : Nat) (st : S) : R Fl → R W
 | .ok (.rt w) st' => keepM fz st st' w
 | .ok (.nx _) st' => keepM fz st st' .non
 | _ => .stuck
noncomputable def callOp (n nl fz : Nat) (run : RunS) : OpN := fun ws st => if ws.length = n then leave fz st (run (ws.map some ++ List.replicate (nl - n) none) st) else .stuck
theorem kept_ok {K : PySem.W.Frag} {ι ι1 : Nat → Addr} {st0 st1 : S} {G G1 H0 H1 : Hp} {fz : Nat} {w1 : W} {v : V} (sr : SR K ι st0 G H0) (x1 : Ext ι st0.nxt G ι1 st1.nxt G1) (sr1 : SR K ι1 st1 G1 H1) (r1 : RelW K ι1 st1.nxt G1 v w1)
  (ns : keepM fz st0 st1 w1 ≠ .stuck) : ∃ w' st' ι' G', keepM fz st0 st1 w1 = .ok w' st' ∧ Ext ι st0.nxt G ι' st'.nxt G' ∧ SR K ι' st' G' H1 ∧ RelW K ι' st'.nxt G' v w' := by
 have one : keep st0 st1 w1 ≠ .stuck → ∃ w' st' ι' G', keep st0 st1 w1 = .ok w' st' ∧ Ext ι st0.nxt G ι' st'.nxt G' ∧ SR K ι' st' G' H1 ∧ RelW K ι' st'.nxt G' v w' := fun ns => by
  obtain ⟨hs, w', e, ek⟩ := keep_inv ns
  obtain ⟨G2, e2, sr2, rel, _⟩ := sr.kept x1 sr1 hs
  exact ⟨w', st0, ι1, G2, ek, e2, sr2, rel 12 v w1 w' r1 e⟩
 match fz with
 | 0 => exact ⟨w1, st1, ι1, G1, rfl, x1, sr1, r1⟩
 | 1 => exact one ns
 | k + 2 =>
  have nl : keepL st0 st1 w1 ≠ .stuck := ns
  clear ns
  show ∃ w' st' ι' G', keepL st0 st1 w1 = .ok w' st' ∧ _
  unfold keepL at nl ⊢
  split at nl
  ·rename_i n
   by_cases hn : n < st0.nxt
   ·rw [if_pos hn] at nl ⊢; exact one nl
   ·rw [if_neg hn] at nl ⊢
    by_cases hs : ∀ m, m < st0.nxt → st1.mu m = st0.mu m
    ·rw [if_pos hs] at nl ⊢
     cases ho : st1.mu n with
     | none => rw [ho] at nl; exact absurd rfl nl
     | some o =>
      rw [ho] at nl
      have ns : (match frzMO st0.nxt (st1.less n).mu o with
       | some o' => R.ok (W.ref st0.nxt) (st0.new o')
       | none => .stuck) ≠ .stuck := nl
      cases hf : frzMO st0.nxt (st1.less n).mu o with
      | none => rw [hf] at ns; exact absurd rfl ns
      | some o' =>
       obtain ⟨ι2, G2, e2, sr2, ep⟩ := sr.keptL x1 sr1 hs (Nat.le_of_not_lt hn) ho hf
       refine ⟨.ref st0.nxt, st0.new o', ι2, G2, ?_, e2, sr2, ?_⟩
       ·show (match frzMO st0.nxt (st1.less n).mu o with
         | some o' => R.ok (W.ref st0.nxt) (st0.new o')
         | none => .stuck) = _
        rw [hf]
       ·cases r1
        rw [← ep]
        exact .ref (Nat.lt_succ_self _)
    ·rw [if_neg hs] at nl; exact absurd rfl nl
  ·exact one nl
theorem left_ok {K : PySem.W.Frag} {ι ι1 : Nat → Addr} {st0 st1 : S} {G G1 H0 H1 : Hp} {fz : Nat} {w1 : W} {v : V} {Q : VK} (sr : SR K ι st0 G H0) (x1 : Ext ι st0.nxt G ι1 st1.nxt G1) (sr1 : SR K ι1 st1 G1 H1) (r1 : RelW K ι1 st1.nxt G1 v w1)
  (q : wp0 K ι st0.nxt G (keepM fz st0 st1 w1) Q) : Q v H1 := by
 obtain ⟨w', st', ι', G', e, ex, sr', r'⟩ := kept_ok (fz := fz) sr x1 sr1 r1 (fun z => by rw [z] at q; exact q)
 rw [e] at q
 exact q v ι' G' H1 ex sr' r'
theorem start_env {K : PySem.W.Frag} {ι : Nat → Addr} {N : Nat} {G : Hp} {vs : List V} {ws : List W} {Ns : List Str} (t : RelWs K ι N G vs ws) : EnvR K ι N G (L2.start Ns vs) (ws.map some ++ List.replicate (Ns.length - ws.length) none) := by
 unfold L2.start
 rw [t.length]
 refine ⟨by simp [t.length], fun i w h => ?_⟩
 by_cases hi : i < ws.length
 ·rw [List.getElem?_append_left (by simpa using hi), List.getElem?_map] at h
  cases e : ws[i]? with
  | none => rw [e] at h; cases h
  | some u =>
   rw [e] at h
   cases h
   obtain ⟨v, h1, h2⟩ := t.get e
   refine ⟨v, ?_, h2⟩
   rw [List.getElem?_append_left (by rw [List.length_map, t.length]; exact hi), List.getElem?_map, h1]; rfl
 ·rw [List.getElem?_append_right (by simpa using hi), List.getElem?_replicate] at h
  split at h <;> cases h
theorem fn_body {P : Program} {w : World} {K : PySem.W.Frag} {mg : Str → Option Value} {base : Heap} {x qual : Str} {st : Stmt} {f : Addr} {fd : FuncData} {N ps : List Str} {k fz : Nat} {run : RunS} (F : Fun K x qual st f fd) (Sc : FnScope N ps (defScope st))
  (hb : ∀ (cdv : Value) (A : Around) (outer : List Env) (s : Shared) (H : Hp) (E : XK), Room k (A.deeper (envOfC qual (defScope st) s.heap.objs.size f cdv)) → PDSs (cxOf CX0 P w K mg base N qual (defScope st) f cdv A outer s H E).nox (defBody st) run) :
  FnOk P w K mg base CX0 (k + 1) f fd ps (SpD K ps.length (callOp ps.length N.length fz run)) := by
 refine Fun.ok F Sc (fun vs H Q E h => h.1) fun cdv A outer s H vs Q E hr hsp => ⟨_, hb cdv A outer s H E hr, ?_⟩
 obtain ⟨hl, ι, G, st0, ws, sr, t, q⟩ := hsp
 have hlw : ws.length = ps.length := by rw [← t.length]; exact hl
 refine ⟨ι, G, st0, ws.map some ++ List.replicate (N.length - ws.length) none, start_env t, sr, ?_⟩
 unfold callOp at q
 rw [if_pos hlw, ← hlw] at q
 cases e : run (ws.map some ++ List.replicate (N.length - ws.length) none) st0 with
 | stuck => rw [e] at q; exact q
 | ex c s => rw [e] at q; exact (show False from q).elim
 | ok fl st1 =>
  rw [e] at q
  intro ι1 G1 H1 x1 sr1
  cases fl with
  | nx Γ1 => exact fun σ1 en1 => left_ok (fz := fz) (w1 := .non) sr x1 sr1 .non q
  | rt w1 => exact fun v r1 => left_ok (fz := fz) sr x1 sr1 r1 q
  | bk Γ1 => exact (show False from q).elim
  | ct Γ1 => exact (show False from q).elim
end
end DL
namespace L2
open PySem PySem.Spec PyProof.Rows
theorem Inv.big' {X : Cx} {pins : List (Addr × Obj)} {σ : L2.St} {H : Hp} {s : Shared} (I : Inv X pins σ H s) : sysModules < s.heap.objs.size := by
 have h : mainGlobals < s.heap.objs.size := (I.mod.glob.keeps I.bk).lt
 exact Nat.lt_trans (by decide) h
theorem dk_empty' {P : Program} {w : World} {H : Hp} (h : Heap) (hb : sysModules < h.objs.size) : ObjOk P w H (h.push { cls := .type "dict", data := .dict #[] }) h.objs.size (.dK []) :=
 ⟨Nat.zero_le _, beq_eq_false_iff_ne.mpr (Ne.symm (Nat.ne_of_lt hb)), [], .nil, Heap.DictOf.new h⟩
theorem pe_dict0 {X : Cx} {pos : Pos} : PE X (.Dict [] [] pos) (fun _ H Q => ∀ p, H p = none → Q (.ref p) (upd H p (.dK []))) := fun pins s σ H Q I h =>
 wpAny_Dict_empty ⟨.ref s.heap.objs.size, _, I.laid (a := s.heap.objs.size) (o := .dK []) (t' := s.toks) (fun _ _ q => Heap.get?_push_of_some _ q) (Nat.le_refl _) (dk_empty' s.heap I.big'), rfl, h _ (I.hok.fresh (Nat.le_refl _))⟩
theorem fm_congr {α β : Type} {f g : α → Option β} : ∀ {l : List α}, (∀ x ∈ l, f x = g x) → l.filterMap f = l.filterMap g
 | [], _ => rfl
 | x :: l, h => by
  rw [List.filterMap_cons, List.filterMap_cons, h x List.mem_cons_self, fm_congr fun y hy => h y (List.mem_cons_of_mem _ hy)]
theorem pick_rev (its : List Value) : slicePick its.toArray none none (some (-1)) = its.reverse.toArray := by
 unfold slicePick
 have hb : sliceBounds none none (some (-1)) its.toArray.size = ((its.length : Int) - 1, -1, -1) := by
  simp [sliceBounds]
 rw [hb]
 congr 1
 show List.filterMap (fun i => its.toArray[i]?) (sliceRange ((its.length : Int) - 1) (-1) (-1)) = its.reverse
 have hr : sliceRange ((its.length : Int) - 1) (-1) (-1) = (List.range its.length).map fun k => its.length - 1 - k := by
  unfold sliceRange
  have e1 : (if (-1 : Int) > 0 then (if ((its.length : Int) - 1) < -1 then ((-1 : Int) - ((its.length : Int) - 1) + -1 - 1) / -1 else 0) else (if ((its.length : Int) - 1) > -1 then ((its.length : Int) - 1 - -1 - -1 - 1) / (- -1) else 0)) = (its.length : Int) := by
   rw [if_neg (by decide)]
   by_cases h : ((its.length : Int) - 1) > -1
   ·rw [if_pos h]; simp only [Int.neg_neg, Int.ediv_one]; omega
   ·rw [if_neg h]; omega
  dsimp only
  rw [e1, Int.toNat_natCast]
  apply List.map_congr_left
  intro k hk
  have := List.mem_range.mp hk
  omega
 rw [hr, List.filterMap_map]
 apply List.ext_getElem?
 intro j
 by_cases hj : j < its.length
 ·have hall : ∀ k ∈ List.range its.length, ((fun i => its.toArray[i]?) ∘ fun k => its.length - 1 - k) k = some (its.reverse.getD k .none) := by
   intro k hk
   have hk' := List.mem_range.mp hk
   have h1 : its.length - 1 - k < its.length := by omega
   simp [hk', h1, List.getElem_reverse]
  have : List.filterMap ((fun i => its.toArray[i]?) ∘ fun k => its.length - 1 - k) (List.range its.length) = (List.range its.length).map fun k => its.reverse.getD k .none := by
   rw [← List.filterMap_eq_map]
   exact fm_congr hall
  rw [this, List.getElem?_map, List.getElem?_range hj]
  simp [hj]
 ·have hall : ∀ k ∈ List.range its.length, ((fun i => its.toArray[i]?) ∘ fun k => its.length - 1 - k) k = some (its.reverse.getD k .none) := by
   intro k hk
   have hk' := List.mem_range.mp hk
   have h1 : its.length - 1 - k < its.length := by omega
   simp [hk', h1, List.getElem_reverse]
  have : List.filterMap ((fun i => its.toArray[i]?) ∘ fun k => its.length - 1 - k) (List.range its.length) = (List.range its.length).map fun k => its.reverse.getD k .none := by
   rw [← List.filterMap_eq_map]
   exact fm_congr hall
  rw [this, List.getElem?_eq_none (by simp; omega), List.getElem?_eq_none (by simp; omega)]
section
variable {X : Cx}
variable {k : Nat} {f : Addr} {fd : FuncData} {pn : Str} {sp : Sp}
end
end L2
namespace DL
open PySem PySem.Spec PyProof.Rows L2
section
variable {X : Cx}
def rDict0 : Run := fun _ st => .ok (.dct [] []) st
theorem pd_dict0 {pos : Pos} : PD X (.Dict [] [] pos) rDict0 := by
 refine PE.imp pe_dict0 fun σ H Q h => ?_
 obtain ⟨ι, G, st, Γ, en, sr, q⟩ := h
 intro p hp
 obtain ⟨sr2, e2⟩ := sr.laid (o := .dK []) hp
 exact q _ ι _ _ e2 sr2 (.dct (xs := []) upd_same rfl .nil)
def opRev (m : Bool) : W → S → R W := fun w st => match w with
 | .lst xs => opL m xs.reverse st
 | .ref n => (match MO.items (st.mu n) with | some xs => opL m xs.reverse st | none => .stuck)
 | _ => .stuck
section
variable {K : PySem.W.Frag} {ι : Nat → Addr} {N : Nat} {G : Hp}
end
end
end DL
namespace DL
open PySem PySem.Spec PyProof.Rows L2
noncomputable def keepX (st st' : S) (c : W) : R W := @ite _ (∀ n, n < st.nxt → st'.mu n = st.mu n) (Classical.propDecidable _) (.ex c st) .stuck
noncomputable def leaveX (fz : Nat) (st : S) : R Fl → R W
 | .ok (.rt w) st' => keepM fz st st' w
 | .ok (.nx _) st' => keepM fz st st' .non
 | .ex c st' => (match fz with
  | 0 => .ex c st'
  | _ => keepX st st' c)
 | _ => .stuck
noncomputable def callX (n nl fz : Nat) (run : RunS) : OpN := fun ws st => if ws.length = n then leaveX fz st (run (ws.map some ++ List.replicate (nl - n) none) st) else .stuck
def wpX (K : PySem.W.Frag) (ι : Nat → Addr) (N : Nat) (G : Hp) (r : R W) (Q : VK) (E : XK) : Prop := match r with
 | .ok w st' => ∀ v ι' G' H', Ext ι N G ι' st'.nxt G' → SR K ι' st' G' H' → RelW K ι' st'.nxt G' v w → Q v H'
 | .ex c st' => ∀ ι' G' H' cls, Ext ι N G ι' st'.nxt G' → SR K ι' st' G' H' → ClsR K c cls → E cls none H'
 | .stuck => False
def SpX (K : PySem.W.Frag) (n : Nat) (op : OpN) : Sp := fun vs H Q E => vs.length = n ∧ ∃ ι G st ws, SR K ι st G H ∧ RelWs K ι st.nxt G vs ws ∧ wpX K ι st.nxt G (op ws st) Q E
section
variable {X : Cx}
def sRaise (x : Str) (rr : Runs) : RunS := fun Γ st => (rr Γ st).bind fun ws st' => if ws.length ≤ sizeLine then .ex (.str x) st' else .stuck
end
end DL
namespace DL
open PySem PySem.Spec PyProof.Rows L2
section
variable {X : Cx}
end
end DL
namespace DL
open PySem PySem.Spec PyProof.Rows L2
section
variable {X : Cx}
def noCall0 : Expr → Bool
 | .Call _ [] [] _ => false
 | _ => true
theorem base_plain {o : Expr} {m : Str} {env : Env} {w : Sem Value} (h : noCall0 o = true) : attributeBase o m env w = w := by
 unfold attributeBase
 split
 ·exact absurd (show false = true from h) Bool.false_ne_true
 ·rfl
theorem tyV_kind {ι : Nat → Addr} {G H : Hp} {st : S} {v : V} {w : W} {T : String} (sr : SR X.K ι st G H) (r : RelW X.K ι st.nxt G v w) (k : kindW st w = some T) (hT : T = "str" ∨ T = "list" ∨ T = "dict") : tyV X.K T v H := by
 cases r with
 | non => cases k; exact absurd hT (by decide)
 | bl b => cases k; exact absurd hT (by decide)
 | int i => cases k; exact absurd hT (by decide)
 | str x => cases k; exact rfl
 | ty n => cases k
 | tup s t => cases k; exact absurd hT (by decide)
 | lst s t => cases k; exact .inl ⟨rfl, _, sr.sub.seq s⟩
 | dct s l t => cases k; exact .inr (.inr (.inl ⟨rfl, .inl ⟨_, sr.sub _ _ s⟩⟩))
 | exn s n => cases k
 | @ref n hn =>
  have k : MO.kind (st.mu n) = some T := k
  cases e : st.mu n with
  | none => rw [e] at k; cases k
  | some o =>
   rw [e] at k
   obtain ⟨_, _, h3⟩ := sr.live n o e
   cases o with
   | lst zs => cases k; obtain ⟨vs, qv, _⟩ := h3; exact .inl ⟨rfl, vs, SqL.of qv⟩
   | dct ks zs => cases k; obtain ⟨xs, qv, _, _⟩ := h3; exact .inr (.inr (.inl ⟨rfl, .inl ⟨_, qv⟩⟩))
abbrev OpM := W → List W → S → R W
def rMt (X : Cx) (op : OpM) : V → List V → Hp → VK → Prop := fun x xs H Q => ∃ ι G st w ws, SR X.K ι st G H ∧ RelW X.K ι st.nxt G x w ∧ RelWs X.K ι st.nxt G xs ws ∧ wpW X ι st.nxt G (op w ws st) Q
def runM (T : String) (ro : Run) (rr : Runs) (op : OpM) : Run := fun Γ st => (ro Γ st).bind fun w st1 => if kindW st1 w = some T then (rr Γ st1).bind fun ws st2 => op w ws st2 else .stuck
theorem runM_go {T : String} {ro : Run} {rr : Runs} {op : OpM} {σ : St} {H : Hp} {Q : VK} (hT : T = "str" ∨ T = "list" ∨ T = "dict") (h : tD X (runM T ro rr op) σ H Q) :
  tD X ro σ H fun x H1 => tyV X.K T x H1 ∧ tDA X rr σ H1 fun xs H2 => rMt X op x xs H2 Q := by
 obtain ⟨ι, G, st, Γ, en, sr, q⟩ := h
 refine ⟨ι, G, st, Γ, en, sr, wpW.bind q fun w st1 v ι1 G1 H1 _ e1 sr1 r1 q1 => ?_⟩
 by_cases hk : kindW st1 w = some T
 ·rw [if_pos hk] at q1
  refine ⟨tyV_kind sr1 r1 hk hT, ι1, G1, st1, Γ, en.mono e1, sr1, ?_⟩
  cases e2 : rr Γ st1 with
  | stuck => rw [e2] at q1; exact q1
  | ex c s => rw [e2] at q1; exact q1
  | ok ws st2 =>
   rw [e2] at q1
   intro vs ι2 G2 H2 x2 sr2 r2
   exact ⟨ι2, G2, st2, w, ws, sr2, r1.mono x2, r2, wpW.later x2 (show wpW X ι1 st1.nxt G1 (op w ws st2) Q from q1)⟩
 ·rw [if_neg hk] at q1; exact q1.elim
theorem pd_mt {o e : Expr} {es : List Expr} {m : Str} {apos cpos : Pos} {T id : String} {ro : Run} {rr : Runs} {op : OpM} (hT : T = "str" ∨ T = "list" ∨ T = "dict") (pa : PlainAttrs T) (slot : Slot T m id) (hty : typeOf (.builtin id) = pure (.type "method_descriptor")) (hm : MtR X id (rMt X op)) (ho : PD X o ro) (ha : PDA X (e :: es) rr) (hb : noCall0 o = true)
  (hfew : ((backTo cpos (starEach (e :: es) X.env)).all (fun x => !x.1) && (backToKw cpos (keywordEach [] X.env)).all (fun x => x.1.isSome)
   && decide ((e :: es).length + ([] : List Keyword).length + (if ([] : List Keyword).isEmpty then 0 else 1) < 30)) = true)
  (hline : (apos.endLine == cpos.line) = true) (hs : starEach (e :: es) X.env = (false, eval e X.env) :: starEach es X.env) (hplain : (backTo cpos (starEach es X.env)).any (·.1) = false) :
  PD X (.Call (.Attribute o m apos) (e :: es) [] cpos) (runM T ro rr op) :=
 PE.imp (pe_bm pa slot hty hm ho ha (base_plain hb) hfew hline hs hplain) fun _ _ _ h => runM_go hT h
theorem pd_mt0 {o : Expr} {m : Str} {apos cpos : Pos} {T id : String} {ro : Run} {op : OpM} (hT : T = "str" ∨ T = "list" ∨ T = "dict") (pa : PlainAttrs T) (slot : Slot T m id) (hty : typeOf (.builtin id) = pure (.type "method_descriptor")) (hm : MtR X id (rMt X op)) (ho : PD X o ro) (hb : noCall0 o = true) (hline : (apos.endLine == cpos.line) = true) :
  PD X (.Call (.Attribute o m apos) [] [] cpos) (runM T ro runsNil op) := by
 refine PE.imp (pe_bm0 pa slot hty hm ho (base_plain hb) hline) fun σ H Q h => ?_
 obtain ⟨ι, G, st, Γ, en, sr, q⟩ := runM_go hT h
 refine ⟨ι, G, st, Γ, en, sr, wpW.mono q fun v H1 ⟨h1, ι1, G1, st1, Γ1, _, sr1, q1⟩ => ⟨h1, ?_⟩⟩
 exact q1 [] ι1 G1 H1 (Ext.refl _ _ _) sr1 .nil
def opAppend : OpM := fun w ws st => match w, ws with
 | .ref n, [y] => (match st.mu n with
  | some (.lst xs) => if xs.length < sizeLine then .ok .non (st.put n (.lst (xs ++ [y]))) else .stuck
  | _ => .stuck)
 | _, _ => .stuck
theorem mw_append : MtR X "list.append" (rMt X opAppend) := by
 intro pins s σ H x xs v us Q I rx rv ⟨ι, G, st, w, ws, sr, r, t, q⟩
 unfold opAppend at q
 split at q
 ·rename_i n y
  cases t with
  | @cons x1 _ xs1 _ r1 t1 =>
   cases t1
   cases r with
   | ref hn =>
    have q : wpW X ι st.nxt G (match st.mu n with
     | some (.lst xs) => if xs.length < sizeLine then .ok .non (st.put n (.lst (xs ++ [y]))) else .stuck
     | _ => .stuck) Q := q
    cases e : st.mu n with
    | none => rw [e] at q; exact (show False from q).elim
    | some o =>
     cases o with
     | dct ks zs => rw [e] at q; exact (show False from q).elim
     | lst zs =>
      rw [e] at q
      have q : wpW X ι st.nxt G (if zs.length < sizeLine then .ok .non (st.put n (.lst (zs ++ [y]))) else .stuck) Q := q
      by_cases hl : zs.length < sizeLine
      ·rw [if_pos hl] at q
       obtain ⟨_, _, xs2, hH, t2⟩ := sr.live n _ e
       refine mt_append pins s σ H _ _ v us Q I rx rv ⟨ι n, xs2, x1, rfl, rfl, hH, by rw [t2.length]; exact hl, ?_⟩
       exact q .non ι G _ (Ext.refl _ _ _) (sr.putL e (t2.append (.cons r1 .nil))) .non
      ·rw [if_neg hl] at q; exact q.elim
 ·exact (show False from q).elim
def strsW : List W → Option (List Str)
 | [] => some []
 | .str x :: ws => (strsW ws).map (x :: ·)
 | _ => none
theorem strsW_rel {K : PySem.W.Frag} {ι : Nat → Addr} {N : Nat} {G : Hp} : ∀ {xs : List V} {ws : List W} {us : List Value} {ys : List Str}, RelWs K ι N G xs ws → Vals xs us → strsW ws = some ys → StrsAre us ys
 | _, _, _, _, .nil, .nil, h => by cases h; exact .nil
 | _, _, _, _, .cons r t, .cons rv tv, h => by
  rename_i x w xs ws u us
  cases w with
  | str z =>
   have h : (strsW ws).map (z :: ·) = some _ := h
   cases e : strsW ws with
   | none => rw [e] at h; cases h
   | some zs =>
    rw [e] at h
    cases h
    cases r
    have ih := strsW_rel t tv e
    obtain ⟨tk, e2⟩ := (show ∃ t, u = Value.str z t from rv)
    cases e2
    exact .cons z tk ih
  | _ => cases h
def opJoin : OpM := fun w ws st => match w, ws with
 | .str x, [l] => (match itemsOf st l with
  | some zs => (match strsW zs with
   | some ys => if x.length ≤ 16 ∧ (ys.map (·.length)).sum + ys.length ≤ 1048576 then .ok (.str (PySem.Txt.join x ys)) st else .stuck
   | none => .stuck)
  | none => .stuck)
 | _, _ => .stuck
theorem mw_join : MtR X "str.join" (rMt X opJoin) := by
 intro pins s σ H x xs v us Q I rx rv ⟨ι, G, st, w, ws, sr, r, t, q⟩
 unfold opJoin at q
 split at q
 ·rename_i z l
  cases t with
  | @cons x1 _ xs1 _ r1 t1 =>
   cases t1
   cases r
   obtain ⟨tk, ev⟩ := (show ∃ t, v = Value.str z t from rx)
   subst ev
   obtain ⟨u1, eu, ru⟩ := rv.one
   subst eu
   have q : wpW X ι st.nxt G (match itemsOf st l with
    | some zs => (match strsW zs with
     | some ys => if z.length ≤ 16 ∧ (ys.map (·.length)).sum + ys.length ≤ 1048576 then .ok (.str (PySem.Txt.join z ys)) st else .stuck
     | none => .stuck)
    | none => .stuck) Q := q
   cases e1 : itemsOf st l with
   | none => rw [e1] at q; exact (show False from q).elim
   | some zs =>
    rw [e1] at q
    have q : wpW X ι st.nxt G (match strsW zs with
     | some ys => if z.length ≤ 16 ∧ (ys.map (·.length)).sum + ys.length ≤ 1048576 then .ok (.str (PySem.Txt.join z ys)) st else .stuck
     | none => .stuck) Q := q
    cases e2 : strsW zs with
    | none => rw [e2] at q; exact (show False from q).elim
    | some ys =>
     rw [e2] at q
     have q : wpW X ι st.nxt G (if z.length ≤ 16 ∧ (ys.map (·.length)).sum + ys.length ≤ 1048576 then .ok (.str (PySem.Txt.join z ys)) st else .stuck) Q := q
     by_cases hl : z.length ≤ 16 ∧ (ys.map (·.length)).sum + ys.length ≤ 1048576
     ·rw [if_pos hl] at q
      have fin : ∀ t' k, EP X pins σ Q (.str (PySem.Txt.join z ys) t') { s with toks := k } := fun t' k => ⟨.str _, H, I.tok _, ⟨t', rfl⟩, q _ ι G H (Ext.refl _ _ _) sr (.str _)⟩
      have lst : ∀ {a : Addr} {vs : List V}, x1 = .ref a → SqL X.K H a vs → RelWs X.K ι st.nxt G vs zs → wpAny (model X.prog X.w) X.A (call (.builtin "str.join") [.str z tk, u1]) (EP X pins σ Q) X.xe s := by
       intro a vs ex hq tt
       subst ex
       cases (show u1 = Value.ref a from ru)
       obtain ⟨its, tv, pl, _⟩ := I.list hq
       exact join_listW pl.isList (by simpa using strsW_rel tt tv e2) hl.1 hl.2 fin
      cases r1 with
      | lst sq tt => cases e1; exact lst rfl (sr.sub.seq sq) tt
      | tup sq tt =>
       cases e1
       cases (show u1 = Value.ref _ from ru)
       obtain ⟨its, tv, pl, _⟩ := I.tuple (sqT_same sr.sub sq)
       exact join_tupleW pl (by simpa using strsW_rel tt tv e2) hl.1 hl.2 fin
      | @ref n hn =>
       obtain ⟨vs, hq, tt⟩ := items_live sr e1
       exact lst rfl hq tt
      | _ => cases e1
     ·rw [if_neg hl] at q; exact q.elim
 ·exact (show False from q).elim
structure Mth (X : Cx) (m : Str) (T id : String) (op : OpM) : Prop where
 hT : T = "str" ∨ T = "list" ∨ T = "dict"
 pa : PlainAttrs T
 slot : Slot T m id
 hty : typeOf (.builtin id) = pure (.type "method_descriptor")
 hm : MtR X id (rMt X op)
theorem mth_join : Mth X "join" "str" "str.join" opJoin := ⟨.inl rfl, F.plainAttrs_str, F.slot_str_join, F.type_str_join, mw_join⟩
theorem mth_append : Mth X "append" "list" "list.append" opAppend := ⟨.inr (.inl rfl), F.plainAttrs_list, F.slot_list_append, F.type_list_append, mw_append⟩
end
end DL
namespace DL
open PySem PySem.Spec PyProof.Rows L2
section
variable {X : Cx}
def flatsW : List W → Option (List V)
 | [] => some []
 | w :: ws => match flatW w, flatsW ws with
  | some v, some vs => some (v :: vs)
  | _, _ => none
theorem flatsW_rel {K : PySem.W.Frag} {ι : Nat → Addr} {N : Nat} {G : Hp} : ∀ {vs vs' : List V} {ws : List W}, RelWs K ι N G vs ws → flatsW ws = some vs' → vs = vs' ∧ vs.all flatV = true
 | _, _, _, .nil, h => by cases h; exact ⟨rfl, rfl⟩
 | _, _, _, .cons (w := w) (ws := ws) r t, h => by
  unfold flatsW at h
  cases e1 : flatW w with
  | none => rw [e1] at h; cases h
  | some v1 =>
   cases e2 : flatsW ws with
   | none => rw [e1, e2] at h; cases h
   | some vs1 =>
    rw [e1, e2] at h
    cases h
    obtain ⟨rfl, f1⟩ := flatW_rel r e1
    obtain ⟨rfl, f2⟩ := flatsW_rel t e2
    exact ⟨rfl, by rw [List.all_cons, f1, f2]; rfl⟩
def listOf (st : S) : W → Option (List W)
 | .lst xs => some xs
 | .ref n => MO.items (st.mu n)
 | _ => none
theorem listOf_rel {ι : Nat → Addr} {G H : Hp} {st : S} {v : V} {w : W} {zs : List W} (sr : SR X.K ι st G H) (r : RelW X.K ι st.nxt G v w) (h : listOf st w = some zs) : ∃ a xs, v = .ref a ∧ SqL X.K H a xs ∧ RelWs X.K ι st.nxt G xs zs := by
 cases r with
 | lst s t => cases h; exact ⟨_, _, rfl, sr.sub.seq s, t⟩
 | ref hn => obtain ⟨xs, h1, h2⟩ := items_live sr h; exact ⟨_, xs, rfl, h1, h2⟩
 | _ => cases h
def flatArgs (st : S) (w : W) (ws : List W) : Option (List V × V) := match ws with
 | [y] => (match listOf st w with
  | some zs => (match flatsW zs, flatW y with
   | some vs, some v => some (vs, v)
   | _, _ => none)
  | none => none)
 | _ => none
theorem flatArgs_rel {ι : Nat → Addr} {G H : Hp} {st : S} {x : V} {xs : List V} {w : W} {ws : List W} {vs : List V} {v : V} (sr : SR X.K ι st G H) (r : RelW X.K ι st.nxt G x w) (t : RelWs X.K ι st.nxt G xs ws) (h : flatArgs st w ws = some (vs, v)) :
  ∃ a, x = .ref a ∧ xs = [v] ∧ SqL X.K H a vs ∧ vs.all flatV = true ∧ flatV v = true := by
 unfold flatArgs at h
 split at h
 ·rename_i y
  cases t with
  | @cons x1 _ xs1 _ r1 t1 =>
   cases t1
   cases e1 : listOf st w with
   | none => rw [e1] at h; cases h
   | some zs =>
    rw [e1] at h
    have h : (match flatsW zs, flatW y with
     | some vs, some v => some (vs, v)
     | _, _ => none) = some (vs, v) := h
    cases e2 : flatsW zs with
    | none => rw [e2] at h; cases h
    | some vs1 =>
     cases e3 : flatW y with
     | none => rw [e2, e3] at h; cases h
     | some v1 =>
      rw [e2, e3] at h
      cases h
      obtain ⟨a, ys, rfl, hq, tt⟩ := listOf_rel sr r e1
      obtain ⟨rfl, f1⟩ := flatsW_rel tt e2
      obtain ⟨rfl, f2⟩ := flatW_rel r1 e3
      exact ⟨a, rfl, rfl, hq, f1, f2⟩
 ·cases h
def firstV (v : V) : List V → Option Nat
 | [] => none
 | x :: xs => if eqV x v then some 0 else (firstV v xs).map (· + 1)
theorem firstV_ok {v : V} : ∀ {xs : List V} {us : List Value} {j : Nat}, Vals xs us → xs.all flatV = true → firstV v xs = some j → ∃ h : j < us.length, eqU v us[j] = true ∧ ∀ m (hm : m < us.length), m < j → eqU v us[m] = false
 | _, _, _, .nil, _, h => by cases h
 | x :: xs, u :: us, j, .cons r t, f, h => by
  rw [List.all_cons, Bool.and_eq_true] at f
  unfold firstV at h
  by_cases e : eqV x v = true
  ·rw [if_pos e] at h
   cases h
   exact ⟨Nat.zero_lt_succ _, by show eqU v u = true; rw [eqU_of r f.1]; exact e, fun m _ hm => absurd hm (Nat.not_lt_zero _)⟩
  ·rw [if_neg e] at h
   cases e2 : firstV v xs with
   | none => rw [e2] at h; cases h
   | some j' =>
    rw [e2] at h
    cases h
    obtain ⟨h1, h2, h3⟩ := firstV_ok t f.2 e2
    refine ⟨Nat.succ_lt_succ h1, h2, fun m hm hlt => ?_⟩
    cases m with
    | zero => show eqU v u = false; rw [eqU_of r f.1]; simpa using e
    | succ m => exact h3 m (Nat.lt_of_succ_lt_succ hm) (Nat.lt_of_succ_lt_succ hlt)
def opIndex : OpM := fun w ws st => match flatArgs st w ws with
 | some (vs, v) => (match firstV v vs with
  | some j => .ok (.int (j : Nat)) st
  | none => .stuck)
 | none => .stuck
theorem mw_index : MtR X "list.index" (rMt X opIndex) := by
 intro pins s σ H x xs v us Q I rx rv ⟨ι, G, st, w, ws, sr, r, t, q⟩
 unfold opIndex at q
 cases e : flatArgs st w ws with
 | none => rw [e] at q; exact (show False from q).elim
 | some p =>
  obtain ⟨vs, y⟩ := p
  rw [e] at q
  have q : wpW X ι st.nxt G (match firstV y vs with
   | some j => .ok (.int (j : Nat)) st
   | none => .stuck) Q := q
  cases e2 : firstV y vs with
  | none => rw [e2] at q; exact (show False from q).elim
  | some j =>
   rw [e2] at q
   obtain ⟨a, rfl, rfl, hq, fs, fy⟩ := flatArgs_rel sr r t e
   cases (show v = Value.ref a from rx)
   obtain ⟨u, rfl, ru⟩ := rv.one
   obtain ⟨its, tv, ⟨⟨oc, od, odt, osl⟩, n, ho, hc, hd, hs⟩, hz⟩ := I.list hq
   dsimp only at hc hd hs
   subst hc hd hs
   obtain ⟨h1, h2, h3⟩ := firstV_ok tv fs e2
   have hl : its.length ≤ sizeLine := by rw [← tv.length]; exact hz
   have hb : (sizeLine : Nat) < 2 ^ 62 := by decide
   refine call_meets F.slot_list_index ⟨_, ho, rfl⟩ F.entry_list_index (F.args_list_index_2 _ _) (SeqAt.list_indexAt a its.toArray n none osl u (eqU y) j (by simpa using h1) (by omega) (by simpa using h2) (fun m hm hlt => by simpa using h3 m (by simpa using hm) hlt)) ⟨ho, fun w' hw => mem_eqAt ru fy tv fs w' (by simpa using hw), ?_⟩
   exact ⟨.int _, H, I.tok _, ⟨_, rfl⟩, q _ ι G H (Ext.refl _ _ _) sr (.int _)⟩
theorem mth_index : Mth X "index" "list" "list.index" opIndex := ⟨.inr (.inl rfl), F.plainAttrs_list, F.slot_list_index, F.type_list_index, mw_index⟩
end
end DL
namespace DL
open PySem PySem.Spec PyProof.Rows L2
section
variable {X : Cx}
end
end DL
namespace DL
open PySem PySem.Spec PyProof.Rows L2
section
variable {X : Cx}
def isD : W → W → Option Bool
 | .non, .non => some true
 | .non, .bl _ => some false
 | .bl _, .non => some false
 | .bl a, .bl b => some (a == b)
 | .int _, .non => some false
 | .int _, .bl _ => some false
 | .str _, .non => some false
 | .str _, .bl _ => some false
 | .tup _, .non => some false
 | .tup _, .bl _ => some false
 | .lst _, .non => some false
 | .lst _, .bl _ => some false
 | .dct _ _, .non => some false
 | .dct _ _, .bl _ => some false
 | .ref _, .non => some false
 | .ref _, .bl _ => some false
 | .exn _, .non => some false
 | .exn _, .bl _ => some false
 | _, _ => none
theorem isD_ok {K : PySem.W.Frag} {ι : Nat → Addr} {N : Nat} {G : Hp} {x y : V} {w1 w2 : W} {v u : Value} {b : Bool} (rx : RelV x v) (ry : RelV y u) (r1 : RelW K ι N G x w1) (r2 : RelW K ι N G y w2) (h : isD w1 w2 = some b) : plainIs v u = true ∧ (v == u) = b := by
 cases r2 with
 | non =>
  cases (show u = Value.none from ry)
  cases r1 <;> first
   | (cases h; cases (show v = Value.none from rx); exact ⟨rfl, rfl⟩)
   | (cases h; cases (show v = Value.bool _ from rx); exact ⟨rfl, rfl⟩)
   | (cases h; obtain ⟨t, e⟩ := (show ∃ t, v = Value.int _ t from rx); cases e; exact ⟨rfl, rfl⟩)
   | (cases h; obtain ⟨t, e⟩ := (show ∃ t, v = Value.str _ t from rx); cases e; exact ⟨rfl, rfl⟩)
   | (cases h; cases (show v = Value.ref _ from rx); exact ⟨rfl, rfl⟩)
   | (cases h; done)
 | bl c =>
  cases (show u = Value.bool c from ry)
  cases r1 <;> first
   | (cases h; cases (show v = Value.none from rx); exact ⟨rfl, rfl⟩)
   | (cases h; cases (show v = Value.bool _ from rx); rename_i d; refine ⟨rfl, ?_⟩; cases d <;> cases c <;> rfl)
   | (cases h; obtain ⟨t, e⟩ := (show ∃ t, v = Value.int _ t from rx); cases e; exact ⟨rfl, rfl⟩)
   | (cases h; obtain ⟨t, e⟩ := (show ∃ t, v = Value.str _ t from rx); cases e; exact ⟨rfl, rfl⟩)
   | (cases h; cases (show v = Value.ref _ from rx); exact ⟨rfl, rfl⟩)
   | (cases h; done)
 | _ => cases w1 <;> cases h
def opIs : Op2 := fun a b st => match isD a b with
 | some c => .ok (.bl c) st
 | none => .stuck
def opIsNot : Op2 := fun a b st => match isD a b with
 | some c => .ok (.bl (!c)) st
 | none => .stuck
theorem opw_is : OpW X (compareOp .Is) opIs := by
 intro pins s σ H ι G st x y w1 w2 v u Q I sr rx ry r1 r2 q
 unfold opIs at q
 cases e : isD w1 w2 with
 | none => rw [e] at q; exact (show False from q).elim
 | some c =>
  rw [e] at q
  obtain ⟨h1, h2⟩ := isD_ok rx ry r1 r2 e
  refine wpAny_is_plain h1 ?_
  rw [h2]
  exact ⟨.bl c, H, I, rfl, q (.bl c) ι G H (Ext.refl _ _ _) sr (.bl c)⟩
theorem opw_isNot : OpW X (compareOp .IsNot) opIsNot := by
 intro pins s σ H ι G st x y w1 w2 v u Q I sr rx ry r1 r2 q
 unfold opIsNot at q
 cases e : isD w1 w2 with
 | none => rw [e] at q; exact (show False from q).elim
 | some c =>
  rw [e] at q
  obtain ⟨h1, h2⟩ := isD_ok rx ry r1 r2 e
  refine wpAny_isNot_plain h1 ?_
  rw [h2]
  exact ⟨.bl (!c), H, I, rfl, q (.bl (!c)) ι G H (Ext.refl _ _ _) sr (.bl (!c))⟩
end
end DL
namespace DL
open PySem PySem.Spec PyProof.Rows L2
section
variable {X : Cx}
def keyW : W → Option Key
 | .int i => some (.inl i)
 | .str x => some (.inr x)
 | _ => none
def valW : List Key → List W → Key → Option W
 | k :: ks, w :: ws, j => if k = j then some w else valW ks ws j
 | _, _, _ => none
def dctOf (st : S) : W → Option (List Key × List W)
 | .dct ks ws => some (ks, ws)
 | .ref n => (match st.mu n with
  | some (.dct ks ws) => some (ks, ws)
  | _ => none)
 | _ => none
theorem keyW_rel {K : PySem.W.Frag} {ι : Nat → Addr} {N : Nat} {G : Hp} {v : V} {w : W} {k : Key} (r : RelW K ι N G v w) (h : keyW w = some k) : v = kV k := by
 cases r <;> first | (cases h; rfl) | (cases h; done)
theorem valW_rel {K : PySem.W.Frag} {ι : Nat → Addr} {N : Nat} {G : Hp} {k : Key} : ∀ {ks : List Key} {xs : List V} {ws : List W}, RelWs K ι N G xs ws → xs.length = ks.length →
  (valV (ks.zip xs) k = none ∧ valW ks ws k = none) ∨ ∃ v w, valV (ks.zip xs) k = some v ∧ valW ks ws k = some w ∧ RelW K ι N G v w
 | [], _, _, _, _ => .inl ⟨rfl, by unfold valW; rfl⟩
 | j :: ks, [], _, _, h => by cases h
 | j :: ks, x :: xs, _, .cons r t, h => by
  by_cases e : j = k
  ·refine .inr ⟨x, _, ?_, ?_, r⟩
   ·exact valV_pos (p := (j, x)) e
   ·unfold valW; rw [if_pos e]
  ·have e1 : valV ((j :: ks).zip (x :: xs)) k = valV (ks.zip xs) k := valV_neg (p := (j, x)) e
   rcases valW_rel (k := k) t (by simpa using h) with ⟨h1, h2⟩ | ⟨v, w, h1, h2, h3⟩
   ·exact .inl ⟨e1.trans h1, by unfold valW; rw [if_neg e]; exact h2⟩
   ·exact .inr ⟨v, w, e1.trans h1, by unfold valW; rw [if_neg e]; exact h2, h3⟩
theorem dctOf_rel {ι : Nat → Addr} {G H : Hp} {st : S} {v : V} {w : W} {ks : List Key} {ws : List W} (sr : SR X.K ι st G H) (r : RelW X.K ι st.nxt G v w) (h : dctOf st w = some (ks, ws)) : ∃ a xs, v = .ref a ∧ H a = some (.dK (ks.zip xs)) ∧ xs.length = ks.length ∧ RelWs X.K ι st.nxt G xs ws := by
 cases r with
 | @dct a xs _ _ s l t => cases h; exact ⟨a, xs, rfl, sr.sub _ _ s, l, t⟩
 | @ref n hn =>
  have h : (match st.mu n with
   | some (.dct ks ws) => some (ks, ws)
   | _ => none) = some (ks, ws) := h
  cases e : st.mu n with
  | none => rw [e] at h; cases h
  | some o =>
   rw [e] at h
   cases o with
   | lst zs => cases h
   | dct ks' zs =>
    cases h
    obtain ⟨_, _, xs, h1, h2, h3⟩ := sr.live n _ e
    exact ⟨ι n, xs, rfl, h1, h2, h3⟩
 | _ => cases h
def inDct (st : S) (a b : W) : Option Bool := match keyW a, dctOf st b with
 | some k, some (ks, ws) => some (valW ks ws k).isSome
 | _, _ => none
theorem inDct_rel {ι : Nat → Addr} {G H : Hp} {st : S} {x y : V} {w1 w2 : W} {b : Bool} (sr : SR X.K ι st G H) (r1 : RelW X.K ι st.nxt G x w1) (r2 : RelW X.K ι st.nxt G y w2) (h : inDct st w1 w2 = some b) : ∃ a o, y = .ref a ∧ DGet H a x o ∧ o.isSome = b := by
 unfold inDct at h
 cases e1 : keyW w1 with
 | none => rw [e1] at h; cases h
 | some k =>
  cases e2 : dctOf st w2 with
  | none => rw [e1, e2] at h; cases h
  | some p =>
   obtain ⟨ks, ws⟩ := p
   rw [e1, e2] at h
   cases h
   obtain ⟨a, xs, rfl, hH, hl, t⟩ := dctOf_rel sr r2 e2
   refine ⟨a, _, rfl, by rw [keyW_rel r1 e1]; exact DGet.k hH, ?_⟩
   rcases valW_rel (k := k) t hl with ⟨h1, h2⟩ | ⟨v, w, h1, h2, _⟩
   ·rw [h1, h2]; rfl
   ·rw [h1, h2]; rfl
def opIn : Op2 := fun a b st => match inDct st a b with
 | some c => .ok (.bl c) st
 | none => opIn0 a b st
def opNotIn : Op2 := fun a b st => match inDct st a b with
 | some c => .ok (.bl (!c)) st
 | none => opNotIn0 a b st
theorem opw_in (hu : X.A.units + 64 < cLine) : OpW X (compareOp .In) opIn := by
 intro pins s σ H ι G st x y w1 w2 v u Q I sr rx ry r1 r2 q
 unfold opIn at q
 cases e : inDct st w1 w2 with
 | none => rw [e] at q; exact opw_in0 hu pins s σ H ι G st x y w1 w2 v u Q I sr rx ry r1 r2 q
 | some c =>
  rw [e] at q
  obtain ⟨a, o, rfl, g, ho⟩ := inDct_rel sr r1 r2 e
  cases (show u = Value.ref a from ry)
  refine d_in (by omega) I g rx fun s' I' => ?_
  rw [ho]
  exact ⟨.bl c, H, I', rfl, q (.bl c) ι G H (Ext.refl _ _ _) sr (.bl c)⟩
theorem opw_notIn (hu : X.A.units + 64 < cLine) : OpW X (compareOp .NotIn) opNotIn := by
 intro pins s σ H ι G st x y w1 w2 v u Q I sr rx ry r1 r2 q
 unfold opNotIn at q
 cases e : inDct st w1 w2 with
 | none => rw [e] at q; exact opw_notIn0 hu pins s σ H ι G st x y w1 w2 v u Q I sr rx ry r1 r2 q
 | some c =>
  rw [e] at q
  obtain ⟨a, o, rfl, g, ho⟩ := inDct_rel sr r1 r2 e
  cases (show u = Value.ref a from ry)
  refine d_notIn (by omega) I g rx fun s' I' => ?_
  rw [ho]
  exact ⟨.bl (!c), H, I', rfl, q (.bl (!c)) ι G H (Ext.refl _ _ _) sr (.bl (!c))⟩
def opIdx : Op2 := fun a b st => match dctOf st a, keyW b with
 | some (ks, ws), some k => (match valW ks ws k with
  | some w => .ok w st
  | none => .stuck)
 | _, _ => opIdx0 a b st
theorem pd_ixX {a b : Expr} {pos : Pos} {ra rb : Run} (hu : X.A.units + 1 < cLine) (ha : PD X a ra) (hb : PD X b rb) (hs : NoSl b) (hix : PD X (.Subscript a b pos) (run2 ra rb opIdx0)) : PD X (.Subscript a b pos) (run2 ra rb opIdx) := by
 intro pins s σ H Q I h
 obtain ⟨ι, G, st, Γ, en, sr, q⟩ := h
 have ch : (∃ w1 st1 w2 st2 ks ws k, ra Γ st = .ok w1 st1 ∧ rb Γ st1 = .ok w2 st2 ∧ dctOf st2 w1 = some (ks, ws) ∧ keyW w2 = some k) ∨ run2 ra rb opIdx Γ st = run2 ra rb opIdx0 Γ st := by
  unfold run2
  cases e1 : ra Γ st with
  | stuck => exact .inr rfl
  | ex c s => exact .inr rfl
  | ok w1 st1 =>
   cases e2 : rb Γ st1 with
   | stuck => refine .inr ?_; show (rb Γ st1).bind _ = (rb Γ st1).bind _; rw [e2]; rfl
   | ex c s => refine .inr ?_; show (rb Γ st1).bind _ = (rb Γ st1).bind _; rw [e2]; rfl
   | ok w2 st2 =>
    cases e3 : dctOf st2 w1 with
    | none =>
     refine .inr ?_
     show (rb Γ st1).bind _ = (rb Γ st1).bind _
     rw [e2]
     show opIdx w1 w2 st2 = opIdx0 w1 w2 st2
     unfold opIdx; rw [e3]
    | some p =>
     obtain ⟨ks, ws⟩ := p
     cases e4 : keyW w2 with
     | none =>
      refine .inr ?_
      show (rb Γ st1).bind _ = (rb Γ st1).bind _
      rw [e2]
      show opIdx w1 w2 st2 = opIdx0 w1 w2 st2
      unfold opIdx; rw [e3, e4]
     | some k => exact .inl ⟨w1, st1, w2, st2, ks, ws, k, rfl, e2, e3, e4⟩
 rcases ch with ⟨w1, st1, w2, st2, ks, ws, k, e1, e2, e3, e4⟩ | ch
 ·refine pe_dget hu ha hb hs pins s σ H Q I ⟨ι, G, st, Γ, en, sr, wpW.bind q fun w1' st1' v1 ι1 G1 H1 e1' x1 sr1 r1 q1 => ⟨ι1, G1, st1', Γ, en.mono x1, sr1, wpW.bind q1 fun w2' st2' v2 ι2 G2 H2 e2' x2 sr2 r2 q2 => ?_⟩⟩
  rw [e1] at e1'; cases e1'
  rw [e2] at e2'; cases e2'
  obtain ⟨a, xs, rfl, hH, hl, t⟩ := dctOf_rel sr2 (r1.mono x2) e3
  unfold opIdx at q2
  rw [e3, e4] at q2
  have q3 : wpW X ι2 st2.nxt G2 (match valW ks ws k with
   | some w => .ok w st2
   | none => .stuck) Q := q2
  rcases valW_rel (k := k) t hl with ⟨h1, h2⟩ | ⟨v, w, h1, h2, h3⟩
  ·rw [h2] at q3; exact (show False from q3).elim
  ·rw [h2] at q3
   refine ⟨a, v, rfl, ?_, q3 v ι2 G2 H2 (Ext.refl _ _ _) sr2 h3⟩
   rw [keyW_rel r2 e4, ← h1]
   exact DGet.k hH
 ·exact hix pins s σ H Q I ⟨ι, G, st, Γ, en, sr, by rw [← ch]; exact q⟩
end
end DL
namespace DL
open PySem PySem.Spec PyProof.Rows L2
def KD (P : Program) (w : World) (K : PySem.W.Frag) (a : Addr) (kvs : List (Key × V)) : Prop :=
 (a == sysModules) = false ∧ ∃ (o : Obj) (vs : List (Key × Value)), K.lookup a = some o ∧ KV kvs vs ∧ ∀ h : Heap, h.get? a = some o → h.DictOf (mixKind P w) a vs
def KDs (P : Program) (w : World) (K : PySem.W.Frag) (mg : Str → Option Value) (x : Str) (ks : List Key) (ws : List W) : Prop :=
 ∃ a xs, mg x = some (.ref a) ∧ KD P w K a (ks.zip xs) ∧ xs.length = ks.length ∧ ∀ ι N G, RelWs K ι N G xs ws
section
variable {X : Cx}
end
end DL
namespace DL
open PySem PySem.Spec PyProof.Rows L2
section
variable {K : PySem.W.Frag} {ι : Nat → Addr} {st : S} {G H : Hp}
theorem live_at {n : Nat} {o : MO} (h : SR K ι st G H) (e : st.mu n = some o) : H (ι n) ≠ none := by
 intro z
 obtain ⟨_, _, h3⟩ := h.live n o e
 cases o with
 | lst ws => obtain ⟨xs, q, _⟩ := h3; rw [z] at q; cases q
 | dct ks ws => obtain ⟨xs, q, _⟩ := h3; rw [z] at q; cases q
theorem MOR.upd {N : Nat} {a p : Addr} {o : MO} {u : HO} (m : MOR K ι N G H a o) (hne : a ≠ p) : MOR K ι N G (upd H p u) a o := by
 cases o with
 | lst ws => obtain ⟨xs, q, r⟩ := m; exact ⟨xs, by rw [upd_ne hne]; exact q, r⟩
 | dct ks ws => obtain ⟨xs, q, l, r⟩ := m; exact ⟨xs, by rw [upd_ne hne]; exact q, l, r⟩
theorem SR.grow {p : Addr} {u : HO} (h : SR K ι st G H) (hp : H p = none) : SR K ι st G (upd H p u) := by
 have hG : G p = none := h.sub.free hp
 refine ⟨fun b v e => by rw [upd_ne (ne_of_none e hG)]; exact h.sub b v e, fun n o e => ?_, h.inj⟩
 obtain ⟨h1, h2, h3⟩ := h.live n o e
 exact ⟨h1, h2, h3.upd fun z => live_at h e (by rw [z]; exact hp)⟩
theorem SR.newO {p : Addr} {u : HO} {o : MO} (h : SR K ι st G H) (hp : H p = none) (m : MOR K ι st.nxt G (upd H p u) p o) : ∃ ι', Ext ι st.nxt G ι' (st.nxt + 1) G ∧ SR K ι' (st.new o) G (upd H p u) ∧ ι' st.nxt = p :=
 (h.grow hp).adopt (h.sub.free hp) (fun m o e z => live_at h e (by rw [z]; exact hp)) m
theorem SR.putO {n : Nat} {o o' : MO} {u : HO} (h : SR K ι st G H) (hn : st.mu n = some o) (m : MOR K ι st.nxt G (L2.upd H (ι n) u) (ι n) o') : SR K ι (st.put n o') G (L2.upd H (ι n) u) := by
 obtain ⟨h1, h2, _⟩ := h.live n o hn
 have old : ∀ a q, (st.put n o').mu a = some q → ∃ q', st.mu a = some q' := fun a q e => by
  have e : (if a = n then some o' else st.mu a) = some q := e
  by_cases z : a = n
  ·exact ⟨o, by rw [z]; exact hn⟩
  ·rw [if_neg z] at e; exact ⟨q, e⟩
 refine ⟨fun b v e => by rw [upd_ne (ne_of_none e h2)]; exact h.sub b v e, fun a q e => ?_, fun a b q q' e e' z => ?_⟩
 ·have e' : (if a = n then some o' else st.mu a) = some q := e
  by_cases ha : a = n
  ·subst ha
   rw [if_pos rfl] at e'
   cases e'
   exact ⟨h1, h2, m⟩
  ·rw [if_neg ha] at e'
   obtain ⟨g1, g2, g3⟩ := h.live a q e'
   exact ⟨g1, g2, g3.upd fun z => ha (h.inj a n q o e' hn z)⟩
 ·obtain ⟨q1, l1⟩ := old a q e
  obtain ⟨q2, l2⟩ := old b q' e'
  exact h.inj a b q1 q2 l1 l2 z
end
def replW (k : Key) (v : W) : List Key → List W → List W
 | j :: ks, w :: ws => (if j = k then v else w) :: replW k v ks ws
 | _, _ => []
def hasK (k : Key) (ks : List Key) : Bool := ks.any fun j => decide (j = k)
def putW (ks : List Key) (ws : List W) (k : Key) (v : W) : List Key × List W := if hasK k ks = true then (ks, replW k v ks ws) else (ks ++ [k], ws ++ [v])
def replV (k : Key) (v : V) : List Key → List V → List V
 | j :: ks, w :: ws => (if j = k then v else w) :: replV k v ks ws
 | _, _ => []
theorem repl_rel {K : PySem.W.Frag} {ι : Nat → Addr} {N : Nat} {G : Hp} {k : Key} {v : V} {w : W} (r : RelW K ι N G v w) : ∀ {ks : List Key} {xs : List V} {ws : List W}, RelWs K ι N G xs ws → xs.length = ks.length →
  RelWs K ι N G (replV k v ks xs) (replW k w ks ws) ∧ (replV k v ks xs).length = ks.length ∧ (ks.zip xs).map (fun kv => if kv.1 = k then (kv.1, v) else kv) = ks.zip (replV k v ks xs)
 | [], [], _, .nil, _ => ⟨.nil, rfl, rfl⟩
 | j :: ks, x :: xs, _, .cons r1 t, h => by
  obtain ⟨h1, h2, h3⟩ := repl_rel (k := k) r t (by simpa using h)
  refine ⟨?_, ?_, ?_⟩
  ·by_cases e : j = k
   ·show RelWs K ι N G ((if j = k then v else x) :: _) ((if j = k then w else _) :: _)
    rw [if_pos e, if_pos e]; exact .cons r h1
   ·show RelWs K ι N G ((if j = k then v else x) :: _) ((if j = k then w else _) :: _)
    rw [if_neg e, if_neg e]; exact .cons r1 h1
  ·show (replV k v ks xs).length + 1 = ks.length + 1
   rw [h2]
  ·show (if j = k then (j, v) else (j, x)) :: (ks.zip xs).map (fun kv => if kv.1 = k then (kv.1, v) else kv) = (j, if j = k then v else x) :: ks.zip (replV k v ks xs)
   rw [h3]
   by_cases e : j = k <;> simp [e]
 | [], _ :: _, _, _, h => by cases h
 | _ :: _, [], _, _, h => by cases h
theorem any_mem {k : Key} : ∀ {ks : List Key} {xs : List V}, xs.length = ks.length → ((ks.zip xs).any fun kv => decide (kv.1 = k)) = hasK k ks
 | [], _, _ => by simp [hasK]
 | j :: ks, [], h => by cases h
 | j :: ks, x :: xs, h => by
  have ih := any_mem (k := k) (ks := ks) (xs := xs) (by simpa using h)
  rw [List.zip_cons_cons, List.any_cons, ih]
  unfold hasK
  rw [List.any_cons]
theorem put_rel {K : PySem.W.Frag} {ι : Nat → Addr} {N : Nat} {G : Hp} {k : Key} {v : V} {w : W} {ks : List Key} {xs : List V} {ws : List W} (r : RelW K ι N G v w) (t : RelWs K ι N G xs ws) (h : xs.length = ks.length) :
  ∃ xs', putK (ks.zip xs) k v = (putW ks ws k w).1.zip xs' ∧ xs'.length = (putW ks ws k w).1.length ∧ RelWs K ι N G xs' (putW ks ws k w).2 := by
 unfold putK putW
 rw [any_mem h]
 by_cases hk : hasK k ks = true
 ·rw [if_pos hk, if_pos hk]
  obtain ⟨h1, h2, h3⟩ := repl_rel (k := k) r t h
  exact ⟨replV k v ks xs, h3, h2, h1⟩
 ·rw [if_neg hk, if_neg hk]
  refine ⟨xs ++ [v], ?_, by simp [h], t.append (.cons r .nil)⟩
  rw [List.zip_append h.symm]; rfl
section
variable {X : Cx}
def rDictN : Run := fun _ st => .ok (.ref st.nxt) (st.new (.dct [] []))
theorem newD_laid {ι : Nat → Addr} {G H : Hp} {st : S} {ks : List Key} {xs : List V} {ws : List W} {p : Addr} {Q : VK} (sr : SR X.K ι st G H) (t : RelWs X.K ι st.nxt G xs ws) (hl : xs.length = ks.length) (hp : H p = none) (q : wpW X ι st.nxt G (.ok (.ref st.nxt) (st.new (.dct ks ws))) Q) : Q (.ref p) (upd H p (.dK (ks.zip xs))) := by
 obtain ⟨ι', e2, s2, ep⟩ := sr.newO (o := .dct ks ws) (u := .dK (ks.zip xs)) hp ⟨xs, upd_same, hl, t⟩
 have q' := q (.ref p) ι' G (upd H p (.dK (ks.zip xs))) e2 s2
 rw [← ep] at q' ⊢
 exact q' (.ref (Nat.lt_succ_self _))
theorem pd_dictN {pos : Pos} : PD X (.Dict [] [] pos) rDictN := by
 refine PE.imp pe_dnewK fun σ H Q h => ?_
 obtain ⟨ι, G, st, Γ, en, sr, q⟩ := h
 intro p hp
 exact newD_laid (ks := []) (xs := []) sr .nil rfl hp q
def opDictC (m : Bool) : OpN := fun ws st => match ws with
 | [w] => (match dctOf st w with
  | some (ks, vs) => if m then .ok (.ref st.nxt) (st.new (.dct ks vs)) else .ok (.dct ks vs) st
  | none => .stuck)
 | _ => .stuck
theorem cw_dict {m : Bool} : CallW X (.type "dict") (opDictC m) := by
 intro pins s σ H ι G st xs ws us Q I sr rv t q
 unfold opDictC at q
 split at q
 ·rename_i w
  obtain ⟨v, rfl, r⟩ := rel1 t
  cases e : dctOf st w with
  | none => rw [e] at q; exact (show False from q).elim
  | some p =>
   obtain ⟨ks, vs⟩ := p
   rw [e] at q
   obtain ⟨a, xs, rfl, hH, hl, t2⟩ := dctOf_rel sr r e
   cases rv with
   | cons ru rv =>
    cases rv
    rename_i u
    cases (show u = Value.ref a from ru)
    refine d_copyOf I (.inl hH) fun p s' hp I' => ⟨.ref p, _, I', rfl, ?_⟩
    cases m with
    | true => exact newD_laid sr t2 hl hp q
    | false =>
     obtain ⟨s2, e2⟩ := sr.laid (o := .dK (ks.zip xs)) hp
     exact (show wpW X ι st.nxt G (.ok (.dct ks vs) st) Q from q) _ ι _ _ e2 s2 (.dct upd_same hl (t2.mono e2))
 ·exact (show False from q).elim
def opGet : OpM := fun w ws st => match dctOf st w, ws with
 | some (ks, vs), [k] => (match keyW k with
  | some k => .ok ((valW ks vs k).getD .non) st
  | none => .stuck)
 | some (ks, vs), [k, d] => (match keyW k with
  | some k => .ok ((valW ks vs k).getD d) st
  | none => .stuck)
 | _, _ => .stuck
theorem mw_get (hu : X.A.units + 1 < cLine) : MtR X "dict.get" (rMt X opGet) := by
 intro pins s σ H x xs v us Q I rx rv ⟨ι, G, st, w, ws, sr, r, t, q⟩
 unfold opGet at q
 split at q
 ·rename_i ks vs k e
  obtain ⟨a, ys, rfl, hH, hl, t2⟩ := dctOf_rel sr r e
  cases (show v = Value.ref a from rx)
  obtain ⟨v1, rfl, r1⟩ := rel1 t
  obtain ⟨u1, rfl, ru⟩ := rv.one
  cases ek : keyW k with
  | none => rw [ek] at q; exact (show False from q).elim
  | some k' =>
   rw [ek] at q
   have q : wpW X ι st.nxt G (.ok ((valW ks vs k').getD .non) st) Q := q
   refine d_get1 hu I (by rw [keyW_rel r1 ek]; exact DGet.k hH) ru fun w' s' I' rw' => ⟨_, H, I', rw', ?_⟩
   rcases valW_rel (k := k') t2 hl with ⟨h1, h2⟩ | ⟨v2, w2, h1, h2, h3⟩
   ·rw [h1]; rw [h2] at q; exact q _ ι G H (Ext.refl _ _ _) sr .non
   ·rw [h1]; rw [h2] at q; exact q _ ι G H (Ext.refl _ _ _) sr h3
 ·rename_i ks vs k d e
  obtain ⟨a, ys, rfl, hH, hl, t2⟩ := dctOf_rel sr r e
  cases (show v = Value.ref a from rx)
  obtain ⟨v1, v2, rfl, r1, r2⟩ := rel2 t
  cases rv with
  | cons ru rv =>
   cases rv with
   | cons ru2 rv =>
    cases rv
    cases ek : keyW k with
    | none => rw [ek] at q; exact (show False from q).elim
    | some k' =>
     rw [ek] at q
     have q : wpW X ι st.nxt G (.ok ((valW ks vs k').getD d) st) Q := q
     refine d_get2 hu I (by rw [keyW_rel r1 ek]; exact DGet.k hH) ru ru2 fun w' s' I' rw' => ⟨_, H, I', rw', ?_⟩
     rcases valW_rel (k := k') t2 hl with ⟨h1, h2⟩ | ⟨v3, w3, h1, h2, h3⟩
     ·rw [h1]; rw [h2] at q; exact q _ ι G H (Ext.refl _ _ _) sr r2
     ·rw [h1]; rw [h2] at q; exact q _ ι G H (Ext.refl _ _ _) sr h3
 ·exact (show False from q).elim
def opSetd : OpM := fun w ws st => match w, ws with
 | .ref n, [k, d] => (match st.mu n, keyW k with
  | some (.dct ks vs), some k => (match valW ks vs k with
   | some v => .ok v st
   | none => if ks.length < sizeLine then .ok d (st.put n (.dct (putW ks vs k d).1 (putW ks vs k d).2)) else .stuck)
  | _, _ => .stuck)
 | _, _ => .stuck
theorem stored_new {kvs : List (Key × V)} {vs : List (Key × Value)} {k : Key} {v : V} {u : Value} (r : KV kvs vs) (h : RelV v u) : KV (putK kvs k v) (stored vs k u) := r.put k h
theorem mw_setd : MtR X "dict.setdefault" (rMt X opSetd) := by
 intro pins s σ H x xs v us Q I rx rv ⟨ι, G, st, w, ws, sr, r, t, q⟩
 unfold opSetd at q
 split at q
 ·rename_i n k d
  cases r
  cases (show v = Value.ref (ι n) from rx)
  obtain ⟨v1, v2, rfl, r1, r2⟩ := rel2 t
  cases rv with
  | cons ru rv =>
   cases rv with
   | cons ru2 rv =>
    cases rv
    rename_i u1 u2
    split at q
    ·rename_i ks vs k' em ek
     obtain ⟨_, _, ys, hH, hl, t2⟩ := sr.live n _ em
     have e1 := keyW_rel r1 ek
     subst e1
     obtain ⟨z, hd, us2, rel, dd⟩ := dk_of I.hok hH
     refine call_meetsIn PySem.F.slot_dict_setdefault dd.typeIs PySem.F.entry_dict_setdefault (PySem.F.args_dict_setdefault_3 _ _ _) (kt_meets_setdefault (mixKind X.prog X.w) (ι n) (kV_is ru) hd u2) ⟨us2, dd, by rw [← rel.length]; exact z, fun y hy => ?_, fun hn h' dd' hs => ?_⟩
     ·rcases valW_rel (k := k') t2 hl with ⟨h1, h2⟩ | ⟨v3, w3, h1, h2, h3⟩
      ·have := rel.val k'
       rw [h1, hy] at this
       exact (show False from this).elim
      ·rw [h2] at q
       have ry : RelV v3 y := by have := rel.val k'; rw [h1, hy] at this; exact this
       exact ⟨v3, H, I.tok _, ry, (show wpW X ι st.nxt G (.ok w3 st) Q from q) v3 ι G H (Ext.refl _ _ _) sr h3⟩
     ·rcases valW_rel (k := k') t2 hl with ⟨h1, h2⟩ | ⟨v3, w3, h1, h2, h3⟩
      ·rw [h2] at q
       have q : wpW X ι st.nxt G (if ks.length < sizeLine then .ok d (st.put n (.dct (putW ks vs k' d).1 (putW ks vs k' d).2)) else .stuck) Q := q
       by_cases hz : ks.length < sizeLine
       ·rw [if_pos hz] at q
        obtain ⟨ys', e2, l2, t3⟩ := put_rel (k := k') r2 t2 hl
        have hlen : (putK (ks.zip ys) k' v2).length ≤ sizeLine := by
         have := length_putK (ks.zip ys) k' v2
         have l3 : (ks.zip ys).length = ks.length := by rw [List.length_zip, hl, Nat.min_self]
         omega
        have he : ∃ q, h'.get? (ι n) = some q := let ⟨q, _, _, hq, _⟩ := dd'; ⟨q, hq⟩
        refine ⟨v2, upd H (ι n) (.dK (putK (ks.zip ys) k' v2)), d_write I (by rw [hH]; exact True.intro) hs he (dk_new hlen hd (stored_new rel ru2) dd'), ru2, ?_⟩
        have m : MOR X.K ι st.nxt G (upd H (ι n) (.dK (putK (ks.zip ys) k' v2))) (ι n) (.dct (putW ks vs k' d).1 (putW ks vs k' d).2) := ⟨ys', by rw [upd_same, e2], l2, t3⟩
        exact q v2 ι G _ (Ext.refl _ _ _) (sr.putO em m) r2
       ·rw [if_neg hz] at q; exact q.elim
      ·have := rel.val k'
       rw [h1, hn] at this
       exact (show False from this).elim
    ·exact (show False from q).elim
 ·exact (show False from q).elim
theorem mth_get (hu : X.A.units + 1 < cLine) : Mth X "get" "dict" "dict.get" opGet := ⟨.inr (.inr rfl), F.plainAttrs_dict, F.slot_dict_get, F.type_dict_get, mw_get hu⟩
theorem mth_setd : Mth X "setdefault" "dict" "dict.setdefault" opSetd := ⟨.inr (.inr rfl), F.plainAttrs_dict, F.slot_dict_setdefault, F.type_dict_setdefault, mw_setd⟩
def eqVals (ks : List Key) (ws : List W) : List Key → List W → Option Bool
 | j :: js, v :: vs => (match valW ks ws j with
  | none => some false
  | some w => (match eqD 12 v w, eqVals ks ws js vs with
   | some a, some b => some (a && b)
   | _, _ => none))
 | _, _ => some true
def eqDct (st : S) (a b : W) : Option Bool := match dctOf st a, dctOf st b with
 | some (js, vs), some (ks, ws) => (eqVals ks ws js vs).map fun r => js.length == ks.length && r
 | _, _ => none
theorem eqVals_hits {pins : List (Addr × Obj)} {σ : St} {H : Hp} {s : Shared} {ι : Nat → Addr} {N : Nat} {ks : List Key} {xs : List V} {ws : List W} {us : List (Key × Value)} (I : Inv X pins σ H s) (hu : X.A.in1.units + 12 < cLine) (t : RelWs X.K ι N H xs ws) (hl : xs.length = ks.length) (kv : KV (ks.zip xs) us) :
  ∀ {js : List Key} {ys : List V} {vs : List W} {us2 : List (Key × Value)} {r : Bool}, RelWs X.K ι N H ys vs → ys.length = js.length → KV (js.zip ys) us2 → eqVals ks ws js vs = some r → PySem.W.KeqHits X.A.in1 s us us2 r
 | [], [], _, _, r, .nil, _, .nil, h => by cases h; exact .nil
 | j :: js, y :: ys, v :: vs, p :: us2, r, .cons r1 t1, hl1, .cons hp k1, h => by
  obtain ⟨k, u⟩ := p
  obtain ⟨e1, ru⟩ := hp
  have e1 : j = k := e1
  subst e1
  have val := kv.val j
  unfold eqVals at h
  rcases valW_rel (k := j) t hl with ⟨h1, h2⟩ | ⟨v3, w3, h1, h2, h3⟩
  ·rw [h2] at h
   cases h
   refine .miss ?_
   rw [h1] at val
   cases e : valueAt us j with
   | none => rfl
   | some z => rw [e] at val; exact (show False from val).elim
  ·rw [h2] at h
   have h : (match eqD 12 v w3, eqVals ks ws js vs with
    | some a, some b => some (a && b)
    | _, _ => none) = some r := h
   cases ea : eqD 12 v w3 with
   | none => rw [ea] at h; cases h
   | some a =>
    cases eb : eqVals ks ws js vs with
    | none => rw [ea, eb] at h; cases h
    | some b =>
     rw [ea, eb] at h
     cases h
     obtain ⟨z, hz, rz⟩ := RelO.some_of (v := v3) (o := valueAt us j) (by rw [← h1]; exact val)
     exact .hit hz (eqD_at I 12 (A := X.A.in1) ea r1 h3 ru rz hu).1 (eqVals_hits I hu t hl kv t1 (by simpa using hl1) k1 eb)
 | [], _ :: _, _, _, _, _, h, _, _ => by cases h
 | _ :: _, [], _, _, _, _, h, _, _ => by cases h
theorem eqDct_rel {pins : List (Addr × Obj)} {σ : St} {H : Hp} {s : Shared} {ι : Nat → Addr} {G : Hp} {st : S} {x y : V} {w1 w2 : W} {b : Bool} (I : Inv X pins σ H s) (hu : X.A.units + 64 < cLine) (sr : SR X.K ι st G H) (r1 : RelW X.K ι st.nxt G x w1) (r2 : RelW X.K ι st.nxt G y w2) (h : eqDct st w1 w2 = some b) :
  ∃ a c ka kb r, x = .ref a ∧ y = .ref c ∧ (a == sysModules) = false ∧ (c == sysModules) = false ∧ s.heap.DictOf (mixKind X.prog X.w) a ka ∧ s.heap.DictOf (mixKind X.prog X.w) c kb ∧ PySem.W.KeqHits X.A.in1 s kb ka r ∧ (ka.length == kb.length && r) = b := by
 unfold eqDct at h
 split at h
 ·rename_i js vs ks ws e1 e2
  obtain ⟨a, ys, rfl, hH, hl, t⟩ := dctOf_rel sr r1 e1
  obtain ⟨c, xs, rfl, hH2, hl2, t2⟩ := dctOf_rel sr r2 e2
  obtain ⟨z, hd, ua, rel, dd⟩ := dk_of I.hok hH
  obtain ⟨z2, hd2, ub, rel2, dd2⟩ := dk_of I.hok hH2
  cases e : eqVals ks ws js vs with
  | none => rw [e] at h; cases h
  | some r =>
   rw [e] at h
   cases h
   refine ⟨a, c, ua, ub, r, rfl, rfl, hd, hd2, dd, dd2, eqVals_hits I (by show X.A.units + 1 + 12 < cLine; omega) (t2.mono sr.look) hl2 rel2 (t.mono sr.look) hl rel e, ?_⟩
   have l1 := rel.length
   have l2 := rel2.length
   rw [List.length_zip, hl, Nat.min_self] at l1
   rw [List.length_zip, hl2, Nat.min_self] at l2
   rw [← l1, ← l2]
 ·cases h
def eqW (st : S) (a b : W) : Option Bool := match eqDct st a b with
 | some c => some c
 | none => (match eqD 12 a b with
  | some c => some c
  | none => (match frz 0 st.mu 12 a, frz 0 st.mu 12 b with
   | some a', some b' => eqD 12 a' b'
   | _, _ => none))
def opEq : Op2 := fun a b st => match eqW st a b with
 | some r => .ok (.bl r) st
 | none => .stuck
def opNe : Op2 := fun a b st => match eqW st a b with
 | some r => .ok (.bl (!r)) st
 | none => .stuck
theorem seen {K : PySem.W.Frag} {ι : Nat → Addr} {st : S} {G H : Hp} {v : V} {w w' : W} (sr : SR K ι st G H) (r : RelW K ι st.nxt G v w) (h : frz 0 st.mu 12 w = some w') : RelW K ι 0 H v w' :=
 frz_rel sr.sub (fun n o _ e => (sr.live n o e).2.2) 12 v w w' r h
theorem eqW_rel {pins : List (Addr × Obj)} {σ : St} {H : Hp} {s : Shared} {ι : Nat → Addr} {G : Hp} {st : S} {x y : V} {w1 w2 : W} {v u : Value} {b : Bool} (I : Inv X pins σ H s) (hu : X.A.units + 64 < cLine) (sr : SR X.K ι st G H) (rx : RelV x v) (ry : RelV y u) (r1 : RelW X.K ι st.nxt G x w1) (r2 : RelW X.K ι st.nxt G y w2) (h : eqW st w1 w2 = some b) :
  (∀ (Q : Value → Shared → Prop) (E : Value → Shared → Prop), Q (.bool b) s → wpAny (model X.prog X.w) X.A (compareOp .Eq v u) Q E s) ∧ ∀ (Q : Value → Shared → Prop) (E : Value → Shared → Prop), Q (.bool (!b)) s → wpAny (model X.prog X.w) X.A (compareOp .NotEq v u) Q E s := by
 unfold eqW at h
 cases e : eqDct st w1 w2 with
 | some c =>
  rw [e] at h
  cases h
  obtain ⟨a, c, ka, kb, r, rfl, rfl, ha, hc, da, db, hits, er⟩ := eqDct_rel I hu sr r1 r2 e
  cases (show v = Value.ref a from rx)
  cases (show u = Value.ref c from ry)
  refine ⟨fun Q E q => PySem.W.keq_eq ha hc da db (by omega) (fun _ => hits) (by rw [er]; exact q), fun Q E q => PySem.W.keq_ne ha hc da db (by omega) (fun _ => hits) (by rw [er]; exact q)⟩
 | none =>
  rw [e] at h
  have h : (match eqD 12 w1 w2 with
   | some c => some c
   | none => (match frz 0 st.mu 12 w1, frz 0 st.mu 12 w2 with
    | some a', some b' => eqD 12 a' b'
    | _, _ => none)) = some b := h
  cases e2 : eqD 12 w1 w2 with
  | some c =>
   rw [e2] at h
   cases h
   have q := eqD_at I 12 (A := X.A) e2 (r1.mono sr.look) (r2.mono sr.look) rx ry (by omega)
   exact ⟨fun Q E h => q.2.1 _ _ E Q h, fun Q E h => q.2.2 _ _ E Q h⟩
  | none =>
   rw [e2] at h
   have h : (match frz 0 st.mu 12 w1, frz 0 st.mu 12 w2 with
    | some a', some b' => eqD 12 a' b'
    | _, _ => none) = some b := h
   split at h
   ·rename_i a' b' ea eb
    have q := eqD_at I 12 (A := X.A) h (seen sr r1 ea) (seen sr r2 eb) rx ry (by omega)
    exact ⟨fun Q E h => q.2.1 _ _ E Q h, fun Q E h => q.2.2 _ _ E Q h⟩
   ·cases h
theorem opw_eq (hu : X.A.units + 64 < cLine) : OpW X (compareOp .Eq) opEq := by
 intro pins s σ H ι G st x y w1 w2 v u Q I sr rx ry r1 r2 q
 unfold opEq at q
 cases e : eqW st w1 w2 with
 | none => rw [e] at q; exact (show False from q).elim
 | some b => rw [e] at q; exact (eqW_rel I hu sr rx ry r1 r2 e).1 _ _ ⟨.bl b, H, I, rfl, q _ ι G H (Ext.refl _ _ _) sr (.bl _)⟩
theorem opw_ne (hu : X.A.units + 64 < cLine) : OpW X (compareOp .NotEq) opNe := by
 intro pins s σ H ι G st x y w1 w2 v u Q I sr rx ry r1 r2 q
 unfold opNe at q
 cases e : eqW st w1 w2 with
 | none => rw [e] at q; exact (show False from q).elim
 | some b => rw [e] at q; exact (eqW_rel I hu sr rx ry r1 r2 e).2 _ _ ⟨.bl (!b), H, I, rfl, q _ ι G H (Ext.refl _ _ _) sr (.bl _)⟩
def setIx1 (n : Nat) (i v : W) (st : S) : Option MO → Option Key → R Unit
 | some (.dct ks vs), some k => if ks.length < sizeLine then .ok () (st.put n (.dct (putW ks vs k v).1 (putW ks vs k v).2)) else .stuck
 | _, _ => opSetIx0 (.ref n) i v st
def opSetIx : W → W → W → S → R Unit := fun o i v st => match o with
 | .ref n => setIx1 n i v st (st.mu n) (keyW i)
 | _ => .stuck
def sSetIx (ro ri rv : Run) : RunS := fun Γ st => (rv Γ st).bind fun v st1 => (ro Γ st1).bind fun o st2 => (ri Γ st2).bind fun i st3 => (opSetIx o i v st3).bind fun _ st4 => .ok (.nx Γ) st4
theorem setIx_or (o i v : W) (st : S) : (∃ n ks vs k, o = .ref n ∧ st.mu n = some (.dct ks vs) ∧ keyW i = some k) ∨ opSetIx o i v st = opSetIx0 o i v st := by
 cases o with
 | ref n =>
  have e0 : opSetIx (.ref n) i v st = setIx1 n i v st (st.mu n) (keyW i) := rfl
  cases em : st.mu n with
  | none => refine .inr ?_; rw [e0, em]; rfl
  | some q =>
   cases q with
   | lst xs => refine .inr ?_; rw [e0, em]; rfl
   | dct ks vs =>
    cases ek : keyW i with
    | none => refine .inr ?_; rw [e0, em, ek]; rfl
    | some k => exact .inl ⟨n, ks, vs, k, rfl, em, rfl⟩
 | _ => exact .inr rfl
theorem pds_setIx {o i e : Expr} {pos tpos : Pos} {ro ri rv : Run} (hu : X.A.units + 1 < cLine) (ho : PD X o ro) (hi : PD X i ri) (he : PD X e rv) (hg : ∀ {t : TSet}, PSet X t → PG X (.Subscript o i tpos) (gSub (tD X ro) (tD X ri) t)) (hs : swapsWithSole [.Subscript o i tpos] e pos.line X.env = pure false) (hw : swappedStores [.Subscript o i tpos] e X.env = pure none) (hs' : swapsWith e (some (.Subscript o i tpos)) pos.line X.env = pure false) :
  PDS X (.Assign [.Subscript o i tpos] e pos) (sSetIx ro ri rv) := by
 intro pins s σ H D I h
 obtain ⟨ι, G, st, Γ, en, sr, q⟩ := h
 have ch : (∃ v st1 w st2 j st3 n ks vs k, rv Γ st = .ok v st1 ∧ ro Γ st1 = .ok w st2 ∧ ri Γ st2 = .ok j st3 ∧ w = .ref n ∧ st3.mu n = some (.dct ks vs) ∧ keyW j = some k) ∨ sSetIx ro ri rv Γ st = sSetIx0 ro ri rv Γ st := by
  unfold sSetIx sSetIx0
  cases e1 : rv Γ st with
  | stuck => exact .inr rfl
  | ex c s => exact .inr rfl
  | ok v st1 =>
   cases e2 : ro Γ st1 with
   | stuck => refine .inr ?_; show (ro Γ st1).bind _ = (ro Γ st1).bind _; rw [e2]; rfl
   | ex c s => refine .inr ?_; show (ro Γ st1).bind _ = (ro Γ st1).bind _; rw [e2]; rfl
   | ok w st2 =>
    cases e3 : ri Γ st2 with
    | stuck => refine .inr ?_; show (ro Γ st1).bind _ = (ro Γ st1).bind _; rw [e2]; show (ri Γ st2).bind _ = (ri Γ st2).bind _; rw [e3]; rfl
    | ex c s => refine .inr ?_; show (ro Γ st1).bind _ = (ro Γ st1).bind _; rw [e2]; show (ri Γ st2).bind _ = (ri Γ st2).bind _; rw [e3]; rfl
    | ok j st3 =>
     rcases setIx_or w j v st3 with ⟨n, ks, vs, k, h1, h2, h3⟩ | h
     ·exact .inl ⟨v, st1, w, st2, j, st3, n, ks, vs, k, rfl, e2, e3, h1, h2, h3⟩
     ·refine .inr ?_
      show (ro Γ st1).bind _ = (ro Γ st1).bind _
      rw [e2]
      show (ri Γ st2).bind _ = (ri Γ st2).bind _
      rw [e3]
      show (opSetIx w j v st3).bind _ = (opSetIx0 w j v st3).bind _
      rw [h]
 rcases ch with ⟨v, st1, w, st2, j, st3, n, ks, vs, k, e1, e2, e3, rfl, em, ek⟩ | ch
 ·have q' : wpF X ι st.nxt G ((opSetIx (.ref n) j v st3).bind fun _ st4 => .ok (.nx Γ) st4) D := by
   have q := q
   unfold sSetIx at q
   rw [e1] at q
   have q : wpF X ι st.nxt G ((ro Γ st1).bind fun o st2 => (ri Γ st2).bind fun i st3 => (opSetIx o i v st3).bind fun _ st4 => .ok (.nx Γ) st4) D := q
   rw [e2] at q
   have q : wpF X ι st.nxt G ((ri Γ st2).bind fun i st3 => (opSetIx (.ref n) i v st3).bind fun _ st4 => .ok (.nx Γ) st4) D := q
   rw [e3] at q
   exact q
  have e0 : opSetIx (.ref n) j v st3 = setIx1 n j v st3 (st3.mu n) (keyW j) := rfl
  rw [e0, em, ek] at q'
  by_cases hz : ks.length < sizeLine
  ·have q2 : wpF X ι st.nxt G (.ok (.nx Γ) (st3.put n (.dct (putW ks vs k v).1 (putW ks vs k v).2))) D := by
    have q' : wpF X ι st.nxt G ((if ks.length < sizeLine then .ok () (st3.put n (.dct (putW ks vs k v).1 (putW ks vs k v).2)) else .stuck : R Unit).bind fun _ st4 => .ok (.nx Γ) st4) D := q'
    rw [if_pos hz] at q'
    exact q'
   refine ps_dput hu ho hi he hs' pins s σ H D I ⟨ι, G, st, Γ, en, sr, ?_⟩
   rw [e1]
   intro vv ι1 G1 H1 x1 sr1 r1
   refine ⟨ι1, G1, st1, Γ, en.mono x1, sr1, ?_⟩
   rw [e2]
   intro vo ι2 G2 H2 x2 sr2 r2
   refine ⟨ι2, G2, st2, Γ, (en.mono x1).mono x2, sr2, ?_⟩
   rw [e3]
   intro vj ι3 G3 H3 x3 sr3 r3
   have ro' := r2.mono x3
   cases ro'
   obtain ⟨_, _, ys, hH, hl, t2⟩ := sr3.live n _ em
   have ev := keyW_rel r3 ek
   subst ev
   have lz : (ks.zip ys).length = ks.length := by rw [List.length_zip, hl, Nat.min_self]
   obtain ⟨ys', e4, l2, t3⟩ := put_rel (k := k) ((r1.mono x2).mono x3) t2 hl
   refine ⟨ι3 n, upd H3 (ι3 n) (.dK (putK (ks.zip ys) k vv)), rfl, DPut.k hH (by rw [lz]; exact hz), ?_⟩
   have m : MOR X.K ι3 st3.nxt G3 (upd H3 (ι3 n) (.dK (putK (ks.zip ys) k vv))) (ι3 n) (.dct (putW ks vs k v).1 (putW ks vs k v).2) := ⟨ys', by rw [upd_same, e4], l2, t3⟩
   exact q2 ι3 G3 _ ((x1.trans x2).trans x3) (sr3.putO em m) σ (((en.mono x1).mono x2).mono x3)
  ·have q' : wpF X ι st.nxt G ((if ks.length < sizeLine then .ok () (st3.put n (.dct (putW ks vs k v).1 (putW ks vs k v).2)) else .stuck : R Unit).bind fun _ st4 => .ok (.nx Γ) st4) D := q'
   rw [if_neg hz] at q'
   exact (show False from q').elim
 ·exact pds_setIx0 ho hi he hg hs hw pins s σ H D I ⟨ι, G, st, Γ, en, sr, by rw [← ch]; exact q⟩
end
end DL
namespace L2
open PySem PySem.Spec PyProof.Rows
section
variable {X : Cx} {tg : Expr}
def Itr3 (lo d : Int) (n : Nat) : It := ⟨fun i _ => i < n, fun i H x H' => H' = H ∧ x = .int (lo + i * d), fun i _ => n ≤ i⟩
theorem turn_range3 {P : Program} {w : World} {K : PySem.W.Frag} (it : Addr) (lo d : Int) (n : Nat) : Turn P w K tg (Itr3 lo d n) [it] it (fun i h => IsRangeIter h it (lo + (i : Nat) * d) ((n : Int) - (i : Nat)) d) where
 mem := by simp
 obj := fun i h st b hb => by
  have e : b = it := by simpa using hb
  subst e
  exact ⟨_, st, fun v z => by have z' : Data.fields _ = Data.cell v := z; cases z'⟩
 keep := fun i h h' st k => k it (by simp) _ st
 item := by
  intro X hP hw hK hc i pins s σ H E I hf st hg
  subst hP hw hK
  obtain ⟨f0, f1, f2, f3, f4, f5⟩ := hf it (by simp)
  refine (Walks.range (prog := X.prog) (w := X.w) (I.ok.hd hc) it lo d n).item i s _ _ hg st fun v h' tk hv st' kk => ?_
  obtain ⟨t, rfl⟩ := hv
  have I1 : Inv X pins σ H { s with heap := h', toks := tk } := I.turned (fun b o hb e => kk b o (by simpa using hb) e) f0 f1 f3 f4 f5
  exact ⟨_, rfl, go_of (s := { s with heap := h', toks := tk }) (n := "range_iterator") st' rfl rfl (by decide) ⟨.int (lo + i * d), H, I1, ⟨t, rfl⟩, ⟨rfl, rfl⟩, st', fun b hb => (hf b hb).1⟩⟩
 done := by
  intro X hP hw hK hc i pins s σ H E I hf st hg
  subst hP hw hK
  obtain ⟨f0, f1, f2, f3, f4, f5⟩ := hf it (by simp)
  exact wpAny_pyNext_range_end (I.ok.hd hc) st (by have : n ≤ i := hg; omega) fun h' eb => ⟨rfl, I.turned (t' := s.toks) (fun b o hb e => eb b o hb e) f0 f1 f3 f4 f5⟩
 self := fun _ _ _ _ _ st h => wpAny_pyIter_rangeiter st h
def rng3Ok (i j d : Int) : Bool := (d != 0) && Builtin.Range.small i j d && !Builtin.divisionGoesByPylong (j - i) d && decide (0 ≤ Builtin.Range.rangeSize i j d)
def iRng3 (ta : TA) : TI := fun σ H R => ta σ H fun vs H1 => ∃ i j d : Int, vs = [.int i, .int j, .int d] ∧ rng3Ok i j d = true ∧ R (Itr3 i d (Builtin.Range.rangeSize i j d).toNat) H1
theorem pi_range3 {a : Expr} {es : List Expr} {ta : TA} {p pos : Pos} (hg : Gl X "range") (hm : X.mg "range" = none) (ha : PA X (a :: es) ta) (hs : starEach (a :: es) X.env = (false, eval a X.env) :: starEach es X.env) (hs2 : (backTo pos (starEach es X.env)).any (·.1) = false) :
  PI X tg (.Call (.Name "range" p) (a :: es) [] pos) (iRng3 ta) := by
 intro pins s σ H R I h
 refine Call_ (ld_blt I hg hm boot_range (PyProof.Rows.callWith_type1 (thn (ha pos pins s σ H _ I h) fun us s1 ⟨vs, H1, I1, r1, q1⟩ => ?_) hs hs2))
 obtain ⟨i, j, d, e, ok, q⟩ := q1
 subst e
 unfold rng3Ok at ok
 simp only [Bool.and_eq_true, Bool.not_eq_true', bne_iff_ne, decide_eq_true_eq] at ok
 obtain ⟨⟨⟨k1, k2⟩, k3⟩, k4⟩ := ok
 cases r1 with
 | cons r rr =>
  cases rr with
  | cons r' rr =>
   cases rr with
   | cons r'' rr =>
    cases rr
    obtain ⟨t, rfl⟩ := r
    obtain ⟨t', rfl⟩ := r'
    obtain ⟨t'', rfl⟩ := r''
    refine call_range_3 k1 ?_ (.inl k3)
    refine wpAny_pyIter_range (IsRange.new ..) k2 ?_
    have I2 : Inv X pins σ H1 { s1 with heap := s1.heap.push { cls := .type "range", data := .fields #[.int i t, .int j t', .int d t''] } } := I1.kept (t' := s1.toks) fun b o e => Heap.get?_push_of_some _ e
    refine ⟨_, [(s1.heap.push { cls := .type "range", data := .fields #[.int i t, .int j t', .int d t''] }).objs.size], _, _, H1, rfl, I2.kept (t' := s1.toks) fun b o e => Heap.get?_push_of_some _ e, turn_range3 _ i d (Builtin.Range.rangeSize i j d).toNat, ?_, fun b hb => ?_, q⟩
    ·show IsRangeIter _ _ (i + ((0 : Nat) : Int) * d) ((((Builtin.Range.rangeSize i j d).toNat : Nat) : Int) - ((0 : Nat) : Int)) d
     rw [show i + ((0 : Nat) : Int) * d = i by simp, show (((Builtin.Range.rangeSize i j d).toNat : Nat) : Int) - ((0 : Nat) : Int) = Builtin.Range.rangeSize i j d by omega]
     exact Heap.get?_push_size _ rfl
    ·have e : b = (s1.heap.push { cls := .type "range", data := .fields #[.int i t, .int j t', .int d t''] }).objs.size := by simpa using hb
     subst e
     exact I2.fpOk (Nat.le_refl _) (I2.hok.fresh (Nat.le_refl _))
def revS (hi : Option Int) (z : Str) : Str := ⟨((Builtin.Str.strSliceIndices none hi (-1) z.length).filterMap (z.cps[·]?)).toArray⟩
def tRevA (K : PySem.W.Frag) (te : TE) (th : TO) (ts : TE) : TE := fun σ H Q => te σ H fun x H1 => th σ H1 fun u H2 => ts σ H2 fun st H3 => st = .int (-1) ∧
 ((∃ z, x = .str z ∧ (revS u z).length ≤ sizeLine ∧ Q (.str (revS u z)) H3) ∨ (u = none ∧ ∃ a xs, x = .ref a ∧ SqL K H3 a xs ∧ ∀ p, H3 p = none → Q (.ref p) (upd H3 p (.lst xs.reverse))))
theorem pe_revA {e est : Expr} {hi : Option Expr} {te ts : TE} {th : TO} {pos p2 : Pos} (he : PE X e te) (hh : PO X hi th) (hs : PE X est ts) : PE X (.Subscript e (.Slice none hi (some est) p2) pos) (tRevA X.K te th ts) := by
 intro pins s σ H Q I h
 refine Subscript_ (thn (he pins s σ H _ I h) fun v s1 ⟨x, H1, I1, r1, q1⟩ => ?_)
 refine wpAny_Slice (wpAny_pure (thn (hh pins s1 σ H1 _ I1 q1) fun vu s2 ⟨u, H2, I2, pu, q2⟩ => thn (hs pins s2 σ H2 _ I2 q2) fun vs s3 ⟨st, H3, I3, r3, q3⟩ => ?_))
 obtain ⟨rfl, q3⟩ := q3
 obtain ⟨t, rfl⟩ := r3
 have I4 : Inv X pins σ H3 { s3 with heap := s3.heap.push { cls := .type "slice", data := .fields #[.none, vu, .int (-1) t] } } := I3.kept (t' := s3.toks) fun b ob q => Heap.get?_push_of_some _ q
 rcases q3 with ⟨z, rfl, hz, q⟩ | ⟨rfl, a, xs, rfl, hl, q⟩
 ·obtain ⟨tz, rfl⟩ := r1
  refine tail_any (ops := [.ref s3.heap.objs.size, .str z tz]) (typeIs_str _ _ _) F.slot_str_getitem.lookup ?_ (by with_unfolding_all rfl)
  have fin : ∀ t' k, EP X pins σ Q (.str (revS u z) t') { s3 with heap := s3.heap.push { cls := .type "slice", data := .fields #[.none, vu, .int (-1) t] }, toks := k } := fun t' k => ⟨.str _, H3, I4.tok k, ⟨t', rfl⟩, q⟩
  cases pu with
  | none => exact wpAny_getItem_str_slice (l := none) (u := none) (st := some (-1, t)) ⟨_, Heap.get?_push_size _ rfl, rfl, rfl⟩ rfl ⟨hz, fin _ _⟩
  | int j uj => exact wpAny_getItem_str_slice (l := none) (u := some (j, uj)) (st := some (-1, t)) ⟨_, Heap.get?_push_size _ rfl, rfl, rfl⟩ rfl ⟨hz, fin _ _⟩
 ·cases r1
  cases pu
  obtain ⟨its, rv, pl, hz⟩ := I4.list hl
  have hlen := rv.length
  refine tail_any (ops := [.ref a, .ref s3.heap.objs.size]) pl.isList.typeIs slot_list_getitem.lookup ?_ (by with_unfolding_all rfl)
  refine wpAny_getItem_list_slice pl.isList (Heap.IsSliceOf.new ..) .none .none (.int (-1) t) (by simp) ?_ (by rw [List.size_toArray]; omega)
  rw [pick_rev]
  refine ⟨.ref _, _, I4.laid (t' := s3.toks) (o := .lst xs.reverse) (fun b ob q => Heap.get?_push_of_some _ q) (Nat.le_refl _) ⟨by rw [List.length_reverse]; exact hz, its.reverse, 0, ?_, Heap.get?_push_size _ rfl⟩, rfl, q _ (I4.hok.fresh (Nat.le_refl _))⟩
  have rev : ∀ {xs : List V} {us : List Value}, Vals xs us → Vals xs.reverse us.reverse := by
   intro xs us r
   induction r with
   | nil => exact .nil
   | cons r t ih => rw [List.reverse_cons, List.reverse_cons]; exact ih.append (.cons r .nil)
  exact rev rv
end
end L2
namespace DL
open PySem PySem.Spec PyProof.Rows L2
section
variable {X : Cx}
def rng3W (lo d : Int) (n : Nat) : List W := (List.range n).map fun (i : Nat) => W.int (lo + i * d)
theorem src_range3 {K : PySem.W.Frag} {ι : Nat → Addr} {N : Nat} {G : Hp} (lo d : Int) (n : Nat) : SrcR K (Itr3 lo d n) (rng3W lo d n) ι N G where
 go := fun i w ι' N' G' H' hw e sm => by
  unfold rng3W at hw
  rw [List.getElem?_map] at hw
  by_cases hi : i < n
  ·rw [List.getElem?_range hi] at hw
   cases hw
   exact ⟨hi, fun v' H'' ⟨e1, h2⟩ => ⟨e1, h2 ▸ .int _⟩⟩
  ·rw [List.getElem?_eq_none (by simp; omega)] at hw; cases hw
 stop := fun G' H' sm sm' => by
  show n ≤ (rng3W lo d n).length
  unfold rng3W
  simp
def rng3 : List W → S → R (List W) := fun ws st => match ws with
 | [.int i, .int j, .int d] => if rng3Ok i j d then .ok (rng3W i d (Builtin.Range.rangeSize i j d).toNat) st else .stuck
 | _ => .stuck
theorem rng3_shape (ws : List W) (st : S) : rng3 ws st = .stuck ∨ ∃ i j d, ws = [.int i, .int j, .int d] ∧ rng3Ok i j d = true ∧ rng3 ws st = .ok (rng3W i d (Builtin.Range.rangeSize i j d).toNat) st := by
 unfold rng3
 split
 ·rename_i i j d
  by_cases h : rng3Ok i j d = true
  ·exact .inr ⟨i, j, d, rfl, h, by rw [if_pos h]⟩
  ·exact .inl (by rw [if_neg h])
 ·exact .inl rfl
def runRng3 (rr : Runs) : Src := fun Γ st => (rr Γ st).bind rng3
theorem rel3 {K : PySem.W.Frag} {ι : Nat → Addr} {N : Nat} {G : Hp} {vs : List V} {a b c : W} (t : RelWs K ι N G vs [a, b, c]) : ∃ x y z, vs = [x, y, z] ∧ RelW K ι N G x a ∧ RelW K ι N G y b ∧ RelW K ι N G z c := by
 cases t with
 | cons r t => obtain ⟨y, z, rfl, r2, r3⟩ := rel2 t; exact ⟨_, _, _, rfl, r, r2, r3⟩
theorem pdi_range3 {tg a : Expr} {es : List Expr} {p pos : Pos} {rr : Runs} (hg : Gl X "range") (hm : X.mg "range" = none) (ha : PDA X (a :: es) rr) (hs : starEach (a :: es) X.env = (false, eval a X.env) :: starEach es X.env) (hs2 : (backTo pos (starEach es X.env)).any (·.1) = false) : PDI X tg (.Call (.Name "range" p) (a :: es) [] pos) (runRng3 rr) := by
 refine PI.imp (pi_range3 hg hm ha hs hs2) fun σ H Q hq => ?_
 obtain ⟨ι, G, st, Γ, en, sr, q⟩ := hq
 refine ⟨ι, G, st, Γ, en, sr, ?_⟩
 unfold runRng3 at q
 cases e1 : rr Γ st with
 | stuck => rw [e1] at q; exact q
 | ex c s => rw [e1] at q; exact q
 | ok ws st1 =>
  rw [e1] at q
  intro vs ι1 G1 H1 x1 sr1 r1
  rcases rng3_shape ws st1 with e | ⟨i, j, d, rfl, ok, e⟩
  ·have q : match rng3 ws st1 with
    | .ok items st' => ∀ J ι' G' H', Ext ι st.nxt G ι' st'.nxt G' → SR X.K ι' st' G' H' → SrcR X.K J items ι' st'.nxt G' → Q J H'
    | .ex c st' => XW X ι st.nxt G c st'
    | .stuck => False := q
   rw [e] at q; exact q.elim
  ·have q : match rng3 [.int i, .int j, .int d] st1 with
    | .ok items st' => ∀ J ι' G' H', Ext ι st.nxt G ι' st'.nxt G' → SR X.K ι' st' G' H' → SrcR X.K J items ι' st'.nxt G' → Q J H'
    | .ex c st' => XW X ι st.nxt G c st'
    | .stuck => False := q
   rw [e] at q
   obtain ⟨x, y, z, rfl, a1, a2, a3⟩ := rel3 r1
   cases a1; cases a2; cases a3
   exact ⟨i, j, d, rfl, ok, q _ ι1 G1 H1 x1 sr1 (src_range3 i d _)⟩
def opRevA (m : Bool) (hi : Option Int) : W → S → R W := fun w st => match w with
 | .str z => if (revS hi z).length ≤ sizeLine then .ok (.str (revS hi z)) st else .stuck
 | w => if hi = none then opRev m w st else .stuck
def runRevH (m : Bool) (ra rh : Run) : Run := fun Γ st => (ra Γ st).bind fun w st1 => (rh Γ st1).bind fun u st2 => match u with
 | .int i => opRevA m (some i) w st2
 | _ => .stuck
theorem rev_fin {m : Bool} {ι : Nat → Addr} {G H : Hp} {st : S} {v : V} {w : W} {hi : Option Int} {Q : VK} (sr : SR X.K ι st G H) (r : RelW X.K ι st.nxt G v w) (q : wpW X ι st.nxt G (opRevA m hi w st) Q) :
  (∃ z, v = .str z ∧ (revS hi z).length ≤ sizeLine ∧ Q (.str (revS hi z)) H) ∨ (hi = none ∧ ∃ a xs, v = .ref a ∧ SqL X.K H a xs ∧ ∀ p, H p = none → Q (.ref p) (upd H p (.lst xs.reverse))) := by
 have fin : ∀ {a : Addr} {xs : List V} {ws : List W}, SqL X.K H a xs → RelWs X.K ι st.nxt G xs ws → wpW X ι st.nxt G (opL m ws.reverse st) Q → ∀ p, H p = none → Q (.ref p) (upd H p (.lst xs.reverse)) := by
  intro a xs ws hl t q
  cases m with
  | true => exact (newL_laid sr t.reverse q).2
  | false => exact (lst_laid sr t.reverse q).2
 have ls : ∀ {w : W}, wpW X ι st.nxt G (if hi = none then opRev m w st else .stuck) Q → hi = none ∧ wpW X ι st.nxt G (opRev m w st) Q := fun {w} q => by
  by_cases h : hi = none
  ·rw [if_pos h] at q; exact ⟨h, q⟩
  ·rw [if_neg h] at q; exact (show False from q).elim
 cases r with
 | str z =>
  have q : wpW X ι st.nxt G (if (revS hi z).length ≤ sizeLine then .ok (.str (revS hi z)) st else .stuck) Q := q
  by_cases h : (revS hi z).length ≤ sizeLine
  ·rw [if_pos h] at q; exact .inl ⟨z, rfl, h, q _ ι G H (Ext.refl _ _ _) sr (.str _)⟩
  ·rw [if_neg h] at q; exact (show False from q).elim
 | lst s1 t1 =>
  obtain ⟨h, q⟩ := ls (w := .lst _) q
  exact .inr ⟨h, _, _, rfl, sr.sub.seq s1, fin (sr.sub.seq s1) t1 q⟩
 | @ref n hn =>
  obtain ⟨h, q⟩ := ls (w := .ref n) q
  have q : wpW X ι st.nxt G (match MO.items (st.mu n) with | some xs => opL m xs.reverse st | none => .stuck) Q := q
  cases e : st.mu n with
  | none => rw [e] at q; exact (show False from q).elim
  | some o =>
   obtain ⟨_, _, h3⟩ := sr.live n o e
   rw [e] at q
   cases o with
   | lst xs =>
    obtain ⟨vs, qv, rv⟩ := h3
    exact .inr ⟨h, _, _, rfl, SqL.of qv, fin (SqL.of qv) rv q⟩
   | dct ks xs => exact (show False from q).elim
 | _ => exact (show False from (ls (w := _) q).2).elim
theorem pd_revA {m : Bool} {e : Expr} {pos p2 p3 p4 : Pos} {j : Nat} {ra : Run} (ha : PD X e ra) : PD X (.Subscript e (.Slice none none (some (.UnaryOp .USub (.Constant (.int 1) j p3) p4)) p2) pos) (run1 ra (opRevA m none)) := by
 refine PE.imp (pe_revA ha po_none (pe_un un_neg pe_int)) fun σ H Q h => ?_
 obtain ⟨ι, G, st, Γ, en, sr, q⟩ := h
 refine ⟨ι, G, st, Γ, en, sr, wpW.bind q fun w st1 v ι1 G1 H1 _ e1 sr1 r1 q1 => ?_⟩
 exact ⟨1, rfl, rfl, rev_fin sr1 r1 q1⟩
theorem pd_revH {m : Bool} {e eh : Expr} {pos p2 p3 p4 : Pos} {j : Nat} {ra rh : Run} (ha : PD X e ra) (hh : PD X eh rh) : PD X (.Subscript e (.Slice none (some eh) (some (.UnaryOp .USub (.Constant (.int 1) j p3) p4)) p2) pos) (runRevH m ra rh) := by
 refine PE.imp (pe_revA ha (po_some hh) (pe_un un_neg pe_int)) fun σ H Q h => ?_
 obtain ⟨ι, G, st, Γ, en, sr, q⟩ := h
 refine ⟨ι, G, st, Γ, en, sr, wpW.bind q fun w st1 v ι1 G1 H1 _ e1 sr1 r1 q1 => ?_⟩
 refine ⟨ι1, G1, st1, Γ, en.mono e1, sr1, wpW.bind q1 fun u st2 v2 ι2 G2 H2 _ e2 sr2 r2 q2 => ?_⟩
 cases r2 with
 | int i => exact ⟨i, rfl, 1, rfl, rfl, rev_fin sr2 (r1.mono e2) q2⟩
 | _ => exact (show False from q2).elim
def zipW : List W → S → R (List (W × W)) := fun ws st => match ws with
 | [.tup xs, .tup ys] => .ok (xs.zip ys) st
 | _ => .stuck
theorem zipW_shape (ws : List W) (st : S) : zipW ws st = .stuck ∨ ∃ xs ys, ws = [.tup xs, .tup ys] ∧ zipW ws st = .ok (xs.zip ys) st := by
 unfold zipW
 split
 ·exact .inr ⟨_, _, rfl, rfl⟩
 ·exact .inl rfl
def loopZ (i j : Nat) (body : RunS) : List (W × W) → Ga → S → R Fl
 | [], Γ, st => .ok (.nx Γ) st
 | x :: xs, Γ, st => (body ((Γ.set i (some x.1)).set j (some x.2)) st).bind fun fl st' => match fl with
  | .nx Γ' => loopZ i j body xs Γ' st'
  | .ct Γ' => loopZ i j body xs Γ' st'
  | .bk Γ' => .ok (.nx Γ') st'
  | .rt w => .ok (.rt w) st'
def sForZ (i j : Nat) (rr : Runs) (body : RunS) : RunS := fun Γ st => (rr Γ st).bind fun ws st1 => (zipW ws st1).bind fun ps st2 => loopZ i j body ps Γ st2
theorem pds_forZ {i j tk : Nat} {x y : Str} {px py p pos tp cp : Pos} {a b : Expr} {body : List Stmt} {rr : Runs} {rb : RunS} (hp : PassesOwn (model X.prog X.w) X.A X.env X.xe) (hc : X.calm = true) (hg : Gl X "zip") (hm : X.mg "zip" = none) (ha : PDA X [a, b] rr)
  (hs : starEach [a, b] X.env = [(false, eval a X.env), (false, eval b X.env)]) (hs2 : starEach [b] X.env = [(false, eval b X.env)]) (h1 : PG X (.Name x px) (gName i)) (h2 : PG X (.Name y py) (gName j)) (hb : PDSs X body rb) :
  PDS X (.For (.Tuple [.Name x px, .Name y py] tk tp) (.Call (.Name "zip" p) [a, b] [] cp) body [] pos) (sForZ i j rr rb) := by
 refine PS.imp (ps_for hp hc (pi_zip hg hm ha hs hs2) (pg_tup hc (pgs_cons h1 (pgs_cons h2 pgs_nil))) hb fun _ => rfl) fun D σ H ⟨ι, G, st, Γ, en, sr, q⟩ => ⟨ι, G, st, Γ, en, sr, ?_⟩
 unfold sForZ at q
 cases e1 : rr Γ st with
 | stuck => rw [e1] at q; exact q
 | ex c s => rw [e1] at q; exact q
 | ok ws st1 =>
  rw [e1] at q
  intro vs ι1 G1 H1 x1 sr1 r1
  have q : wpF X ι st.nxt G ((zipW ws st1).bind fun ps st2 => loopZ i j rb ps Γ st2) D := q
  rcases zipW_shape ws st1 with e | ⟨xs, ys, rfl, e⟩
  ·rw [e] at q; exact (show False from q).elim
  ·rw [e] at q
   have q1 : wpF X ι1 st1.nxt G1 (loopZ i j rb (xs.zip ys) Γ st1) D := wpF.later x1 q
   obtain ⟨u, v, rfl, ru, rv⟩ := rel2 r1
   cases ru with
   | @tup a1 us _ sa ta =>
    cases rv with
    | @tup b1 vs _ sb tb =>
     have la := ta.length
     have lb := tb.length
     have lz : (xs.zip ys).length = min xs.length ys.length := List.length_zip
     refine ⟨a1, b1, us, vs, rfl, sqT_same sr1.sub sa, sqT_same sr1.sub sb, ?_⟩
     refine ⟨fun k m σ' H' => m = (xs.zip ys).length - k ∧ k ≤ (xs.zip ys).length ∧ ∃ ι2 G2 st2 Γ2, Ext ι1 st1.nxt G1 ι2 st2.nxt G2 ∧ SR X.K ι2 st2 G2 H' ∧ EnvR X.K ι2 st2.nxt G2 σ' Γ2 ∧ wpF X ι2 st2.nxt G2 (loopZ i j rb ((xs.zip ys).drop k) Γ2 st2) D,
      ⟨(xs.zip ys).length, by simp, Nat.zero_le _, ι1, G1, st1, Γ, Ext.refl _ _ _, sr1, en.mono x1, by rw [List.drop_zero]; exact q1⟩, ?_⟩
     rintro k m σ' H' ⟨rfl, hk, ι2, G2, st2, Γ2, e2, sr2, en2, q2⟩
     have sa2 : SqT X.K H' a1 us := sqT_same sr2.sub (sqT_same e2.sm sa)
     have sb2 : SqT X.K H' b1 vs := sqT_same sr2.sub (sqT_same e2.sm sb)
     by_cases hlt : k < (xs.zip ys).length
     ·have kx : k < xs.length := by omega
      have ky : k < ys.length := by omega
      have hd : (xs.zip ys).drop k = (xs[k], ys[k]) :: (xs.zip ys).drop (k + 1) := by rw [List.drop_eq_getElem_cons hlt, List.getElem_zip]
      obtain ⟨xv, hxv, rxv⟩ := (ta.mono e2).get (List.getElem?_eq_getElem kx)
      obtain ⟨yv, hyv, ryv⟩ := (tb.mono e2).get (List.getElem?_eq_getElem ky)
      rw [hd] at q2
      refine .inr ⟨⟨us, vs, xv, yv, sa2, sb2, hxv, hyv⟩, fun σ3 H3 => ∃ ι3 G3 st3 Γ3, Ext ι1 st1.nxt G1 ι3 st3.nxt G3 ∧ SR X.K ι3 st3 G3 H3 ∧ EnvR X.K ι3 st3.nxt G3 σ3 Γ3 ∧ wpF X ι3 st3.nxt G3 (loopZ i j rb ((xs.zip ys).drop (k + 1)) Γ3 st3) D,
       fun σ3 H3 h3 => ⟨(xs.zip ys).length - (k + 1), by omega, rfl, hlt, h3⟩, fun v H'' hy => ?_⟩
      obtain ⟨pn, xw, yw, rfl, hn, rfl, gx, gy⟩ := hy
      have ex := gx us sa2
      have ey := gy vs sb2
      rw [hxv] at ex
      rw [hyv] at ey
      cases ex
      cases ey
      obtain ⟨sr2', x2⟩ := sr2.laid (o := .tup [xv, yv]) hn
      refine ⟨pn, [xv, yv], rfl, .inl (.inl upd_same), rfl, xv, [yv], rfl, yv, [], rfl, rfl, ?_⟩
      refine ⟨ι2, _, st2, (Γ2.set i (some xs[k])).set j (some ys[k]), ((en2.mono x2).set i (rxv.mono x2)).set j (ryv.mono x2), sr2', ?_⟩
      have q3 := wpF.later x2 q2
      have q3 : wpF X ι2 st2.nxt (upd G2 pn (.tup [xv, yv])) ((rb ((Γ2.set i (some xs[k])).set j (some ys[k])) st2).bind fun fl st' => match fl with
       | .nx Γ' => loopZ i j rb ((xs.zip ys).drop (k + 1)) Γ' st'
       | .ct Γ' => loopZ i j rb ((xs.zip ys).drop (k + 1)) Γ' st'
       | .bk Γ' => .ok (.nx Γ') st'
       | .rt w => .ok (.rt w) st') D := q3
      cases e3 : rb ((Γ2.set i (some xs[k])).set j (some ys[k])) st2 with
      | stuck => rw [e3] at q3; exact q3
      | ex c s => rw [e3] at q3; exact q3
      | ok fl st3 =>
       rw [e3] at q3
       intro ι3 G3 H3 x3 sr3
       cases fl with
       | nx Γ3 => exact fun σ3 en3 => ⟨ι3, G3, st3, Γ3, (e2.trans x2).trans x3, sr3, en3, wpF.later x3 q3⟩
       | ct Γ3 => exact fun σ3 en3 => ⟨ι3, G3, st3, Γ3, (e2.trans x2).trans x3, sr3, en3, wpF.later x3 q3⟩
       | bk Γ3 => exact q3 ι3 G3 H3 x3 sr3
       | rt w => exact q3 ι3 G3 H3 x3 sr3
     ·have ek : k = (xs.zip ys).length := by omega
      subst ek
      rw [List.drop_length] at q2
      exact .inl ⟨⟨us, vs, sa2, sb2, by omega⟩, q2 ι2 G2 H' (Ext.refl _ _ _) sr2 σ' en2⟩
end
end DL
namespace DL
open PySem PySem.Spec PyProof.Rows L2
section
variable {X : Cx}
theorem kit_kinds (K : PySem.W.Frag) : ∀ k ∈ kinds, ∀ T ∈ kinds, PySem.W.kitOne K (.type k) (.type T) = some (isKind k T) := by
 intro k hk T hT
 simp only [kinds, List.mem_cons, List.not_mem_nil, or_false] at hk hT
 rcases hk with rfl | rfl | rfl | rfl | rfl | rfl | rfl <;> rcases hT with rfl | rfl | rfl | rfl | rfl | rfl | rfl <;> with_unfolding_all rfl
theorem cw_isi : CallW X (.builtin "isinstance") opIsi := by
 intro pins s σ H ι G st xs ws us Q I sr rv t q
 unfold opIsi at q
 split at q
 ·rename_i w T
  by_cases hT : kinds.contains T = true
  ·rw [if_pos hT] at q
   have hT' : T ∈ kinds := by simpa using hT
   obtain ⟨v, v', rfl, r, r'⟩ := rel2 t
   cases r'
   cases rv with
   | cons ru rv =>
    cases rv with
    | cons rc rv =>
     cases rv
     rename_i u c
     cases (show c = Value.type T from rc)
     cases hk : kindW st w with
     | none => rw [hk] at q; exact (show False from q).elim
     | some k =>
      rw [hk] at q
      have fin : ∀ tk, EP X pins σ Q (.bool (isKind k T)) { s with toks := tk } := fun tk => ⟨.bl (isKind k T), H, I.tok tk, rfl, q _ ι G H (Ext.refl _ _ _) sr (.bl _)⟩
      have kk : k ∈ kinds → PySem.W.kitOne X.K (.type k) (.type T) = some (isKind k T) := fun h => kit_kinds X.K k h T hT'
      cases r with
      | non => cases hk; cases (show u = Value.none from ru); exact PySem.W.kia_one PySem.W.kitx_none I.kIn True.intro (kk (by decide)) (fun z => nomatch z) fin
      | bl b => cases hk; cases (show u = Value.bool b from ru); exact PySem.W.kia_one PySem.W.kitx_bool I.kIn True.intro (kk (by decide)) (fun z => nomatch z) fin
      | int i => cases hk; obtain ⟨tk, e⟩ := (show ∃ t, u = Value.int i t from ru); cases e; exact PySem.W.kia_one PySem.W.kitx_int I.kIn True.intro (kk (by decide)) (fun z => nomatch z) fin
      | str x => cases hk; obtain ⟨tk, e⟩ := (show ∃ t, u = Value.str x t from ru); cases e; exact PySem.W.kia_one PySem.W.kitx_str I.kIn True.intro (kk (by decide)) (fun z => nomatch z) fin
      | @tup a xs _ s1 t1 =>
       cases hk
       cases (show u = Value.ref a from ru)
       obtain ⟨its, _, pl, _⟩ := I.tuple (sqT_same sr.sub s1)
       obtain ⟨o, h1, h2, _⟩ := pl
       exact PySem.W.kia_one PySem.W.kitx_tuple I.kIn ⟨o, h1, h2⟩ (kk (by decide)) (fun z => nomatch z) fin
      | @lst a xs _ s1 t1 =>
       cases hk
       cases (show u = Value.ref a from ru)
       obtain ⟨its, _, pl, _⟩ := I.list (sr.sub.seq s1)
       obtain ⟨o, n, h1, h2, _⟩ := pl
       exact PySem.W.kia_one PySem.W.kitx_list I.kIn ⟨o, h1, h2⟩ (kk (by decide)) (fun z => nomatch z) fin
      | @dct a xs ks _ s1 l1 t1 =>
       cases hk
       cases (show u = Value.ref a from ru)
       obtain ⟨_, _, vs, _, p⟩ := (show ObjOk X.prog X.w H s.heap a (.dK (ks.zip xs)) from I.hok a _ (sr.sub _ _ s1))
       obtain ⟨o, es, ep, h1, h2, _⟩ := p
       exact PySem.W.kia_one PySem.W.kitx_dict I.kIn ⟨o, h1, h2.1⟩ (kk (by decide)) (fun z => nomatch z) fin
      | ty n => cases hk
      | exn s1 s2 => cases hk
      | ref hn =>
       rename_i n
       cases (show u = Value.ref (ι n) from ru)
       have hk : MO.kind (st.mu n) = some k := hk
       cases e : st.mu n with
       | none => rw [e] at hk; cases hk
       | some o =>
        rw [e] at hk
        obtain ⟨_, _, h3⟩ := sr.live n o e
        cases o with
        | lst zs =>
         cases hk
         obtain ⟨vs, qv, _⟩ := h3
         obtain ⟨its, _, pl, _⟩ := I.list (SqL.of qv)
         obtain ⟨o, n, h1, h2, _⟩ := pl
         exact PySem.W.kia_one PySem.W.kitx_list I.kIn ⟨o, h1, h2⟩ (kk (by decide)) (fun z => nomatch z) fin
        | dct ks zs =>
         cases hk
         obtain ⟨xs, qv, _, _⟩ := h3
         obtain ⟨_, _, vs, _, p⟩ := (show ObjOk X.prog X.w H s.heap _ (.dK (ks.zip xs)) from I.hok _ _ qv)
         obtain ⟨o, es, ep, h1, h2, _⟩ := p
         exact PySem.W.kia_one PySem.W.kitx_dict I.kIn ⟨o, h1, h2.1⟩ (kk (by decide)) (fun z => nomatch z) fin
  ·rw [if_neg hT] at q; exact (show False from q).elim
 ·exact (show False from q).elim
end
inductive GV where
 | con (w : W)
 | fn (n : Nat) (op : OpN)
 | blt
 | fx (n : Nat) (b : Bool) (op : OpN)
 | exc (own : Bool) (tab : List (Str × Bool))
 | dcon (ks : List Key) (ws : List W)
structure FC where
 N : List Str
 sc : Scope
 gl : List (Str × GV)
 mts : List (Nat × Nat)
 cm : Bool
 cx : Bool
def FC.isMut (c : FC) (p : Pos) : Bool := c.mts.any fun q => q.1 == p.line && q.2 == p.col
structure ExcOk (K : PySem.W.Frag) (mg : Str → Option Value) (y : Str) (own : Bool) (tab : List (Str × Bool)) (cv : Value) (vc : V) : Prop where
 rel : RelV vc cv
 un : ∀ u, RelV vc u → u = cv
 glob : own = true → mg y = some cv ∧ ∃ C, cv = .ref C ∧ ExCls K y C
 blt : own = false → mg y = none ∧ bootBuiltins y = some cv
 tab : ∀ x b, tab.lookup x = some b → ∃ C, PySem.W.nsIn K mainGlobals x = some (some (.ref C)) ∧ ExAt K C ∧ PySem.W.kitOne K (.ref C) cv = some b ∧ PySem.W.exmOne K (.ref C) cv = some b
structure XOK (c : FC) (X : Cx) : Prop where
 N : X.N = c.N
 nd : c.N.Nodup
 sc : X.env.scope = c.sc
 calm : c.cm = true → X.calm = true
 hnd : c.cm = true → X.A.handled = none
 units : X.A.units + 80 < cLine
 cells : ∀ y, (c.sc.names.lookup y = some .cell ∨ c.sc.names.lookup y = some .free) → (X.env.cells.lookup y).isSome = true
 con : ∀ x w, c.gl.lookup x = some (.con w) → ∃ u v, X.mg x = some u ∧ RelV v u ∧ ∀ ι N G, RelW X.K ι N G v w
 fn : c.cm = true → ∀ x n op, c.gl.lookup x = some (.fn n op) → ∃ k f fd ps, FnOk X.prog X.w X.K X.mg X.base CX0 k f fd ps (SpD X.K n op) ∧ Room (k + 2) X.A ∧ X.mg x = some (.ref f) ∧ PySem.W.keepIn X.K (.ref f) = true ∧ Binds X.K fd ps [] ∧ ps.length = n
 blt : ∀ x, c.gl.lookup x = some .blt → X.mg x = none
 fx : ∀ x n b op, c.gl.lookup x = some (.fx n b op) → ∃ k f fd ps, FnX b X.prog X.w X.K X.mg X.base k f fd ps (SpX X.K n op) ∧ RoomB false (k + 2) X.A ∧ X.mg x = some (.ref f) ∧ PySem.W.keepIn X.K (.ref f) = true ∧ Binds X.K fd ps [] ∧ ps.length = n
 exc : ∀ y own tab, c.gl.lookup y = some (.exc own tab) → ∃ cv vc, ExcOk X.K X.mg y own tab cv vc
 own : c.cx = true → OwnFr X
 dcon : ∀ x ks ws, c.gl.lookup x = some (.dcon ks ws) → KDs X.prog X.w X.K X.mg x ks ws
theorem XOK.gl {c : FC} {X : Cx} (h : XOK c X) {x : Str} (e : c.sc.names.lookup x = some .globalImplicit) : Gl X x := by
 show X.env.scope.names.lookup x = _
 rw [h.sc]; exact e
def dbg (x : Str) : Bool := (x == ("__debug__" : Str)) || (x == ("__classdict__" : Str)) || (x == ("__name__" : Str))
theorem dbg1 {x : Str} (h : dbg x = false) : (x == ("__debug__" : Str)) = false := by unfold dbg at h; simp only [Bool.or_eq_false_iff] at h; exact h.1.1
theorem dbg2 {x : Str} (h : dbg x = false) : (x == ("__classdict__" : Str)) = false := by unfold dbg at h; simp only [Bool.or_eq_false_iff] at h; exact h.1.2
theorem dbg3 {x : Str} (h : dbg x = false) : x ≠ "__name__" := by
 unfold dbg at h; simp only [Bool.or_eq_false_iff] at h
 intro e; rw [e] at h; simp at h
def slot (N : List Str) (x : Str) : Option Nat := match N with
 | [] => none
 | y :: ys => if y == x then some 0 else (slot ys x).map (· + 1)
theorem slot_get {N : List Str} {x : Str} {i : Nat} (h : slot N x = some i) : N[i]? = some x := by
 induction N generalizing i with
 | nil => cases h
 | cons y ys ih =>
  unfold slot at h
  by_cases hy : (y == x) = true
  ·rw [if_pos hy] at h
   cases h
   have : y = x := by simpa using hy
   rw [this]; rfl
  ·rw [if_neg hy] at h
   cases e : slot ys x with
   | none => rw [e] at h; cases h
   | some j => rw [e] at h; cases h; rw [List.getElem?_cons_succ]; exact ih e
def binD : Operator → Option Op2
 | .Add => some opAdd
 | .Sub => some opSub
 | .Mult => some opMul
 | .FloorDiv => some opDiv
 | .Mod => some opMod
 | _ => none
def cmpD : CmpOp → Option Op2
 | .Eq => some opEq
 | .NotEq => some opNe
 | .Lt => some opLt
 | .LtE => some opLe
 | .Gt => some opGt
 | .In => some opIn
 | .NotIn => some opNotIn
 | .Is => some opIs
 | .IsNot => some opIsNot
 | _ => none
def tyD (x : Str) : Option String := if x == ("str" : Str) then some "str" else if x == ("int" : Str) then some "int" else if x == ("bool" : Str) then some "bool" else if x == ("tuple" : Str) then some "tuple" else if x == ("list" : Str) then some "list" else if x == ("dict" : Str) then some "dict" else none
theorem tyD_boot {x : Str} {T : String} (h : tyD x = some T) : bootBuiltins x = some (.type T) := by
 unfold tyD at h
 repeat' split at h
 all_goals first
  | (cases h; rename_i e; have e' := eq_of_beq e; subst e'; decide +kernel)
  | cases h
def bltD (m : Bool) (x : Str) : Option (Value × OpN) :=
 if x == ("len" : Str) then some (.builtin "len", opLen)
 else if x == ("all" : Str) then some (.builtin "all", opAll)
 else if x == ("isinstance" : Str) then some (.builtin "isinstance", opIsi)
 else none
def tyCallD (m : Bool) (x : Str) : Option (String × OpN) :=
 if x == ("tuple" : Str) then some ("tuple", opTuple)
 else if x == ("list" : Str) then some ("list", opList m)
 else if x == ("dict" : Str) then some ("dict", opDictC m)
 else none
def noStar : Expr → Bool
 | .Starred _ _ => false
 | _ => true
theorem star_cons {e : Expr} {es : List Expr} {env : Env} (h : noStar e = true) : starEach (e :: es) env = (false, eval e env) :: starEach es env := by
 cases e <;> first | rfl | exact absurd (show false = true from h) Bool.false_ne_true
theorem star_all {es : List Expr} {env : Env} {pos : Pos} (h : es.all noStar = true) : (backTo pos (starEach es env)).any (·.1) = false := by
 induction es with
 | nil => rfl
 | cons e es ih =>
  rw [List.all_cons, Bool.and_eq_true] at h
  rw [star_cons h.1]
  show ((false : Bool) || (backTo pos (starEach es env)).any (·.1)) = false
  rw [ih h.2]; rfl
theorem star_few {e : Expr} {es : List Expr} {env : Env} {pos : Pos} (h : (e :: es).all noStar = true) (hl : (e :: es).length < 30) :
  ((backTo pos (starEach (e :: es) env)).all (fun x => !x.1) && (backToKw pos (keywordEach [] env)).all (fun x => x.1.isSome) && decide ((e :: es).length + ([] : List Keyword).length + (if ([] : List Keyword).isEmpty then 0 else 1) < 30)) = true := by
 have h1 : (backTo pos (starEach (e :: es) env)).all (fun x => !x.1) = true := by
  rw [← List.not_any_eq_all_not, star_all h]; rfl
 have h2 : (backToKw pos (keywordEach [] env)).all (fun x => x.1.isSome) = true := rfl
 have h3 : decide ((e :: es).length + ([] : List Keyword).length + (if ([] : List Keyword).isEmpty then 0 else 1) < 30) = true := decide_eq_true (by simpa using hl)
 rw [h1, h2, h3]; rfl
def mthD (m : Str) : Option (String × OpM) :=
 if m == ("append" : Str) then some ("list", opAppend)
 else if m == ("join" : Str) then some ("str", opJoin)
 else if m == ("index" : Str) then some ("list", opIndex)
 else if m == ("get" : Str) then some ("dict", opGet)
 else if m == ("setdefault" : Str) then some ("dict", opSetd)
 else none
theorem mthD_ok {X : Cx} {m : Str} {T : String} {op : OpM} (hu : X.A.units + 64 < cLine) (h : mthD m = some (T, op)) : ∃ id, Mth X m T id op := by
 unfold mthD at h
 repeat' split at h
 all_goals first
  | (cases h; done)
  | (cases h; rename_i e; have e' := eq_of_beq e; subst e'; first
   | exact ⟨_, mth_append⟩
   | exact ⟨_, mth_join⟩
   | exact ⟨_, mth_index⟩
   | exact ⟨_, mth_get (by omega)⟩
   | exact ⟨_, mth_setd⟩
   )
def plainIx : Expr → Bool
 | .Slice _ _ _ _ => false
 | _ => true
theorem plainIx_noSl {e : Expr} (h : plainIx e = true) : NoSl e := by
 intro ov iv
 cases e <;> first | rfl | exact absurd (show false = true from h) Bool.false_ne_true
theorem plainIx_ok {e : Expr} (h : plainIx e = true) : PlainIx e := by
 intro o i
 cases e <;> first | rfl | exact absurd (show false = true from h) Bool.false_ne_true
def noSet : Expr → Bool
 | .Set _ _ _ => false
 | _ => true
theorem noSet_behind {e : Expr} {op : CmpOp} (h : noSet e = true) : behindInMarks op e = false := by
 cases e <;> first | rfl | exact absurd (show false = true from h) Bool.false_ne_true
theorem noSet_fold {e : Expr} {env : Env} (h : noSet e = true) : ∀ z, foldedSetIterable e env z = pure z := by
 intro z
 cases e <;> first | rfl | exact absurd (show false = true from h) Bool.false_ne_true
theorem noSet_last {op op' : CmpOp} {b c : Expr} (h : noSet c = true) : lastMarks [op, op'] [b, c] = false := by
 cases c <;> first | rfl | exact absurd (show false = true from h) Bool.false_ne_true
def plainT : Expr → Bool
 | .UnaryOp .Not _ _ => false
 | .BoolOp _ _ _ => false
 | .IfExp _ _ _ _ => false
 | .Compare _ _ _ _ => false
 | _ => true
theorem plainT_ok {e : Expr} {env : Env} (h : plainT e = true) : ∀ whole, isTrue e env whole = (do let v ← whole; standAt e.pos; holding [v] (truthy v)) := by
 intro whole
 cases e with
 | UnaryOp op a p => cases op <;> first | rfl | exact absurd (show false = true from h) Bool.false_ne_true
 | BoolOp _ _ _ => exact absurd (show false = true from h) Bool.false_ne_true
 | IfExp _ _ _ _ => exact absurd (show false = true from h) Bool.false_ne_true
 | Compare _ _ _ _ => exact absurd (show false = true from h) Bool.false_ne_true
 | _ => rfl
def relabelS (scope sc : Scope) : Scope := { scope with names := scope.names.map fun (n, k) => if (k == .free && sc.kind == .function && sc.names.lookup n == some .cell) then (n, .cell) else (n, k) }
def freesOf (scope : Scope) : List Str := (scope.names.filter fun p => p.2 == .free).map (·.1)
def slots (N : List Str) : List Str → Option (List Nat)
 | [] => some []
 | y :: ys => match slot N y, slots N ys with
  | some i, some r => some (i :: r)
  | _, _ => none
def compOk (scope sc : Scope) (x : Str) : Bool :=
 scope.names.all (fun y => y.2 != .cell) && scope.names.all (fun y => y.2 != .free || (sc.names.lookup y.1 == some .cell || sc.names.lookup y.1 == some .free)) && (scope.kind == .function) &&
 scope.names.all (fun y => y.2 != .local || scope.names.lookup y.1 == some .local) && (scope.names.lookup x == some .local) && (freesOf scope).all (fun y => scope.names.lookup y == some .free) && decide ((x :: freesOf scope).Nodup)
theorem slots_get {N : List Str} : ∀ {ys : List Str} {js : List Nat}, slots N ys = some js → ys.length = js.length ∧ ∀ (k j : Nat), js[k]? = some j → ys[k]? = N[j]?
 | [], js, h => by cases h; exact ⟨rfl, fun k j e => by simp at e⟩
 | y :: ys, js, h => by
  unfold slots at h
  cases e1 : slot N y with
  | none => rw [e1] at h; cases h
  | some i =>
   cases e2 : slots N ys with
   | none => rw [e1, e2] at h; cases h
   | some r =>
    rw [e1, e2] at h
    cases h
    obtain ⟨h1, h2⟩ := slots_get e2
    refine ⟨by simp [h1], fun k j e => ?_⟩
    cases k with
    | zero => simp at e; subst e; rw [slot_get e1]; rfl
    | succ k => exact h2 k j (by simpa using e)
theorem comp_sc {c : FC} {X : Cx} (h : XOK c X) {scope : Scope} {x : Str} {cap : List Nat} (hk : compOk scope c.sc x = true) (hc : slots c.N (freesOf scope) = some cap) :
  CompSc X scope x (clOf X.env scope.names []) (x :: freesOf scope) cap := by
 unfold compOk at hk
 simp only [Bool.and_eq_true, List.all_eq_true, decide_eq_true_eq, beq_iff_eq] at hk
 obtain ⟨⟨⟨⟨⟨⟨h1, h2⟩, h3⟩, h4⟩, h5⟩, h6⟩, h7⟩ := hk
 have g1 : ∀ y ∈ scope.names, y.2 ≠ .cell := fun y hy e => by have := h1 y hy; rw [e] at this; cases this
 have g2 : ∀ y ∈ scope.names, y.2 = .free → c.sc.names.lookup y.1 = some .cell ∨ c.sc.names.lookup y.1 = some .free := fun y hy e => by
  have := h2 y hy
  rw [e] at this
  simpa using this
 have g4 : ∀ y ∈ scope.names, y.2 = .local → scope.names.lookup y.1 = some .local := fun y hy e => by
  have := h4 y hy
  rw [e] at this
  simpa using this
 have cells : ∀ y ∈ scope.names, y.2 = .free → (X.env.cells.lookup y.1).isSome = true := fun y hy e => h.cells y.1 (g2 y hy e)
 obtain ⟨sl1, sl2⟩ := slots_get hc
 have fr : ∀ (k : Nat) (y : Str), (x :: freesOf scope)[k + 1]? = some y → scope.names.lookup y = some .free := fun k y e => by
  have e' : (freesOf scope)[k]? = some y := by simpa using e
  exact h6 y (List.mem_of_getElem? e')
 have rl : ∀ (l : List (Str × NameKind)) (y : Str), l.lookup y = some .free →
   (l.map fun (n, k) => if (k == NameKind.free && X.env.scope.kind == .function && X.env.kindOf n == some .cell) then (n, NameKind.cell) else (n, k)).lookup y = some .cell ∨
   (l.map fun (n, k) => if (k == NameKind.free && X.env.scope.kind == .function && X.env.kindOf n == some .cell) then (n, NameKind.cell) else (n, k)).lookup y = some .free := by
  intro l y
  induction l with
  | nil => intro h; simp at h
  | cons p r ih =>
   intro hl
   obtain ⟨n, k'⟩ := p
   rw [List.lookup_cons] at hl
   rw [List.map_cons]
   cases hy : y == n with
   | true =>
    rw [hy] at hl
    cases hl
    dsimp only
    split
    ·left; rw [List.lookup_cons, hy]
    ·right; rw [List.lookup_cons, hy]
   | false =>
    rw [hy] at hl
    dsimp only
    split
    ·rw [List.lookup_cons, hy]; exact ih hl
    ·rw [List.lookup_cons, hy]; exact ih hl
 refine ⟨clos_eq cells, g1, h3, g4, h5, h7, rfl, by rw [List.length_cons, sl1], fun k j e => ?_, fun k y e => ?_, fun k y e => rl scope.names y (fr k y e), clOf_sub X.env scope.names [] cells (fun y c h => by simp at h), fun y hy => ?_⟩
 ·rw [List.getElem?_cons_succ, h.N]; exact sl2 k j e
 ·have m := PySem.mem_of_lookup (fr k y e)
  have := g2 _ m rfl
  show X.env.scope.names.lookup y = _ ∨ X.env.scope.names.lookup y = _
  rw [h.sc]; exact this
 ·refine clOf_has X.env scope.names [] y (.inr ?_)
  rcases hy with hy | hy
  ·rcases relabel_mem hy with m | m
   ·exact absurd rfl (g1 _ m)
   ·exact m
  ·rcases relabel_mem hy with m | m
   ·exact m
   ·exact m
theorem comp_xok {c : FC} {X : Cx} (h : XOK c X) {scope : Scope} {x : Str} {cap : List Nat} (hk : compOk scope c.sc x = true) (hc : slots c.N (freesOf scope) = some cap) (C : Addr) (s : Shared) (H : Hp) (ex : List Addr) :
  XOK { c with N := x :: freesOf scope, sc := relabelS scope c.sc, cx := false } (cxComp X scope (clOf X.env scope.names []) C (x :: freesOf scope) s H ex) := by
 have Sc := comp_sc h hk hc
 have es : (cxComp X scope (clOf X.env scope.names []) C (x :: freesOf scope) s H ex).env.scope = relabelS scope c.sc := by
  show relabel scope X.env = _
  unfold relabel relabelS
  rw [← h.sc]; rfl
 refine ⟨rfl, Sc.nd, es, h.calm, h.hnd, h.units, fun y hy => ?_, h.con, h.fn, h.blt, h.fx, h.exc, (fun z => Bool.noConfusion z), h.dcon⟩
 obtain ⟨cc, hcc⟩ := Sc.has y (by
  have e2 : relabel scope X.env = relabelS scope c.sc := es
  rw [e2]; exact hy)
 show ((clOf X.env scope.names []).lookup y).isSome = true
 rw [hcc]; rfl
def nameD (c : FC) (x : Str) : Option Run := if dbg x then none else (match c.sc.names.lookup x with
 | some .globalImplicit => (match c.gl.lookup x with
  | some (.con w) => some (rCon w)
  | some .blt => (tyD x).map fun T => rCon (.ty T)
  | _ => none)
 | some .local => (slot c.N x).map rVar
 | some .cell => (slot c.N x).map rVar
 | some .free => (slot c.N x).map rVar
 | _ => none)
def conD : Const → Option Run
 | .int i => some (rCon (.int i))
 | .str x => some (rCon (.str x))
 | .bool b => some (rCon (.bl b))
 | .none => some (rCon .non)
 | _ => none
def unD (op : UnaryOp) (r : Run) : Option Run := match op with
 | .Not => some (runNot r)
 | .USub => some (run1 r opNeg)
 | _ => none
def boolD (op : BoolOp) (ra rb : Run) : Run := match op with
 | .And => runAnd ra rb
 | .Or => runOr ra rb
def cmp0 (E : Expr → Option Run) (a : Expr) (op : CmpOp) (b : Expr) : Option Run := if noSet b then (E a).bind fun ra => (E b).bind fun rb => (cmpD op).map fun o => run2 ra rb o else none
def cmp1 (c : FC) (E : Expr → Option Run) (a : Expr) (op : CmpOp) (b : Expr) : Option Run := cmp0 E a op b
def cmp2 (E : Expr → Option Run) (a : Expr) (op op' : CmpOp) (b d : Expr) : Option Run := if noSet d then (E a).bind fun ra => (E b).bind fun rb => (E d).bind fun rd => (cmpD op).bind fun o => (cmpD op').map fun o' => runC ra rb rd o o' else none
def cmpR (c : FC) (E : Expr → Option Run) (a : Expr) : List CmpOp → List Expr → Option Run
 | [op], [b] => cmp1 c E a op b
 | [op, op'], [b, d] => cmp2 E a op op' b d
 | _, _ => none
theorem cmpR_ok {c : FC} {E : Expr → Option Run} {a : Expr} {ops : List CmpOp} {bs : List Expr} {r : Run} (h : cmpR c E a ops bs = some r) :
  (∃ op b, ops = [op] ∧ bs = [b] ∧ cmp1 c E a op b = some r) ∨ ∃ op op' b d, ops = [op, op'] ∧ bs = [b, d] ∧ cmp2 E a op op' b d = some r := by
 rcases ops with _ | ⟨op, _ | ⟨op', _ | ⟨_, _⟩⟩⟩ <;> rcases bs with _ | ⟨b, _ | ⟨d, _ | ⟨_, _⟩⟩⟩ <;> first | exact .inl ⟨_, _, rfl, rfl, h⟩ | exact .inr ⟨_, _, _, _, rfl, rfl, h⟩ | cases h
def blt0 (c : FC) (Es : List Expr → Option Runs) (x : Str) (es : List Expr) (pos : Pos) : Option Run := if !c.cm then none else match bltD (c.isMut pos) x with
 | some (_, op) => (Es es).map fun rr => runN rr op
 | none => (match tyCallD (c.isMut pos) x with
  | some (_, op) => (Es es).map fun rr => runN rr op
  | none => none)
def bltG (c : FC) (E : Expr → Option Run) (Es : List Expr → Option Runs) (x : Str) (e : Expr) (es : List Expr) (pos : Pos) : Option Run := blt0 c Es x (e :: es) pos
def callG (c : FC) (E : Expr → Option Run) (Es : List Expr → Option Runs) (x : Str) (e : Expr) (es : List Expr) (pos : Pos) : Option Run :=
 if dbg x then none else if (e :: es).all noStar then (match c.sc.names.lookup x with
  | some .globalImplicit => (match c.gl.lookup x with
   | some (.fn k op) => if (e :: es).length = k then (if c.cm then (Es (e :: es)).map fun rr => runN rr (calmOp op) else none) else none
   | some .blt => bltG c E Es x e es pos
   | _ => none)
  | _ => none) else none
def mthG (E : Expr → Option Run) (Es : List Expr → Option Runs) (o : Expr) (m : Str) (apos : Pos) (es : List Expr) (pos : Pos) : Option Run :=
 if noCall0 o && apos.endLine == pos.line && es.all noStar && decide (es.length < 30) then (mthD m).bind fun (T, op) => (E o).bind fun ro => (Es es).map fun rr => runM T ro rr op else none
def callR (c : FC) (E : Expr → Option Run) (Es : List Expr → Option Runs) (f : Expr) (es : List Expr) (ks : List Keyword) (pos : Pos) : Option Run := match f with
 | .Name x _ => (match es with
  | [] => none
  | e :: es => (match ks with
   | [] => callG c E Es x e es pos
   | _ :: _ => none
   ))
 | .Attribute o m apos => (match ks with
  | [] => mthG E Es o m apos es pos
  | _ :: _ => none)
 | _ => none
def isM1 : Expr → Bool
 | .UnaryOp .USub (.Constant (.int 1) _ _) _ => true
 | _ => false
theorem isM1_ok {e : Expr} (h : isM1 e = true) : ∃ j p q, e = .UnaryOp .USub (.Constant (.int 1) j p) q := by
 unfold isM1 at h
 split at h
 ·exact ⟨_, _, _, rfl⟩
 ·cases h
def slG (m : Bool) (E : Expr → Option Run) (a : Expr) (lo hi : Option Expr) : Option Run := match lo with
 | none => (match hi with
  | none => (E a).map fun ra => runSlNN m ra
  | some h => (E a).bind fun ra => (E h).map fun rh => runSlNS m ra rh)
 | some l => (match hi with
  | none => (E a).bind fun ra => (E l).map fun rl => runSlSN m ra rl
  | some h => (E a).bind fun ra => (E l).bind fun rl => (E h).map fun rh => runSlSS m ra rl rh)
def revG (m : Bool) (E : Expr → Option Run) (a : Expr) (lo hi : Option Expr) (st : Expr) : Option Run := match lo with
 | some _ => none
 | none => if isM1 st then (match hi with
  | none => (E a).map fun ra => run1 ra (opRevA m none)
  | some h => (E a).bind fun ra => (E h).map fun rh => runRevH m ra rh) else none
def ixG (c : FC) (E : Expr → Option Run) (a b : Expr) : Option Run := (E a).bind fun ra => (E b).map fun rb => run2 ra rb opIdx
def subG (c : FC) (E : Expr → Option Run) (a i : Expr) (pos : Pos) : Option Run := match i with
 | .Slice lo hi st _ => (match st with
  | none => slG (c.isMut pos) E a lo hi
  | some st => revG (c.isMut pos) E a lo hi st
  )
 | i => if plainIx i then ixG c E a i else none
def ifsD (T : Expr → Option Run) : List Expr → Option Run
 | [] => some (rCon (.bl true))
 | t :: ts => (match ts with
  | [] => T t
  | _ :: _ => none)
def compG (c : FC) (I : Expr → Option Src) (T E : FC → Expr → Option Run) (elt : Expr) (x : Str) (iter : Expr) (ifs : List Expr) (scope : Scope) (pos : Pos) : Option Run :=
 if !c.cm then none else if noSet iter && compOk scope c.sc x then (I iter).bind fun src => (slots c.N (freesOf scope)).bind fun cap =>
  (ifsD (T { c with N := x :: freesOf scope, sc := relabelS scope c.sc, cx := false }) ifs).bind fun rt => (E { c with N := x :: freesOf scope, sc := relabelS scope c.sc, cx := false } elt).map fun re => runComp (c.isMut pos) src cap rt re else none
def compR (c : FC) (I : Expr → Option Src) (T E : FC → Expr → Option Run) (elt : Expr) (gens : List Comprehension) (scope : Scope) (pos : Pos) : Option Run := match gens with
 | [⟨.Name x _, iter, ifs, 0⟩] => compG c I T E elt x iter ifs scope pos
 | _ => none
theorem compR_ok {c : FC} {I : Expr → Option Src} {T E : FC → Expr → Option Run} {elt : Expr} {gens : List Comprehension} {scope : Scope} {pos : Pos} {r : Run} (h : compR c I T E elt gens scope pos = some r) : ∃ x px iter ifs, gens = [⟨.Name x px, iter, ifs, 0⟩] ∧ compG c I T E elt x iter ifs scope pos = some r := by
 unfold compR at h
 split at h
 ·exact ⟨_, _, _, _, rfl, h⟩
 ·cases h
def rng2G (E : Expr → Option Run) (a b : Expr) : Option Src := if noStar a && noStar b then (E a).bind fun ra => (E b).map fun rb => runRng2 ra rb else none
def rng3G (Es : List Expr → Option Runs) (a : Expr) (es : List Expr) : Option Src := if noStar a && es.all noStar then (Es (a :: es)).map runRng3 else none
def rngR (c : FC) (E : Expr → Option Run) (Es : List Expr → Option Runs) (x : Str) (es : List Expr) : Option Src := match c.sc.names.lookup x, c.gl.lookup x with
 | some .globalImplicit, some .blt => (match es with
  | [] => none
  | a :: es => (match es with
   | [] => if noStar a then (E a).map runRng1 else none
   | b :: es => (match es with
    | [] => rng2G E a b
    | d :: es => rng3G Es a (b :: d :: es))))
 | _, _ => none
mutual
def denE : Nat → FC → Expr → Option Run
 | 0, _, _ => none
 | n + 1, c, e => match e with
  | .Name x _ => nameD c x
  | .Constant v _ _ => conD v
  | .BinOp a op b _ => (denE n c a).bind fun ra => (denE n c b).bind fun rb => (binD op).map fun o => run2 ra rb o
  | .UnaryOp op a _ => (denE n c a).bind fun ra => unD op ra
  | .BoolOp op es pos => (match es with
   | [] => none
   | a :: es => (match es with
    | [] => denE n c a
    | b :: rest => (denE n c a).bind fun ra => (denE n c (.BoolOp op (b :: rest) pos)).map fun rb => boolD op ra rb))
  | .Compare a ops bs _ => cmpR c (denE n c) a ops bs
  | .IfExp t a b _ => (denT n c t).bind fun rt => (denE n c a).bind fun ra => (denE n c b).map fun rb => runIf rt ra rb
  | .Tuple es _ _ => (denEs n c es).map fun rr => runN rr opTup
  | .List es pos => (denEs n c es).map fun rr => runN rr (opL (c.isMut pos))
  | .Call f es ks pos => callR c (denE n c) (denEs n c) f es ks pos
  | .Subscript a i pos => subG c (denE n c) a i pos
  | .ListComp elt gens scope pos => compR c (denI n c) (denT n) (denE n) elt gens scope pos
  | .Dict ks vs pos => (match ks with
   | [] => (match vs with
    | [] => some (if c.isMut pos then rDictN else rDict0)
    | _ :: _ => none)
   | _ :: _ => none)
  | _ => none
def denT : Nat → FC → Expr → Option Run
 | 0, _, _ => none
 | n + 1, c, e => match e with
  | .UnaryOp op a pos => (match op with
   | .Not => (denT n c a).map runNot
   | _ => denE n c (.UnaryOp op a pos))
  | .BoolOp op es pos => (match es with
   | [] => none
   | a :: es => (match es with
    | [] => denT n c a
    | b :: rest => (denT n c a).bind fun ra => (denT n c (.BoolOp op (b :: rest) pos)).map fun rb => boolD op ra rb))
  | .Compare a ops bs _ => cmpR c (denE n c) a ops bs
  | e => if plainT e then denE n c e else none
def denEs : Nat → FC → List Expr → Option Runs
 | 0, _, _ => none
 | n + 1, c, es => match es with
  | [] => some runsNil
  | e :: es => if noStar e then (denE n c e).bind fun r => (denEs n c es).map fun rr => runsCons r rr else none
def denJ : Nat → FC → List Expr → Option (List Run)
 | 0, _, _ => none
 | n + 1, c, es => match es with
  | [] => some []
  | e :: es => (denE n c e).bind fun r => (denJ n c es).map fun rs => r :: rs
def denI : Nat → FC → Expr → Option Src
 | 0, _, _ => none
 | n + 1, c, e => match e with
  | .Call f es ks pos => (match f with
   | .Name x p => (match ks with
    | [] => if x == ("range" : Str) then rngR c (denE n c) (denEs n c) x es else (denE n c (.Call (.Name x p) es [] pos)).map runSrc
    | k :: ks => (denE n c (.Call (.Name x p) es (k :: ks) pos)).map runSrc)
   | f => (denE n c (.Call f es ks pos)).map runSrc)
  | e => (denE n c e).map runSrc
end
end DL
namespace DL
open PySem PySem.Spec PyProof.Rows L2
section
variable {X : Cx}
theorem binD_ok {op : Operator} {o : Op2} (h : binD op = some o) : OpW X (binaryOp op) o := by
 cases op <;> first
  | (cases h; done)
  | (cases h; exact opw_add)
  | (cases h; exact opw_sub)
  | (cases h; exact opw_mul)
  | (cases h; exact opw_div)
  | (cases h; exact opw_mod)
theorem cmpD_ok {op : CmpOp} {o : Op2} (hu : X.A.units + 64 < cLine) (h : cmpD op = some o) : OpW X (compareOp op) o := by
 cases op <;> first
  | (cases h; done)
  | (cases h; exact opw_is)
  | (cases h; exact opw_isNot)
  | (cases h; exact opw_eq hu)
  | (cases h; exact opw_ne hu)
  | (cases h; exact opw_lt)
  | (cases h; exact opw_le)
  | (cases h; exact opw_gt)
  | (cases h; exact opw_in hu)
  | (cases h; exact opw_notIn hu)
theorem bltD_ok {m : Bool} {x : Str} {f : Value} {op : OpN} (hc : X.calm = true) (h : bltD m x = some (f, op)) : ∃ id, f = .builtin id ∧ bootBuiltins x = some (.builtin id) ∧ CallW X (.builtin id) op := by
 unfold bltD at h
 repeat' split at h
 all_goals first
  | (cases h; done)
  | (cases h; rename_i e; have e' := eq_of_beq e; subst e'; first
   | exact ⟨_, rfl, by decide +kernel, cw_len⟩
   | exact ⟨_, rfl, by decide +kernel, cw_isi⟩
   | exact ⟨_, rfl, by decide +kernel, cw_all hc⟩
   )
theorem tyCallD_ok {m : Bool} {x : Str} {T : String} {op : OpN} (h : tyCallD m x = some (T, op)) : bootBuiltins x = some (.type T) ∧ CallW X (.type T) op := by
 unfold tyCallD at h
 repeat' split at h
 all_goals first
  | (cases h; done)
  | (cases h; rename_i e; have e' := eq_of_beq e; subst e'; first
   | exact ⟨by decide +kernel, cw_tuple⟩
   | exact ⟨by decide +kernel, cw_list⟩
   | exact ⟨by decide +kernel, cw_dict⟩
   )
theorem pd_callB {id : String} {op : OpN} {x : Str} {p pos : Pos} {e : Expr} {es : List Expr} {rr : Runs} (hc : CallW X (.builtin id) op) (hg : Gl X x) (hm : X.mg x = none) (hv : bootBuiltins x = some (.builtin id)) (ha : PDA X (e :: es) rr) (hd : dbg x = false) (hs : (e :: es).all noStar = true) :
  PD X (.Call (.Name x p) (e :: es) [] pos) (runN rr op) := by
 rw [List.all_cons, Bool.and_eq_true] at hs
 exact PE.imp (pe_callB hc.r hg hm hv ha (dbg3 hd) (dbg1 hd) (star_cons hs.1) (star_all hs.2)) fun _ _ _ h => tD_callB h
theorem pd_callT {T : String} {op : OpN} {x : Str} {p pos : Pos} {e : Expr} {es : List Expr} {rr : Runs} (hc : CallW X (.type T) op) (hg : Gl X x) (hm : X.mg x = none) (hv : bootBuiltins x = some (.type T)) (ha : PDA X (e :: es) rr) (hd : dbg x = false) (hs : (e :: es).all noStar = true) :
  PD X (.Call (.Name x p) (e :: es) [] pos) (runN rr op) := by
 rw [List.all_cons, Bool.and_eq_true] at hs
 exact PE.imp (pe_callTy hc.r hg hm hv ha (dbg3 hd) (dbg1 hd) (star_cons hs.1) (star_all hs.2)) fun _ _ _ h => tD_callB h
theorem pdi_range2 {tg a b : Expr} {p pos : Pos} {ra rb : Run} (hg : Gl X "range") (hm : X.mg "range" = none) (ha : PD X a ra) (hb : PD X b rb) (hs : starEach [a, b] X.env = [(false, eval a X.env), (false, eval b X.env)]) (hs2 : starEach [b] X.env = [(false, eval b X.env)]) : PDI X tg (.Call (.Name "range" p) [a, b] [] pos) (runRng2 ra rb) := by
 refine PI.imp (pi_range2 hg hm (pda_cons ha (pda_cons hb pda_nil hs2) (by rw [hs, hs2])) hs hs2) fun σ H Q hq => ?_
 obtain ⟨ι, G, st, Γ, en, sr, q⟩ := hq
 refine ⟨ι, G, st, Γ, en, sr, ?_⟩
 unfold runRng2 at q
 unfold runsCons runsNil
 cases e1 : ra Γ st with
 | stuck => rw [e1] at q; exact q
 | ex c s => rw [e1] at q; exact q
 | ok w st1 =>
  rw [e1] at q
  have q0 : match (rb Γ st1).bind fun w' st2 => (match w, w' with
    | .int i, .int j => if inRange i ∧ inRange j then R.ok (rangeW i (j - i).toNat) st2 else R.stuck
    | _, _ => R.stuck) with
   | .ok items st' => ∀ J ι' G' H', Ext ι st.nxt G ι' st'.nxt G' → SR X.K ι' st' G' H' → SrcR X.K J items ι' st'.nxt G' → Q J H'
   | .ex c st' => XW X ι st.nxt G c st'
   | .stuck => False := q
  show match ((rb Γ st1).bind fun w' st1 => (R.ok [] st1).bind fun ws st2 => R.ok (w' :: ws) st2).bind fun ws st2 => R.ok (w :: ws) st2 with
   | .ok ws st' => ∀ vs ι' G' H', Ext ι st.nxt G ι' st'.nxt G' → SR X.K ι' st' G' H' → RelWs X.K ι' st'.nxt G' vs ws → _
   | .ex c st' => XW X ι st.nxt G c st'
   | .stuck => False
  cases e2 : rb Γ st1 with
  | stuck => rw [e2] at q0; exact q0
  | ex c s => rw [e2] at q0; exact q0
  | ok w' st2 =>
   rw [e2] at q0
   intro vs ι1 G1 H1 x1 sr1 r1
   obtain ⟨v, v', rfl, r3, r4⟩ := rel2 r1
   have q' : match (match w, w' with
     | .int i, .int j => if inRange i ∧ inRange j then R.ok (rangeW i (j - i).toNat) st2 else R.stuck
     | _, _ => R.stuck) with
    | .ok items st' => ∀ J ι' G' H', Ext ι st.nxt G ι' st'.nxt G' → SR X.K ι' st' G' H' → SrcR X.K J items ι' st'.nxt G' → Q J H'
    | .ex c st' => XW X ι st.nxt G c st'
    | .stuck => False := q0
   cases w with
   | int i =>
    cases w' with
    | int j =>
     cases r3; cases r4
     by_cases hr : inRange i ∧ inRange j
     ·have q'' : match (if inRange i ∧ inRange j then R.ok (rangeW i (j - i).toNat) st2 else R.stuck) with
       | .ok items st' => ∀ J ι' G' H', Ext ι st.nxt G ι' st'.nxt G' → SR X.K ι' st' G' H' → SrcR X.K J items ι' st'.nxt G' → Q J H'
       | .ex c st' => XW X ι st.nxt G c st'
       | .stuck => False := q'
      rw [if_pos hr] at q''
      exact ⟨i, j, rfl, ⟨hr.1.1, hr.1.2, hr.2.1, hr.2.2⟩, q'' _ ι1 G1 H1 x1 sr1 (src_range i _)⟩
     ·have q'' : match (if inRange i ∧ inRange j then R.ok (rangeW i (j - i).toNat) st2 else R.stuck) with
       | .ok items st' => ∀ J ι' G' H', Ext ι st.nxt G ι' st'.nxt G' → SR X.K ι' st' G' H' → SrcR X.K J items ι' st'.nxt G' → Q J H'
       | .ex c st' => XW X ι st.nxt G c st'
       | .stuck => False := q'
      rw [if_neg hr] at q''
      exact q''.elim
    | _ => exact (show False from q').elim
   | _ => exact (show False from q').elim
end
theorem ob {α β : Type} {o : Option α} {f : α → Option β} {b : β} (h : o.bind f = some b) : ∃ a, o = some a ∧ f a = some b := by
 cases o with
 | none => cases h
 | some a => exact ⟨a, rfl, h⟩
theorem om {α β : Type} {o : Option α} {f : α → β} {b : β} (h : o.map f = some b) : ∃ a, o = some a ∧ f a = b := by
 cases o with
 | none => cases h
 | some a => exact ⟨a, rfl, Option.some.inj h⟩
theorem oite {α : Type} {c : Bool} {x : Option α} {b : α} (h : (if c then x else none) = some b) : c = true ∧ x = some b := by
 cases c with
 | true => exact ⟨rfl, h⟩
 | false => cases h
theorem oite2 {α : Type} {c : Bool} {x : Option α} {b : α} (h : (if !c then none else x) = some b) : c = true ∧ x = some b := by
 cases c with
 | true => exact ⟨rfl, h⟩
 | false => cases h
theorem runs_len : ∀ (n : Nat) (c : FC) (es : List Expr) (rr : Runs), denEs n c es = some rr → ∀ Γ st ws st', rr Γ st = .ok ws st' → ws.length = es.length
 | 0, _, _, _, h => by cases h
 | n + 1, c, [], rr, h => by
  cases h
  intro Γ st ws st' e
  cases e; rfl
 | n + 1, c, e :: es, rr, h => by
  unfold denEs at h
  obtain ⟨_, h⟩ := oite h
  obtain ⟨r, hr, h⟩ := ob h
  obtain ⟨r2, hr2, h⟩ := om h
  subst h
  intro Γ st ws st' e
  unfold runsCons at e
  cases e1 : r Γ st with
  | stuck => rw [e1] at e; cases e
  | ex c s => rw [e1] at e; cases e
  | ok w st1 =>
   rw [e1] at e
   have e' : ((r2 Γ st1).bind fun ws st2 => R.ok (w :: ws) st2) = .ok ws st' := e
   cases e2 : r2 Γ st1 with
   | stuck => rw [e2] at e'; cases e'
   | ex c s => rw [e2] at e'; cases e'
   | ok ws2 st2 =>
    rw [e2] at e'
    cases e'
    rw [List.length_cons, List.length_cons, runs_len n c es r2 hr2 Γ st1 ws2 _ e2]
theorem XOK.u64 {c : FC} {X : Cx} (h : XOK c X) : X.A.units + 64 < cLine := by have := h.units; omega
structure Sound (n : Nat) : Prop where
 e : ∀ (c : FC) (X : Cx) (e : Expr) (r : Run), XOK c X → denE n c e = some r → PD X e r
 t : ∀ (c : FC) (X : Cx) (e : Expr) (r : Run), XOK c X → denT n c e = some r → PT X e (tDT X r)
 w : ∀ (c : FC) (X : Cx) (op : BoolOp) (es : List Expr) (pos : Pos) (r : Run), XOK c X → denT n c (.BoolOp op es pos) = some r → PW X (.BoolOp op es pos) (tDT X r)
 es : ∀ (c : FC) (X : Cx) (es : List Expr) (r : Runs), XOK c X → denEs n c es = some r → PDA X es r
 i : ∀ (c : FC) (X : Cx) (y : Str) (py : Pos) (e : Expr) (r : Src), XOK c X → denI n c e = some r → PDI X (.Name y py) e r
 j : ∀ (c : FC) (X : Cx) (es : List Expr) (rs : List Run), XOK c X → denJ n c es = some rs → Paired (fun e r => PD X e r) es rs
section
variable {c : FC} {X : Cx} {n : Nat}
theorem sd_name {x : Str} {pos : Pos} {r : Run} (xo : XOK c X) (h : nameD c x = some r) : PD X (.Name x pos) r := by
 unfold nameD at h
 by_cases hd : dbg x = true
 ·rw [if_pos hd] at h; cases h
 ·rw [if_neg hd] at h
  have hd' : dbg x = false := by simpa using hd
  have var : ∀ {r : Run}, (slot c.N x).map rVar = some r → Vis X.env.scope x → PD X (.Name x pos) r := by
   intro r h hv
   obtain ⟨i, hi, rfl⟩ := om h
   exact pd_var (by rw [xo.N]; exact slot_get hi) hv (dbg1 hd') (dbg2 hd')
  split at h
  ·rename_i hl
   split at h
   ·rename_i w hw
    cases h
    obtain ⟨u, v, h1, h2, h3⟩ := xo.con x w hw
    exact pd_con (pe_glob (xo.gl hl) h1 h2 (dbg1 hd')) h3
   ·rename_i hw
    obtain ⟨T, hT, rfl⟩ := om h
    exact pd_con (v := .ty T) (pe_bltn (xo.gl hl) (xo.blt x hw) (tyD_boot hT) rfl (dbg3 hd') (dbg1 hd')) fun _ _ _ => .ty T
   ·cases h
  ·rename_i hl; exact var h (.inl (by rw [xo.sc]; exact hl))
  ·rename_i hl; exact var h (.inr (.inl (by rw [xo.sc]; exact hl)))
  ·rename_i hl; exact var h (.inr (.inr (by rw [xo.sc]; exact hl)))
  ·cases h
theorem sd_con {v : Const} {k : Nat} {pos : Pos} {r : Run} (h : conD v = some r) : PD X (.Constant v k pos) r := by
 cases v <;> first
  | (cases h; done)
  | (cases h; exact pd_con pe_int fun _ _ _ => .int _)
  | (cases h; exact pd_con pe_str fun _ _ _ => .str _)
  | (cases h; exact pd_con pe_bl fun _ _ _ => .bl _)
  | (cases h; exact pd_con pe_non fun _ _ _ => .non)
theorem sd_un {op : UnaryOp} {a : Expr} {pos : Pos} {ra r : Run} (ha : PD X a ra) (h : unD op ra = some r) : PD X (.UnaryOp op a pos) r := by
 cases op <;> first
  | (cases h; done)
  | (cases h; exact pd_not ha)
  | (cases h; exact pd_neg ha)
theorem sd_bool {op : BoolOp} {a b : Expr} {rest : List Expr} {pos : Pos} {ra rb : Run} (ha : PD X a ra) (hb : PD X (.BoolOp op (b :: rest) pos) rb) : PD X (.BoolOp op (a :: b :: rest) pos) (boolD op ra rb) := by
 cases op with
 | And => exact pd_and ha hb
 | Or => exact pd_or ha hb
theorem sd_cmp0 {a b : Expr} {op : CmpOp} {pos : Pos} {r : Run} (ih : Sound n) (xo : XOK c X) (h : cmp0 (denE n c) a op b = some r) : PD X (.Compare a [op] [b] pos) r ∧ PT X (.Compare a [op] [b] pos) (tDT X r) := by
 obtain ⟨hn, h⟩ := oite h
 obtain ⟨ra, ha, h⟩ := ob h
 obtain ⟨rb, hb, h⟩ := ob h
 obtain ⟨o, ho, rfl⟩ := om h
 have k := cmpD_ok (X := X) xo.u64 ho
 exact ⟨pd_cmp k (ih.e c X a ra xo ha) (ih.e c X b rb xo hb) (noSet_behind hn), pdt_cmp k (ih.e c X a ra xo ha) (ih.e c X b rb xo hb) (noSet_behind hn)⟩
theorem sd_cmp1 {a b : Expr} {op : CmpOp} {pos : Pos} {r : Run} (ih : Sound n) (xo : XOK c X) (h : cmp1 c (denE n c) a op b = some r) : PD X (.Compare a [op] [b] pos) r ∧ PT X (.Compare a [op] [b] pos) (tDT X r) := by
 unfold cmp1 at h
 exact sd_cmp0 ih xo h
theorem sd_cmp2 {a b d : Expr} {op op' : CmpOp} {pos : Pos} {r : Run} (ih : Sound n) (xo : XOK c X) (h : cmp2 (denE n c) a op op' b d = some r) : PD X (.Compare a [op, op'] [b, d] pos) r ∧ PT X (.Compare a [op, op'] [b, d] pos) (tDT X r) := by
 obtain ⟨hn, h⟩ := oite h
 obtain ⟨ra, ha, h⟩ := ob h
 obtain ⟨rb, hb, h⟩ := ob h
 obtain ⟨rd, hd, h⟩ := ob h
 obtain ⟨o, ho, h⟩ := ob h
 obtain ⟨o', ho', rfl⟩ := om h
 have k := cmpD_ok (X := X) xo.u64 ho
 have k' := cmpD_ok (X := X) xo.u64 ho'
 exact ⟨pd_chain k k' (ih.e c X a ra xo ha) (ih.e c X b rb xo hb) (ih.e c X d rd xo hd) (noSet_last hn), pdt_chain k k' (ih.e c X a ra xo ha) (ih.e c X b rb xo hb) (ih.e c X d rd xo hd) (noSet_last hn)⟩
theorem sd_cmp {a : Expr} {ops : List CmpOp} {bs : List Expr} {pos : Pos} {r : Run} (ih : Sound n) (xo : XOK c X) (h : cmpR c (denE n c) a ops bs = some r) : PD X (.Compare a ops bs pos) r ∧ PT X (.Compare a ops bs pos) (tDT X r) := by
 rcases cmpR_ok h with ⟨op, b, rfl, rfl, h⟩ | ⟨op, op', b, d, rfl, rfl, h⟩
 ·exact sd_cmp1 ih xo h
 ·exact sd_cmp2 ih xo h
theorem sd_blt0 {x : Str} {e : Expr} {es : List Expr} {p pos : Pos} {r : Run} (ih : Sound n) (xo : XOK c X) (hd : dbg x = false) (hs : (e :: es).all noStar = true) (hl : c.sc.names.lookup x = some .globalImplicit) (hw : c.gl.lookup x = some .blt) (h : blt0 c (denEs n c) x (e :: es) pos = some r) : PD X (.Call (.Name x p) (e :: es) [] pos) r := by
 obtain ⟨hcm, h⟩ := oite2 h
 split at h
 ·rename_i f op hb
  obtain ⟨rr, hr, rfl⟩ := om h
  obtain ⟨id, rfl, h1, h2⟩ := bltD_ok (X := X) (xo.calm hcm) hb
  exact pd_callB h2 (xo.gl hl) (xo.blt x hw) h1 (ih.es c X _ rr xo hr) hd hs
 ·split at h
  ·rename_i T op hb
   obtain ⟨rr, hr, rfl⟩ := om h
   obtain ⟨h1, h2⟩ := tyCallD_ok (X := X) hb
   exact pd_callT h2 (xo.gl hl) (xo.blt x hw) h1 (ih.es c X _ rr xo hr) hd hs
  ·cases h
theorem sd_bltG {x : Str} {e : Expr} {es : List Expr} {p pos : Pos} {r : Run} (ih : Sound n) (xo : XOK c X) (hd : dbg x = false) (hs : (e :: es).all noStar = true) (hl : c.sc.names.lookup x = some .globalImplicit) (hw : c.gl.lookup x = some .blt) (h : bltG c (denE n c) (denEs n c) x e es pos = some r) : PD X (.Call (.Name x p) (e :: es) [] pos) r := by
 unfold bltG at h
 exact sd_blt0 ih xo hd hs hl hw h
theorem sd_callG {x : Str} {e : Expr} {es : List Expr} {p pos : Pos} {r : Run} (ih : Sound n) (xo : XOK c X) (h : callG c (denE n c) (denEs n c) x e es pos = some r) : PD X (.Call (.Name x p) (e :: es) [] pos) r := by
 unfold callG at h
 by_cases hd : dbg x = true
 ·rw [if_pos hd] at h; cases h
 ·rw [if_neg hd] at h
  have hd' : dbg x = false := by simpa using hd
  obtain ⟨hs, h⟩ := oite h
  have hs' := hs
  rw [List.all_cons, Bool.and_eq_true] at hs'
  split at h
  ·rename_i hl
   split at h
   ·rename_i k op hw
    split at h
    ·rename_i hk
     obtain ⟨hcm, h⟩ := oite h
     obtain ⟨rr, hr, rfl⟩ := om h
     obtain ⟨kk, f, fd, ps, F, R, h1, h2, h3, _⟩ := xo.fn hcm x k op hw
     exact pd_call F (R.mono (Nat.le_add_right kk 2)) (xo.gl hl) h1 h2 h3 (ih.es c X _ rr xo hr) (fun Γ st ws st' e => by rw [runs_len n c _ rr hr Γ st ws st' e]; exact hk) (dbg1 hd') (star_cons hs'.1) (star_all hs'.2)
    ·cases h
   ·rename_i hw; exact sd_bltG ih xo hd' hs hl hw h
   ·cases h
  ·cases h
theorem sd_mthG {o : Expr} {m : Str} {apos pos : Pos} {es : List Expr} {r : Run} (ih : Sound n) (xo : XOK c X) (h : mthG (denE n c) (denEs n c) o m apos es pos = some r) : PD X (.Call (.Attribute o m apos) es [] pos) r := by
 obtain ⟨hk, h⟩ := oite h
 simp only [Bool.and_eq_true, decide_eq_true_eq] at hk
 obtain ⟨⟨⟨h1, h2⟩, h3⟩, h4⟩ := hk
 obtain ⟨⟨T, op⟩, hm, h⟩ := ob h
 obtain ⟨ro, ho, h⟩ := ob h
 obtain ⟨rr, hr, rfl⟩ := om h
 obtain ⟨id, M⟩ := mthD_ok (X := X) xo.u64 hm
 cases es with
 | nil =>
  cases n with
  | zero => cases hr
  | succ n => cases hr; exact pd_mt0 M.hT M.pa M.slot M.hty M.hm (ih.e c X o ro xo ho) h1 h2
 | cons e es =>
  have h3' := h3
  rw [List.all_cons, Bool.and_eq_true] at h3'
  exact pd_mt M.hT M.pa M.slot M.hty M.hm (ih.e c X o ro xo ho) (ih.es c X _ rr xo hr) h1 (star_few h3 h4) h2 (star_cons h3'.1) (star_all h3'.2)
theorem sd_call {f : Expr} {es : List Expr} {ks : List Keyword} {pos : Pos} {r : Run} (ih : Sound n) (xo : XOK c X) (h : callR c (denE n c) (denEs n c) f es ks pos = some r) : PD X (.Call f es ks pos) r := by
 cases f <;> first | (cases h; done) | skip
 ·cases ks with
  | nil => exact sd_mthG ih xo h
  | cons k ks => cases h
 ·cases es with
  | nil => cases h
  | cons e es =>
   cases ks with
   | nil => exact sd_callG ih xo h
   | cons k ks =>
    cases h
theorem sd_sl {m : Bool} {a : Expr} {lo hi : Option Expr} {p2 pos : Pos} {r : Run} (ih : Sound n) (xo : XOK c X) (h : slG m (denE n c) a lo hi = some r) : PD X (.Subscript a (.Slice lo hi none p2) pos) r := by
 cases lo with
 | none =>
  cases hi with
  | none => obtain ⟨ra, ha, rfl⟩ := om h; exact pd_slNN (ih.e c X a ra xo ha)
  | some u => obtain ⟨ra, ha, h⟩ := ob h; obtain ⟨rl, hl, rfl⟩ := om h; exact pd_slNS (ih.e c X a ra xo ha) (ih.e c X u rl xo hl)
 | some l =>
  cases hi with
  | none => obtain ⟨ra, ha, h⟩ := ob h; obtain ⟨rl, hl, rfl⟩ := om h; exact pd_slSN (ih.e c X a ra xo ha) (ih.e c X l rl xo hl)
  | some u => obtain ⟨ra, ha, h⟩ := ob h; obtain ⟨rl, hl, h⟩ := ob h; obtain ⟨rh, hr, rfl⟩ := om h; exact pd_slSS (ih.e c X a ra xo ha) (ih.e c X l rl xo hl) (ih.e c X u rh xo hr)
theorem sd_rev {m : Bool} {a st : Expr} {lo hi : Option Expr} {p2 pos : Pos} {r : Run} (ih : Sound n) (xo : XOK c X) (h : revG m (denE n c) a lo hi st = some r) : PD X (.Subscript a (.Slice lo hi (some st) p2) pos) r := by
 cases lo with
 | some _ => cases h
 | none =>
  obtain ⟨hm, h⟩ := oite h
  obtain ⟨j, p, q, rfl⟩ := isM1_ok hm
  cases hi with
  | none => obtain ⟨ra, ha, rfl⟩ := om h; exact pd_revA (ih.e c X a ra xo ha)
  | some u => obtain ⟨ra, ha, h⟩ := ob h; obtain ⟨rl, hl, rfl⟩ := om h; exact pd_revH (ih.e c X a ra xo ha) (ih.e c X u rl xo hl)
theorem sd_ix {a b : Expr} {pos : Pos} {r : Run} (ih : Sound n) (xo : XOK c X) (hp : plainIx b = true) (h : ixG c (denE n c) a b = some r) : PD X (.Subscript a b pos) r := by
 unfold ixG at h
 obtain ⟨ra, ha, h3⟩ := ob h
 obtain ⟨rb, hb, rfl⟩ := om h3
 exact pd_ixX (by have := xo.units; omega) (ih.e c X a ra xo ha) (ih.e c X b rb xo hb) (plainIx_noSl hp) (pd_ix0 (ih.e c X a ra xo ha) (ih.e c X b rb xo hb) (plainIx_ok hp))
theorem sd_sub {a i : Expr} {pos : Pos} {r : Run} (ih : Sound n) (xo : XOK c X) (h : subG c (denE n c) a i pos = some r) : PD X (.Subscript a i pos) r := by
 by_cases hp : plainIx i = true
 ·have h' : (if plainIx i then ixG c (denE n c) a i else none) = some r := by
   rw [← h]
   cases i <;> first | rfl | exact absurd (show false = true from hp) Bool.false_ne_true
  exact sd_ix ih xo hp (oite h').2
 ·cases i <;> first | exact absurd rfl hp | skip
  rename_i lo hi st p2
  cases st with
  | none => exact sd_sl ih xo h
  | some st => exact sd_rev ih xo h
theorem sd_ifs {ifs : List Expr} {rt : Run} {X' : Cx} (hK : X'.K = X.K) (h : ifsD (denT n c) ifs = some rt) (k : ∀ t r, denT n c t = some r → PT X' t (tDT X' r)) : PTs X' ifs (tT0 X.K rt) := by
 cases ifs with
 | nil =>
  cases h
  intro pins s' σ H' Q I q
  refine pts_nil pins s' σ H' Q I ?_
  obtain ⟨ι, G, st, Γ, en, sr, q⟩ := q
  obtain ⟨b, e, q'⟩ := q (.bl true) ι G H' (Ext.refl _ _ _) sr (.bl true)
  cases e; exact q'
 | cons t ts =>
  cases ts with
  | nil => rw [← hK]; exact pts_one (PT.calm (k t rt h))
  | cons _ _ => cases h
theorem sd_comp {elt : Expr} {gens : List Comprehension} {scope : Scope} {pos : Pos} {r : Run} (ih : Sound n) (xo : XOK c X) (h : compR c (denI n c) (denT n) (denE n) elt gens scope pos = some r) :
  PD X (.ListComp elt gens scope pos) r ∧ (∀ {i : Nat} {y : Str} {py spos : Pos}, X.N.Nodup → X.N[i]? = some y → X.env.scope.names.lookup y = some .local → swapsWith (.ListComp elt gens scope pos) (some (.Name y py)) spos.line X.env = pure true →
   PS X (.Assign [.Name y py] (.ListComp elt gens scope pos) spos) (tAsg (tD X r) (gName i))) := by
 obtain ⟨x, px, iter, ifs, rfl, h⟩ := compR_ok h
 obtain ⟨hcm, h⟩ := oite2 h
 obtain ⟨hk, h⟩ := oite h
 rw [Bool.and_eq_true] at hk
 obtain ⟨src, hsrc, h⟩ := ob h
 obtain ⟨cap, hcap, h⟩ := ob h
 obtain ⟨rt, hrt, h⟩ := ob h
 obtain ⟨re, hre, rfl⟩ := om h
 exact pd_comp (xo.calm hcm) (ih.i c X x px iter src xo hsrc) (comp_sc xo hk.2 hcap) (fun C s H ex => sd_ifs (X := X) rfl hrt fun t r ht => ih.t _ _ t r (comp_xok xo hk.2 hcap C s H ex) ht) (fun C s H ex => PD.calm (ih.e _ _ elt re (comp_xok xo hk.2 hcap C s H ex) hre)) (noSet_fold hk.1)
theorem sd_rng {es : List Expr} {y : Str} {py p pos : Pos} {r : Src} (ih : Sound n) (xo : XOK c X) (h : rngR c (denE n c) (denEs n c) "range" es = some r) : PDI X (.Name y py) (.Call (.Name "range" p) es [] pos) r := by
 unfold rngR at h
 split at h
 ·rename_i hl hw
  cases es with
  | nil => cases h
  | cons a es =>
   cases es with
   | nil =>
    obtain ⟨hs, h⟩ := oite h
    obtain ⟨ra, ha, rfl⟩ := om h
    exact pdi_range1 (xo.gl hl) (xo.blt _ hw) (ih.e c X a ra xo ha) (star_cons hs)
   | cons b es =>
    cases es with
    | nil =>
     obtain ⟨hs, h⟩ := oite h
     rw [Bool.and_eq_true] at hs
     obtain ⟨ra, ha, h⟩ := ob h
     obtain ⟨rb, hb, rfl⟩ := om h
     have s2 : starEach [b] X.env = [(false, eval b X.env)] := star_cons hs.2
     exact pdi_range2 (xo.gl hl) (xo.blt _ hw) (ih.e c X a ra xo ha) (ih.e c X b rb xo hb) (by rw [star_cons hs.1, s2]) s2
    | cons d es =>
     obtain ⟨hs, h⟩ := oite h
     rw [Bool.and_eq_true] at hs
     obtain ⟨rr, hr, rfl⟩ := om h
     exact pdi_range3 (xo.gl hl) (xo.blt _ hw) (ih.es c X _ rr xo hr) (star_cons hs.1) (star_all hs.2)
 ·cases h
theorem sd_E {e : Expr} {r : Run} (ih : Sound n) (xo : XOK c X) (h : denE (n + 1) c e = some r) : PD X e r := by
 unfold denE at h
 cases e with
 | Name x pos => exact sd_name xo h
 | Constant v k pos => exact sd_con h
 | BinOp a op b pos =>
  obtain ⟨ra, ha, h⟩ := ob h
  obtain ⟨rb, hb, h⟩ := ob h
  obtain ⟨o, ho, rfl⟩ := om h
  exact pd_op (binD_ok ho) (ih.e c X a ra xo ha) (ih.e c X b rb xo hb)
 | UnaryOp op a pos => obtain ⟨ra, ha, h⟩ := ob h; exact sd_un (ih.e c X a ra xo ha) h
 | BoolOp op es pos =>
  cases es with
  | nil => cases h
  | cons a es =>
   cases es with
   | nil => exact pd_one (ih.e c X a r xo h)
   | cons b rest => obtain ⟨ra, ha, h⟩ := ob h; obtain ⟨rb, hb, rfl⟩ := om h; exact sd_bool (ih.e c X a ra xo ha) (ih.e c X _ rb xo hb)
 | Compare a ops bs pos => exact (sd_cmp ih xo h).1
 | IfExp t a b pos =>
  obtain ⟨rt, ht, h⟩ := ob h
  obtain ⟨ra, ha, h⟩ := ob h
  obtain ⟨rb, hb, rfl⟩ := om h
  exact pd_if (ih.t c X t rt xo ht) (ih.e c X a ra xo ha) (ih.e c X b rb xo hb)
 | Tuple es k pos => obtain ⟨rr, hr, rfl⟩ := om h; exact pd_tup (ih.es c X es rr xo hr)
 | List es pos =>
  obtain ⟨rr, hr, rfl⟩ := om h
  cases c.isMut pos with
  | true => exact pd_newL (ih.es c X es rr xo hr)
  | false => exact pd_lst (ih.es c X es rr xo hr)
 | Call f es ks pos => exact sd_call ih xo h
 | Subscript a i pos => exact sd_sub ih xo h
 | ListComp elt gens scope pos => exact (sd_comp ih xo h).1
 | Dict ks vs pos =>
  cases ks with
  | cons _ _ => cases h
  | nil =>
   cases vs with
   | cons _ _ => cases h
   | nil =>
    cases h
    cases c.isMut pos with
    | true => exact pd_dictN
    | false => exact pd_dict0
 | _ => cases h
theorem sd_W {op : BoolOp} {es : List Expr} {pos : Pos} {r : Run} (ih : Sound n) (xo : XOK c X) (h : denT (n + 1) c (.BoolOp op es pos) = some r) : PW X (.BoolOp op es pos) (tDT X r) := by
 unfold denT at h
 cases es with
 | nil => cases h
 | cons a es =>
  cases es with
  | nil => exact pwt_one (ih.t c X a r xo h)
  | cons b rest =>
   obtain ⟨ra, ha, h⟩ := ob h
   obtain ⟨rb, hb, rfl⟩ := om h
   cases op with
   | And => exact pwt_and (ih.t c X a ra xo ha) (ih.w c X .And (b :: rest) pos rb xo hb)
   | Or => exact pwt_or (ih.t c X a ra xo ha) (ih.w c X .Or (b :: rest) pos rb xo hb)
theorem sd_T {e : Expr} {r : Run} (ih : Sound n) (xo : XOK c X) (h : denT (n + 1) c e = some r) : PT X e (tDT X r) := by
 have pl : plainT e = true → denE n c e = some r → PT X e (tDT X r) := fun hp h => pdt_val (ih.e c X e r xo h) (plainT_ok hp)
 cases e with
 | BoolOp op es pos => exact (sd_W ih xo h).pt
 | UnaryOp op a pos =>
  unfold denT at h
  cases op with
  | Not => obtain ⟨ra, ha, rfl⟩ := om h; exact pdt_not (ih.t c X a ra xo ha)
  | _ => exact pl rfl h
 | Compare a ops bs pos => unfold denT at h; exact (sd_cmp ih xo h).2
 | _ => unfold denT at h; obtain ⟨hp, h⟩ := oite h; exact pl hp h
theorem sd_I {y : Str} {py : Pos} {e : Expr} {r : Src} (ih : Sound n) (xo : XOK c X) (h : denI (n + 1) c e = some r) : PDI X (.Name y py) e r := by
 have val : ∀ {r : Src}, (denE n c e).map runSrc = some r → PDI X (.Name y py) e r := fun {r} h => by
  obtain ⟨ra, ha, rfl⟩ := om h
  exact pdi_val (ih.e c X e ra xo ha)
 unfold denI at h
 cases e with
 | Call f es ks pos =>
  cases f with
  | Name x p =>
   cases ks with
   | nil =>
    by_cases hx : (x == ("range" : Str)) = true
    ·have h : (if x == ("range" : Str) then rngR c (denE n c) (denEs n c) x es else (denE n c (.Call (.Name x p) es [] pos)).map runSrc) = some r := h
     rw [if_pos hx] at h
     have hx' := eq_of_beq hx
     subst hx'
     exact sd_rng ih xo h
    ·have h : (if x == ("range" : Str) then rngR c (denE n c) (denEs n c) x es else (denE n c (.Call (.Name x p) es [] pos)).map runSrc) = some r := h
     rw [if_neg hx] at h
     exact val h
   | cons k ks => exact val h
  | _ => exact val h
 | _ => exact val h
end
theorem sound : ∀ n, Sound n
 | 0 => ⟨fun _ _ _ _ _ h => by (unfold denE at h; cases h), fun _ _ _ _ _ h => by (unfold denT at h; cases h), fun _ _ _ _ _ _ _ h => by (unfold denT at h; cases h), fun _ _ _ _ _ h => by (unfold denEs at h; cases h), fun _ _ _ _ _ _ _ h => by (unfold denI at h; cases h), fun _ _ _ _ _ h => by (unfold denJ at h; cases h)⟩
 | n + 1 => by
  have ih := sound n
  refine ⟨fun _ _ _ _ xo h => sd_E ih xo h, fun _ _ _ _ xo h => sd_T ih xo h, fun _ _ _ _ _ _ xo h => sd_W ih xo h, fun c X es r xo h => ?_, fun _ _ _ _ _ _ xo h => sd_I ih xo h, fun c X es rs xo h => ?_⟩
  ·unfold denEs at h
   cases es with
   | nil => cases h; exact pda_nil
   | cons e es =>
    obtain ⟨hs, h⟩ := oite h
    obtain ⟨ra, ha, h⟩ := ob h
    obtain ⟨rr, hr, rfl⟩ := om h
    exact pda_cons (ih.e c X e ra xo ha) (ih.es c X es rr xo hr) (star_cons hs)
  ·unfold denJ at h
   cases es with
   | nil => cases h; exact .nil
   | cons e es =>
    obtain ⟨ra, ha, h⟩ := ob h
    obtain ⟨rr, hr, rfl⟩ := om h
    exact .cons (ih.e c X e ra xo ha) (ih.j c X es rr xo hr)
end DL
namespace DL
open PySem PySem.Spec PyProof.Rows L2
def isComp : Expr → Bool
 | .ListComp _ _ _ _ => true
 | .SetComp _ _ _ _ => true
 | .DictComp _ _ _ _ _ => true
 | _ => false
theorem noComp_swaps {e : Expr} {t : Option Expr} {l : Nat} {env : Env} (h : isComp e = false) : swapsWith e t l env = pure false := by
 cases e <;> first | rfl | exact absurd (show true = false from h) (by decide)
def isTup : Expr → Bool
 | .Tuple _ _ _ => true
 | _ => false
def locD (c : FC) (x : Str) : Option Nat := match c.sc.names.lookup x with
 | some .local => slot c.N x
 | some .cell => slot c.N x
 | _ => none
theorem locD_ok {c : FC} {x : Str} {i : Nat} (h : locD c x = some i) : (c.sc.names.lookup x = some .local ∨ c.sc.names.lookup x = some .cell) ∧ slot c.N x = some i := by
 unfold locD at h
 split at h
 ·rename_i e; exact ⟨.inl e, h⟩
 ·rename_i e; exact ⟨.inr e, h⟩
 ·cases h
def asgD (c : FC) (E : Expr → Option Run) (e : Expr) : List Expr → Option RunS
 | [] => none
 | t :: ts => (match ts with
  | _ :: _ => none
  | [] => (match t with
   | .Name x _ => (locD c x).bind fun i => (E e).map fun r => sSet i r
   | .Subscript o i _ => if isComp e || isTup e || !plainIx i then none else (E o).bind fun ro => (E i).bind fun ri => (E e).map fun rv => sSetIx ro ri rv
   | _ => none))
def zipD (c : FC) : Expr → Option (Expr × Expr × Pos × Pos)
 | .Call (.Name x p) [a, b] [] cp => if x == ("zip" : Str) && noStar a && noStar b then (match c.sc.names.lookup x, c.gl.lookup x with
  | some .globalImplicit, some .blt => some (a, b, p, cp)
  | _, _ => none) else none
 | _ => none
theorem zipD_ok {c : FC} {e a b : Expr} {p cp : Pos} (h : zipD c e = some (a, b, p, cp)) : e = .Call (.Name "zip" p) [a, b] [] cp ∧ noStar a = true ∧ noStar b = true ∧ c.sc.names.lookup ("zip" : Str) = some .globalImplicit ∧ c.gl.lookup ("zip" : Str) = some .blt := by
 unfold zipD at h
 split at h
 ·obtain ⟨hk, h⟩ := oite h
  simp only [Bool.and_eq_true] at hk
  obtain ⟨⟨hx, ha⟩, hb⟩ := hk
  have hx' := eq_of_beq hx
  subst hx'
  split at h
  ·rename_i h1 h2
   cases h
   exact ⟨rfl, ha, hb, h1, h2⟩
  ·cases h
 ·cases h
def twoN : List Expr → Option (Str × Pos × Str × Pos)
 | [.Name x p, .Name y q] => some (x, p, y, q)
 | _ => none
theorem twoN_ok {es : List Expr} {x y : Str} {p q : Pos} (h : twoN es = some (x, p, y, q)) : es = [.Name x p, .Name y q] := by
 unfold twoN at h
 split at h
 ·cases h; rfl
 ·cases h
def forD (c : FC) (I : Expr → Option Src) (Es : List Expr → Option Runs) (rb : RunS) (tg iter : Expr) : Option RunS := match tg with
 | .Name x _ => if noSet iter then (locD c x).bind fun i => (I iter).map fun src => sFor i src rb else none
 | .Tuple es _ _ => (twoN es).bind fun (x, _, y, _) => (zipD c iter).bind fun (a, b, _, _) => (locD c x).bind fun i => (locD c y).bind fun j => (Es [a, b]).map fun rr => sForZ i j rr rb
 | _ => none
mutual
def denS : Nat → FC → Stmt → Option RunS
 | 0, _, _ => none
 | n + 1, c, s => match s with
  | .Return v _ => (match v with
   | none => some sRetN
   | some e => (denE n c e).map sRet)
  | .Pass _ => some sPass
  | .Break _ => some sBrk
  | .Continue _ => some sCnt
  | .Assign ts e _ => asgD c (denE n c) e ts
  | .If t a b _ => (denT n c t).bind fun rt => (denSs n c a).bind fun ra => (denSs n c b).map fun rb => sIf rt ra rb
  | .For tg iter body orelse _ => (match orelse with
   | [] => if !c.cm then none else (denSs n c body).bind fun rb => forD c (denI n c) (denEs n c) rb tg iter
   | _ :: _ => none)
  | .Expr e _ => if isComp e then none else (denE n c e).map sDrop
  | _ => none
def denSs : Nat → FC → List Stmt → Option RunS
 | 0, _, _ => none
 | n + 1, c, ss => match ss with
  | [] => some sPass
  | s :: ss => (denS n c s).bind fun a => (denSs n c ss).map fun b => sSeq a b
end
structure XS (c : FC) (X : Cx) : Prop extends XOK c X where
 fnx : ∀ x, X.fn x = true
 own' : PassesOwn (model X.prog X.w) X.A X.env X.xe
structure SoundS (n : Nat) : Prop where
 s : ∀ (c : FC) (X : Cx) (s : Stmt) (r : RunS), XS c X → denS n c s = some r → PDS X s r
 ss : ∀ (c : FC) (X : Cx) (s : List Stmt) (r : RunS), XS c X → denSs n c s = some r → PDSs X s r
theorem loc_pg {c : FC} {X : Cx} {x : Str} {i : Nat} {p : Pos} (xo : XS c X) (h : locD c x = some i) : PG X (.Name x p) (gName i) := by
 obtain ⟨hl, hi⟩ := locD_ok h
 exact pg_name (by rw [xo.N]; exact xo.nd) (by rw [xo.N]; exact slot_get hi) (by show X.env.scope.names.lookup x = _ ∨ _; rw [xo.sc]; exact hl) (.inl (xo.fnx x))
theorem set_sound {n : Nat} {c : FC} {X : Cx} {x : Str} {i : Nat} {e : Expr} {r : Run} {p pos : Pos} (xo : XS c X) (hl : locD c x = some i) (he : denE n c e = some r) : PDS X (.Assign [.Name x p] e pos) (sSet i r) := by
 obtain ⟨hl, hi⟩ := locD_ok hl
 have hN : X.N.Nodup := by rw [xo.N]; exact xo.nd
 have hx : X.N[i]? = some x := by rw [xo.N]; exact slot_get hi
 have hL : Loc X.env.scope x := by show X.env.scope.names.lookup x = _ ∨ _; rw [xo.sc]; exact hl
 have hp := (sound n).e c X e r xo.toXOK he
 have plain : swapsWith e (some (.Name x p)) pos.line X.env = pure false → PDS X (.Assign [.Name x p] e pos) (sSet i r) := fun h => pds_set hN hx hL hp h (.inl (xo.fnx x))
 cases e with
 | ListComp elt gens scope cpos =>
  cases hb : X.env.blockKind == .function && X.env.kindOf x == some .local && p.line == cpos.line && !(scope.names.any fun (n, k) => n == x && (k == .local || k == .cell)) with
  | false => exact plain (congrArg pure hb)
  | true =>
   have hloc : X.env.scope.names.lookup x = some .local := by
    simp only [Bool.and_eq_true] at hb
    exact eq_of_beq hb.1.1.2
   cases n with
   | zero => unfold denE at he; cases he
   | succ n => unfold denE at he; exact PS.imp ((sd_comp (sound n) xo.toXOK he).2 hN hx hloc (congrArg pure hb)) fun D σ H h => asg_set h
 | SetComp _ _ _ _ => cases n <;> (unfold denE at he; cases he)
 | DictComp _ _ _ _ _ => cases n <;> (unfold denE at he; cases he)
 | _ => exact plain rfl
theorem ss_asg {n : Nat} {c : FC} {X : Cx} {e : Expr} {ts : List Expr} {r : RunS} {pos : Pos} (xo : XS c X) (h : asgD c (denE n c) e ts = some r) : PDS X (.Assign ts e pos) r := by
 cases ts with
 | nil => cases h
 | cons t ts =>
  cases ts with
  | cons _ _ => cases h
  | nil =>
   cases t <;> first | (cases h; done) | skip
   ·rename_i o i p
    have h : (if isComp e || isTup e || !plainIx i then none else (denE n c o).bind fun ro => (denE n c i).bind fun ri => (denE n c e).map fun rv => sSetIx ro ri rv) = some r := h
    cases hc1 : isComp e with
    | true => rw [hc1] at h; cases h
    | false =>
     cases hc2 : isTup e with
     | true => rw [hc1, hc2] at h; cases h
     | false =>
      cases hc3 : plainIx i with
      | false => rw [hc1, hc2, hc3] at h; cases h
      | true =>
       rw [hc1, hc2, hc3] at h
       obtain ⟨ro, ho, h⟩ := ob h
       obtain ⟨ri, hi, h⟩ := ob h
       obtain ⟨rv, hv, rfl⟩ := om h
       have po := (sound n).e c X o ro xo.toXOK ho
       have pi := (sound n).e c X i ri xo.toXOK hi
       refine pds_setIx (by have := xo.units; omega) po pi ((sound n).e c X e rv xo.toXOK hv) (fun hs => pg_sub po pi hs (by intro v; cases i <;> first | rfl | exact absurd (show false = true from hc3) Bool.false_ne_true)) (show swapsWith e (some (.Subscript o i p)) pos.line X.env = pure false from noComp_swaps hc1) ?_ (noComp_swaps hc1)
       cases e <;> first | rfl | exact absurd (show true = false from hc2) (by decide)
   ·obtain ⟨i, hi, h⟩ := ob h
    obtain ⟨ra, ha, rfl⟩ := om h
    exact set_sound xo hi ha
theorem ss_for {n : Nat} {c : FC} {X : Cx} {tg iter : Expr} {body : List Stmt} {rb r : RunS} {pos : Pos} (ih : SoundS n) (xo : XS c X) (hcm : c.cm = true) (hb : denSs n c body = some rb) (h : forD c (denI n c) (denEs n c) rb tg iter = some r) : PDS X (.For tg iter body [] pos) r := by
 cases tg <;> first | (cases h; done) | skip
 ·rename_i x p
  obtain ⟨hs, h⟩ := oite h
  obtain ⟨i, hi, h⟩ := ob h
  obtain ⟨src, hsrc, rfl⟩ := om h
  exact pds_for xo.own' (xo.calm hcm) ((sound n).i c X x p iter src xo.toXOK hsrc) (loc_pg xo hi) (ih.ss c X body rb xo hb) (noSet_fold hs)
 ·obtain ⟨⟨x, p, y, q⟩, he, h⟩ := ob h
  obtain ⟨⟨a, b, zp, cp⟩, hz, h⟩ := ob h
  obtain ⟨i, hi, h⟩ := ob h
  obtain ⟨j, hj, h⟩ := ob h
  obtain ⟨rr, hr, rfl⟩ := om h
  have he := twoN_ok he
  obtain ⟨hz, ha, hb', hl, hw⟩ := zipD_ok hz
  subst he hz
  have s2 : starEach [b] X.env = [(false, eval b X.env)] := star_cons hb'
  exact pds_forZ xo.own' (xo.calm hcm) (xo.gl hl) (xo.blt _ hw) ((sound n).es c X _ rr xo.toXOK hr) (by rw [star_cons ha, s2]) s2 (loc_pg xo hi) (loc_pg xo hj) (ih.ss c X body rb xo hb)
theorem soundS : ∀ n, SoundS n
 | 0 => ⟨fun _ _ _ _ _ h => by (unfold denS at h; cases h), fun _ _ _ _ _ h => by (unfold denSs at h; cases h)⟩
 | n + 1 => by
  have ih := soundS n
  refine ⟨fun c X s r xo h => ?_, fun c X ss r xo h => ?_⟩
  ·unfold denS at h
   cases s with
   | Return v pos =>
    cases v with
    | none => cases h; exact pds_retN
    | some e => obtain ⟨ra, ha, rfl⟩ := om h; exact pds_ret ((sound n).e c X e ra xo.toXOK ha)
   | Pass _ => cases h; exact pds_pass
   | Break _ => cases h; exact pds_brk
   | Continue _ => cases h; exact pds_cnt
   | Assign ts e pos => exact ss_asg xo h
   | If t a b pos =>
    obtain ⟨rt, ht, h⟩ := ob h
    obtain ⟨ra, ha, h⟩ := ob h
    obtain ⟨rb, hb, rfl⟩ := om h
    exact pds_if ((sound n).t c X t rt xo.toXOK ht) (ih.ss c X a ra xo ha) (ih.ss c X b rb xo hb)
   | For tg iter body orelse pos =>
    cases orelse with
    | cons _ _ => cases h
    | nil =>
     obtain ⟨hcm, h⟩ := oite2 h
     obtain ⟨rb, hb, h⟩ := ob h
     exact ss_for ih xo hcm hb h
   | Expr e pos =>
    have h : (if isComp e then none else (denE n c e).map sDrop) = some r := h
    cases hc : isComp e with
    | true => rw [hc] at h; cases h
    | false =>
     rw [hc] at h
     obtain ⟨ra, ha, rfl⟩ := om h
     exact pds_drop ((sound n).e c X e ra xo.toXOK ha) (noComp_swaps hc)
   | _ => cases h
  ·unfold denSs at h
   cases ss with
   | nil => cases h; exact pdss_nil
   | cons s ss =>
    obtain ⟨ra, ha, h⟩ := ob h
    obtain ⟨rb, hb, rfl⟩ := om h
    exact pdss_cons (ih.s c X s ra xo ha) (ih.ss c X ss rb xo hb)
def scopeOk (N ps : List Str) (sc : Scope) : Bool :=
 (sc.kind == .function) && !sc.isCoroutine && !sc.isGenerator && decide N.Nodup && decide (N.take ps.length = ps) && ps.all (fun x => sc.names.lookup x == some .local || sc.names.lookup x == some .cell) && sc.names.all (fun y => y.2 != .free)
theorem scopeOk_ok {N ps : List Str} {sc : Scope} (h : scopeOk N ps sc = true) : FnScope N ps sc := by
 unfold scopeOk at h
 simp only [Bool.and_eq_true, List.all_eq_true, decide_eq_true_eq, beq_iff_eq, Bool.not_eq_true', Bool.or_eq_true] at h
 obtain ⟨⟨⟨⟨⟨⟨h1, h2⟩, h3⟩, h4⟩, h5⟩, h6⟩, h7⟩ := h
 exact ⟨h1, h2, h3, h4, h5, fun x hx => h6 x hx, fun y hy e => by have := h7 y hy; rw [e] at this; cases this⟩
structure TX (P : Program) (w : World) (K : PySem.W.Frag) (mg : Str → Option Value) (base : Heap) (gl : List (Str × GV)) (k : Nat) : Prop where
 con : ∀ x w', gl.lookup x = some (.con w') → ∃ u v, mg x = some u ∧ RelV v u ∧ ∀ ι N G, RelW K ι N G v w'
 fn : ∀ x n op, gl.lookup x = some (.fn n op) → ∃ f fd ps, FnOk P w K mg base CX0 k f fd ps (SpD K n op) ∧ mg x = some (.ref f) ∧ PySem.W.keepIn K (.ref f) = true ∧ Binds K fd ps [] ∧ ps.length = n
 blt : ∀ x, gl.lookup x = some .blt → mg x = none
 fx : ∀ x n b op, gl.lookup x = some (.fx n b op) → ∃ f fd ps, FnX b P w K mg base k f fd ps (SpX K n op) ∧ mg x = some (.ref f) ∧ PySem.W.keepIn K (.ref f) = true ∧ Binds K fd ps [] ∧ ps.length = n
 exc : ∀ y own tab, gl.lookup y = some (.exc own tab) → ∃ cv vc, ExcOk K mg y own tab cv vc
 dcon : ∀ x ks ws, gl.lookup x = some (.dcon ks ws) → KDs P w K mg x ks ws
theorem def_ok {P : Program} {w : World} {K : PySem.W.Frag} {mg : Str → Option Value} {base : Heap} {gl : List (Str × GV)} {k n : Nat} {x qual : Str} {st : Stmt} {f : Addr} {fd : FuncData} {N ps : List Str} {mts : List (Nat × Nat)} {fz : Nat} {run : RunS} (T : TX P w K mg base gl k) (F : Fun K x qual st f fd) (hs : scopeOk N ps (defScope st) = true)
  (hd : denSs n ⟨N, defScope st, gl, mts, true, false⟩ (defBody st) = some run) : FnOk P w K mg base CX0 (k + 3) f fd ps (SpD K ps.length (callOp ps.length N.length fz run)) := by
 have Sc := scopeOk_ok hs
 refine fn_body (k := k + 2) F Sc fun cdv A outer s H E hr => (soundS n).ss ⟨N, defScope st, gl, mts, true, false⟩ _ _ run ⟨⟨rfl, Sc.nd, rfl, fun _ => rfl, fun _ => hr.hd, (by have h := hr.un; show (A.deeper (envOfC qual (defScope st) s.heap.objs.size f cdv)).units + 80 < cLine; omega), fun y hy => ?_, T.con, fun _ x n op h => ?_, T.blt, fun x n b op h => ?_, T.exc, (fun z => Bool.noConfusion z), T.dcon⟩, fun _ => rfl, PassesOwn.never⟩ hd
 ·rcases hy with hy | hy
  ·exact PySem.W.cellsFrom_some _ _ _ (.inl hy)
  ·exact absurd rfl (Sc.nofree _ (PySem.mem_of_lookup hy))
 ·obtain ⟨f, fd, ps, h1, h2, h3, h4, h5⟩ := T.fn x n op h
  exact ⟨k, f, fd, ps, h1, hr, h2, h3, h4, h5⟩
 ·obtain ⟨f, fd, ps, h1, h2, h3, h4, h5⟩ := T.fx x n b op h
  exact ⟨k, f, fd, ps, h1, ⟨(fun z => Bool.noConfusion z), hr.dp, hr.un⟩, h2, h3, h4, h5⟩
end DL
namespace DL
open PySem PySem.Spec PyProof.Rows L2
structure DefAt (K : PySem.W.Frag) (mg : Str → Option Value) (x : Str) (st : Stmt) (ps : List Str) : Prop where
 ex : ∃ f fd, Fun K x x st f fd ∧ mg x = some (.ref f) ∧ Binds K fd ps []
theorem defAt_mk {K : PySem.W.Frag} {h : Heap} {mg : Str → Option Value} {x : Str} {st : Stmt} {ps : List Str} {f : Addr} {oc : Value} {od an : Option Addr} {osl : Array (Option Value)} {kV doc pm cdv ct : Value} (X : K.In h) (G : h.Ns mainGlobals mg)
  (a : PySem.W.nsIn K mainGlobals x = some (some (.ref f))) (l : K.lookup f = some ⟨oc, od, .func (PySem.W.fnOf x x (defArgs st) (defBody st) (defScope st) .none kV doc pm an cdv ct), osl⟩)
  (c : PySem.W.codeIn K cdv x = true) (k : PySem.W.keepIn K (.ref f) = true)
  (hb : ∀ (kV doc pm : Value) (an : Option Addr) (cdv ct : Value) (us : List Value), us.length = ps.length → bindArgs (PySem.W.fnOf x x (defArgs st) (defBody st) (defScope st) .none kV doc pm an cdv ct) ⟨us, []⟩ = pure (ps.zip us)) : DefAt K mg x st ps :=
 have F := fun_mk (st := st) l c k
 ⟨_, _, F, PySem.W.mg_of X G a, F.binds hb⟩
section
variable {P : Program} {w : World} {K : PySem.W.Frag} {mg : Str → Option Value} {base : Heap} {gl : List (Str × GV)} {k : Nat}
theorem TX.mono {k' : Nat} (h : TX P w K mg base gl k) (hk : k ≤ k') : TX P w K mg base gl k' :=
 ⟨h.con, fun x n op e => let ⟨f, fd, ps, h1, h2⟩ := h.fn x n op e; ⟨f, fd, ps, h1.mono hk, h2⟩, h.blt, fun x n b op e => let ⟨f, fd, ps, h1, h2⟩ := h.fx x n b op e; ⟨f, fd, ps, h1.mono hk, h2⟩, h.exc, h.dcon⟩
def GOk (P : Program) (w : World) (K : PySem.W.Frag) (mg : Str → Option Value) (base : Heap) (k : Nat) (x : Str) : GV → Prop
 | .con w' => ∃ u v, mg x = some u ∧ RelV v u ∧ ∀ ι N G, RelW K ι N G v w'
 | .fn n op => ∃ f fd ps, FnOk P w K mg base CX0 k f fd ps (SpD K n op) ∧ mg x = some (.ref f) ∧ PySem.W.keepIn K (.ref f) = true ∧ Binds K fd ps [] ∧ ps.length = n
 | .blt => mg x = none
 | .fx n b op => ∃ f fd ps, FnX b P w K mg base k f fd ps (SpX K n op) ∧ mg x = some (.ref f) ∧ PySem.W.keepIn K (.ref f) = true ∧ Binds K fd ps [] ∧ ps.length = n
 | .exc own tab => ∃ cv vc, ExcOk K mg x own tab cv vc
 | .dcon ks ws => KDs P w K mg x ks ws
theorem TX.get (h : TX P w K mg base gl k) {x : Str} {g : GV} (q : gl.lookup x = some g) : GOk P w K mg base k x g := by
 cases g with
 | con w' => exact h.con x w' q
 | fn n op => exact h.fn x n op q
 | blt => exact h.blt x q
 | fx n b op => exact h.fx x n b op q
 | exc own tab => exact h.exc x own tab q
 | dcon ks ws => exact h.dcon x ks ws q
theorem TX.of (h : ∀ x g, gl.lookup x = some g → GOk P w K mg base k x g) : TX P w K mg base gl k :=
 ⟨fun x w' q => h x _ q, fun x n op q => h x _ q, fun x q => h x _ q, fun x n b op q => h x _ q, fun x own tab q => h x _ q, fun x ks ws q => h x _ q⟩
theorem TX.add {x : Str} {g : GV} (h : TX P w K mg base gl k) (e : GOk P w K mg base k x g) : TX P w K mg base ((x, g) :: gl) k := TX.of fun y g' q => by
 rw [List.lookup_cons] at q
 cases hy : y == x with
 | true =>
  rw [hy] at q
  cases q
  have := eq_of_beq hy
  subst this
  exact e
 | false => rw [hy] at q; exact h.get q
theorem TX.cons {x : Str} {n : Nat} {op : OpN} (h : TX P w K mg base gl k) (e : ∃ f fd ps, FnOk P w K mg base CX0 k f fd ps (SpD K n op) ∧ mg x = some (.ref f) ∧ PySem.W.keepIn K (.ref f) = true ∧ Binds K fd ps [] ∧ ps.length = n) : TX P w K mg base ((x, .fn n op) :: gl) k := h.add e
theorem TX.fnOf {x : Str} {st : Stmt} {N ps : List Str} {mts : List (Nat × Nat)} {fz : Nat} {run : RunS} {n : Nat} (T : TX P w K mg base gl k) (D : DefAt K mg x st ps) (hs : scopeOk N ps (defScope st) = true) (hd : denSs n ⟨N, defScope st, gl, mts, true, false⟩ (defBody st) = some run) :
  ∃ f fd ps', FnOk P w K mg base CX0 (k + 3) f fd ps' (SpD K ps.length (callOp ps.length N.length fz run)) ∧ mg x = some (.ref f) ∧ PySem.W.keepIn K (.ref f) = true ∧ Binds K fd ps' [] ∧ ps'.length = ps.length := by
 obtain ⟨f, fd, F, hm, hb⟩ := D.ex
 exact ⟨f, fd, ps, def_ok T F hs hd, hm, F.kp, hb, rfl⟩
inductive ConK (K : PySem.W.Frag) : Value → W → Prop
 | int (i : Int) (t : Tok) : ConK K (.int i t) (.int i)
 | str (x : Str) (t : Tok) : ConK K (.str x t) (.str x)
 | txts {a : Addr} {od : Option Addr} {its : List Value} {n : Nat} {sl : Array (Option Value)} {xs : List Str} : K.lookup a = some ⟨.type "tuple", od, .seq its.toArray n, sl⟩ → its.length ≤ sizeLine → Vals (xs.map V.str) its → ConK K (.ref a) (.tup (xs.map W.str))
theorem ConK.rel {u : Value} {c : W} (h : ConK K u c) : ∃ v, RelV v u ∧ ∀ ι N G, RelW K ι N G v c := by
 cases h with
 | int i t => exact ⟨.int i, ⟨t, rfl⟩, fun _ _ _ => .int i⟩
 | str x t => exact ⟨.str x, ⟨t, rfl⟩, fun _ _ _ => .str x⟩
 | @txts a od its n sl xs l z v =>
  refine ⟨.ref a, rfl, fun ι N G => .tup (xs := xs.map V.str) (.inr ⟨_, its.toArray, n, l, rfl, rfl, by simpa using z, by simpa using v⟩) ?_⟩
  clear v
  induction xs with
  | nil => exact .nil
  | cons y ys ih => exact .cons (.str y) ih
theorem TX.nil {w0 : Nat} : TX P w K mg base [] w0 := TX.of fun _ _ h => by cases h
theorem TX.con1 {x : Str} {u : Value} {c : W} (h : TX P w K mg base gl k) (hm : mg x = some u) (hc : ConK K u c) : TX P w K mg base ((x, .con c) :: gl) k :=
 h.add (let ⟨v, h1, h2⟩ := hc.rel; ⟨u, v, hm, h1, h2⟩)
theorem TX.blt1 {x : Str} (h : TX P w K mg base gl k) (hm : mg x = none) : TX P w K mg base ((x, .blt) :: gl) k := h.add hm
end
def st0 : S := ⟨0, fun _ => none⟩
theorem sp_start {K : PySem.W.Frag} {H : Hp} {a : Addr} {ns : List Int} {op : OpN} (hS : SqL K H a (ns.map V.int)) (h : ∃ st', op [.lst (ns.map W.int)] st0 = .ok (.bl true) st') : SpD K 1 op [.ref a] H (fun v _ => v = .bl true) fun _ _ _ => False := by
 obtain ⟨st', e⟩ := h
 refine ⟨rfl, fun _ => 0, H, st0, [.lst (ns.map W.int)], ⟨Same.refl H, fun n o q => (by cases q), fun n m o o' q => (by cases q)⟩, .cons (.lst hS (RelWs.ofInts ns)) .nil, ?_⟩
 rw [e]
 intro v ι' G' H' _ _ r
 cases r; rfl
theorem walkD {l : PySem.W.OpenLaw} {q : Program} {loose : List Str} {XP : (Str → Option Value) → Heap → Prop} {YP : World → Heap → Prop} {d : DefRec} {K : Params → PySem.W.Frag} {op : OpN} {k : Nat} {x : Str} (hn : l.most = some 63) (hdf : d.params.defaults = []) (hr : Room k callerA)
  (hY : ∀ (w : World) (h : Heap), YP w h → (K w.params).In h) (hop : ∀ ns : List Int, ns.length ≤ 63 → ∃ st', op [.lst (ns.map W.int)] st0 = .ok (.bl true) st')
  (F : ∀ (w : World) (mg : Str → Option Value) (fa : Addr) (h : Heap), (K w.params).In h → h.Ns mainGlobals mg → mg d.name = some (.ref fa) →
   ∃ fd : FuncData, (∀ (s : Shared) (u : Value), BindsTo s fd ⟨[u], []⟩ [(x, u)]) ∧ ∀ base : Heap, (K w.params).In base → base.Ns mainGlobals mg → FnOk l.prog w (K w.params) mg base CX0 k fa fd [x] (SpD (K w.params) 1 op)) :
  PySem.W.WalkO q loose XP YP l.row.toRowW d [] (fun f vs => PySem.call f vs) :=
 L2.walk_of (n := 63) (k := k) (x := x) (CX := fun _ => CX0) (sp := fun w => SpD (K w.params) 1 op) hn (by decide) hdf hr hY F (fun _ _ a ns hl _ hS => sp_start hS (hop ns hl)) fun _ _ _ _ _ z => z
end DL
namespace DL
open PySem PySem.Spec PyProof.Rows L2
section
variable {α β : Type} {st : S} {Γ : Ga}
theorem ev_ok (a : α) (s : S) (f : α → S → R β) : (R.ok a s).bind f = f a s := Eq.trans rfl rfl
theorem ev_ite (c : Prop) [Decidable c] (x y : R α) (f : α → S → R β) : (if c then x else y).bind f = if c then x.bind f else y.bind f := by by_cases h : c <;> simp only [h, if_true, if_false]
theorem ev_calm (a : α) (s : S) : (R.ok a s).calm = R.ok a s := Eq.trans rfl rfl
def kIf (A B : S → R α) (w : W) (s : S) : R α := match w with
 | .bl true => A s
 | .bl false => B s
 | _ => .stuck
theorem kIf_bl (A B : S → R α) (b : Bool) (s : S) : kIf A B (.bl b) s = if b = true then A s else B s := by cases b <;> rfl
def kSeq (b : RunS) (fl : Fl) (s : S) : R Fl := match fl with
 | .nx Γ' => b Γ' s
 | fl => .ok fl s
theorem kSeq_nx (b : RunS) (Γ : Ga) (s : S) : kSeq b (.nx Γ) s = b Γ s := Eq.trans rfl rfl
theorem kSeq_rt (b : RunS) (w : W) (s : S) : kSeq b (.rt w) s = .ok (.rt w) s := Eq.trans rfl rfl
theorem ev_seq (a b : RunS) : sSeq a b Γ st = (a Γ st).bind (kSeq b) := Eq.trans rfl rfl
theorem ev_if (rc : Run) (a b : RunS) : sIf rc a b Γ st = (rc Γ st).bind (kIf (a Γ) (b Γ)) := Eq.trans rfl rfl
theorem ev_ret (r : Run) : sRet r Γ st = (r Γ st).bind fun w s => .ok (.rt w) s := Eq.trans rfl rfl
theorem ev_pass : sPass Γ st = .ok (.nx Γ) st := Eq.trans rfl rfl
theorem ev_v0 (w : W) : rVar 0 (some w :: Γ) st = .ok w st := Eq.trans rfl rfl
theorem ev_v1 (a : Option W) (w : W) : rVar 1 (a :: some w :: Γ) st = .ok w st := Eq.trans rfl rfl
theorem ev_v2 (a b : Option W) (w : W) : rVar 2 (a :: b :: some w :: Γ) st = .ok w st := Eq.trans rfl rfl
theorem ev_v3 (a b c : Option W) (w : W) : rVar 3 (a :: b :: c :: some w :: Γ) st = .ok w st := Eq.trans rfl rfl
theorem ev_v4 (a b c d : Option W) (w : W) : rVar 4 (a :: b :: c :: d :: some w :: Γ) st = .ok w st := Eq.trans rfl rfl
theorem ev_v5 (a b c d e : Option W) (w : W) : rVar 5 (a :: b :: c :: d :: e :: some w :: Γ) st = .ok w st := Eq.trans rfl rfl
theorem ev_v6 (a b c d e f : Option W) (w : W) : rVar 6 (a :: b :: c :: d :: e :: f :: some w :: Γ) st = .ok w st := Eq.trans rfl rfl
theorem ev_v7 (a b c d e f g : Option W) (w : W) : rVar 7 (a :: b :: c :: d :: e :: f :: g :: some w :: Γ) st = .ok w st := Eq.trans rfl rfl
theorem ev_v8 (a b c d e f g h : Option W) (w : W) : rVar 8 (a :: b :: c :: d :: e :: f :: g :: h :: some w :: Γ) st = .ok w st := Eq.trans rfl rfl
theorem ev_v9 (a b c d e f g h i : Option W) (w : W) : rVar 9 (a :: b :: c :: d :: e :: f :: g :: h :: i :: some w :: Γ) st = .ok w st := Eq.trans rfl rfl
theorem ev_rep7 : List.replicate 7 (none : Option W) = [none, none, none, none, none, none, none] := Eq.trans rfl rfl
theorem ev_rep8 : List.replicate 8 (none : Option W) = [none, none, none, none, none, none, none, none] := Eq.trans rfl rfl
theorem ev_rep9 : List.replicate 9 (none : Option W) = [none, none, none, none, none, none, none, none, none] := Eq.trans rfl rfl
theorem ev_rng1 (r : Run) (i : Int) (h : r Γ st = .ok (.int i) st) (h0 : -4611686018427387904 ≤ i) (h1 : i < 4611686018427387904) : runRng1 r Γ st = .ok (rangeW 0 i.toNat) st := by
 unfold runRng1
 rw [h]
 exact if_pos ⟨h0, h1⟩
theorem ev_opX1 (nl fz : Nat) (run : RunS) (w : W) : callX 1 nl fz run [w] st = leaveX fz st (run (some w :: List.replicate (nl - 1) none) st) := Eq.trans rfl rfl
theorem ev_opX2 (nl fz : Nat) (run : RunS) (w w' : W) : callX 2 nl fz run [w, w'] st = leaveX fz st (run (some w :: some w' :: List.replicate (nl - 2) none) st) := Eq.trans rfl rfl
theorem ev_rtX (s0 s : S) (w : W) : leaveX 0 s0 (.ok (.rt w) s) = .ok w s := Eq.trans rfl rfl
theorem ev_nxX (s0 s : S) (Γ : Ga) : leaveX 0 s0 (.ok (.nx Γ) s) = .ok .non s := Eq.trans rfl rfl
theorem ev_exX (s0 s : S) (c : W) : leaveX 0 s0 (.ex c s) = .ex c s := Eq.trans rfl rfl
theorem ev_exB (c : W) (s : S) (f : α → S → R β) : (R.ex c s : R α).bind f = .ex c s := Eq.trans rfl rfl
def kLo (m : Bool) (w l : W) (s : S) : R W := match l with
 | .int i => opSl m (some i) none w s
 | _ => .stuck
def kHi (m : Bool) (w l : W) (s : S) : R W := match l with
 | .int i => opSl m none (some i) w s
 | _ => .stuck
theorem kLo_int (m : Bool) (w : W) (i : Int) (s : S) : kLo m w (.int i) s = opSl m (some i) none w s := Eq.trans rfl rfl
theorem kHi_int (m : Bool) (w : W) (i : Int) (s : S) : kHi m w (.int i) s = opSl m none (some i) w s := Eq.trans rfl rfl
theorem ev_slSN (m : Bool) (a b : Run) : runSlSN m a b Γ st = (a Γ st).bind fun w s => (b Γ s).bind fun l s => kLo m w l s := Eq.trans rfl rfl
theorem ev_slNS (m : Bool) (a b : Run) : runSlNS m a b Γ st = (a Γ st).bind fun w s => (b Γ s).bind fun l s => kHi m w l s := Eq.trans rfl rfl
theorem ev_slT (ws : List W) (lo hi : Option Int) : opSl false lo hi (.tup ws) st = .ok (.tup (cutW ws lo hi)) st := Eq.trans rfl rfl
theorem ev_con (w : W) : rCon w Γ st = .ok w st := Eq.trans rfl rfl
theorem ev_run1 (r : Run) (o : W → S → R W) : run1 r o Γ st = (r Γ st).bind o := Eq.trans rfl rfl
theorem ev_run2 (a b : Run) (o : Op2) : run2 a b o Γ st = (a Γ st).bind fun x s => (b Γ s).bind fun y s => o x y s := Eq.trans rfl rfl
theorem ev_runN (rr : Runs) (o : OpN) : DL.runN rr o Γ st = (rr Γ st).bind o := Eq.trans rfl rfl
theorem ev_calmOp (o : OpN) (ws : List W) : calmOp o ws st = (o ws st).calm := Eq.trans rfl rfl
theorem ev_nil : runsNil Γ st = .ok [] st := Eq.trans rfl rfl
theorem ev_cons (r : Run) (rr : Runs) : runsCons r rr Γ st = (r Γ st).bind fun w s => (rr Γ s).bind fun ws s => .ok (w :: ws) s := Eq.trans rfl rfl
theorem ev_and (a b : Run) : runAnd a b Γ st = (a Γ st).bind (kIf (b Γ) (fun s => .ok (.bl false) s)) := Eq.trans rfl rfl
theorem ev_or (a b : Run) : runOr a b Γ st = (a Γ st).bind (kIf (fun s => .ok (.bl true) s) (b Γ)) := Eq.trans rfl rfl
def kNot (w : W) (s : S) : R W := match w with
 | .bl b => .ok (.bl (!b)) s
 | _ => .stuck
theorem kNot_bl (b : Bool) (s : S) : kNot (.bl b) s = .ok (.bl (!b)) s := Eq.trans rfl rfl
theorem ev_not (a : Run) : runNot a Γ st = (a Γ st).bind kNot := Eq.trans rfl rfl
theorem ev_runIf (c a b : Run) : runIf c a b Γ st = (c Γ st).bind (kIf (a Γ) (b Γ)) := Eq.trans rfl rfl
theorem ev_chain (a b c : Run) (o o' : Op2) : runC a b c o o' Γ st = (a Γ st).bind fun x s => (b Γ s).bind fun y s => (o x y s).bind (kIf (fun s => (c Γ s).bind fun z s => o' y z s) (fun s => .ok (.bl false) s)) := Eq.trans rfl rfl
theorem ev_rt (s0 s : S) (w : W) : leave 0 s0 (.ok (.rt w) s) = .ok w s := Eq.trans rfl rfl
theorem ev_nx (s0 s : S) (Γ : Ga) : leave 0 s0 (.ok (.nx Γ) s) = .ok .non s := Eq.trans rfl rfl
theorem ev_rtL (s0 s : S) (w : W) : leave 2 s0 (.ok (.rt w) s) = keepL s0 s w := Eq.trans rfl rfl
theorem ev_rtK (s0 s : S) (w : W) : leave 1 s0 (.ok (.rt w) s) = keep s0 s w := Eq.trans rfl rfl
theorem ev_op1 (nl fz : Nat) (run : RunS) (w : W) : callOp 1 nl fz run [w] st = leave fz st (run (some w :: List.replicate (nl - 1) none) st) := Eq.trans rfl rfl
theorem ev_op2 (nl fz : Nat) (run : RunS) (w w' : W) : callOp 2 nl fz run [w, w'] st = leave fz st (run (some w :: some w' :: List.replicate (nl - 2) none) st) := Eq.trans rfl rfl
theorem ev_op3 (nl fz : Nat) (run : RunS) (w w' w2 : W) : callOp 3 nl fz run [w, w', w2] st = leave fz st (run (some w :: some w' :: some w2 :: List.replicate (nl - 3) none) st) := Eq.trans rfl rfl
theorem ev_rep1 : List.replicate 1 (none : Option W) = [none] := Eq.trans rfl rfl
theorem ev_rep2 : List.replicate 2 (none : Option W) = [none, none] := Eq.trans rfl rfl
theorem ev_rep3 : List.replicate 3 (none : Option W) = [none, none, none] := Eq.trans rfl rfl
theorem ev_rep4 : List.replicate 4 (none : Option W) = [none, none, none, none] := Eq.trans rfl rfl
theorem ev_rep5 : List.replicate 5 (none : Option W) = [none, none, none, none, none] := Eq.trans rfl rfl
theorem ev_rep6 : List.replicate 6 (none : Option W) = [none, none, none, none, none, none] := Eq.trans rfl rfl
theorem ev_rep0 : List.replicate 0 (none : Option W) = [] := Eq.trans rfl rfl
theorem ev_addI (i j : Int) : opAdd (.int i) (.int j) st = .ok (.int (i + j)) st := Eq.trans rfl rfl
theorem ev_subI (i j : Int) : opSub (.int i) (.int j) st = .ok (.int (i - j)) st := Eq.trans rfl rfl
theorem ev_mulI (i j : Int) (h : CMul i j) : opMul (.int i) (.int j) st = .ok (.int (i * j)) st := if_pos h
theorem ev_mulR (i j : Int) (h0 : -1000000 ≤ j) (h1 : j ≤ 1000000) : opMul (.int i) (.int j) st = .ok (.int (i * j)) st := ev_mulI i j (.inr ⟨by omega, by omega⟩)
theorem ev_mulL (i j : Int) (h0 : -1000000 ≤ i) (h1 : i ≤ 1000000) : opMul (.int i) (.int j) st = .ok (.int (i * j)) st := ev_mulI i j (.inl ⟨by omega, by omega⟩)
theorem ev_divI (i j : Int) (h : 0 < j) (h' : j < 1073741824) : opDiv (.int i) (.int j) st = .ok (.int (i / j)) st := if_pos ⟨h, h'⟩
theorem ev_modI (i j : Int) (h : 0 < j) : opMod (.int i) (.int j) st = .ok (.int (i % j)) st := if_pos h
theorem ev_negI (i : Int) : opNeg (.int i) st = .ok (.int (-i)) st := Eq.trans rfl rfl
theorem ev_ltI (i j : Int) : opLt (.int i) (.int j) st = .ok (.bl (decide (i < j))) st := Eq.trans rfl rfl
theorem ev_leI (i j : Int) : opLe (.int i) (.int j) st = .ok (.bl (decide (i ≤ j))) st := Eq.trans rfl rfl
theorem ev_gtI (i j : Int) : opGt (.int i) (.int j) st = .ok (.bl (decide (j < i))) st := Eq.trans rfl rfl
theorem ev_geI (i j : Int) : opGe (.int i) (.int j) st = .ok (.bl (decide (j ≤ i))) st := Eq.trans rfl rfl
theorem ev_eqI (i j : Int) : opEq (.int i) (.int j) st = .ok (.bl (i == j)) st := Eq.trans rfl rfl
theorem ev_neI (i j : Int) : opNe (.int i) (.int j) st = .ok (.bl (!(i == j))) st := Eq.trans rfl rfl
theorem ev_eqB (i j : Bool) : opEq (.bl i) (.bl j) st = .ok (.bl (i == j)) st := Eq.trans rfl rfl
theorem ev_neB (i j : Bool) : opNe (.bl i) (.bl j) st = .ok (.bl (!(i == j))) st := Eq.trans rfl rfl
theorem ev_eqS (i j : Str) : opEq (.str i) (.str j) st = .ok (.bl (i == j)) st := Eq.trans rfl rfl
theorem ev_neS (i j : Str) : opNe (.str i) (.str j) st = .ok (.bl (!(i == j))) st := Eq.trans rfl rfl
theorem ev_addS (x y : Str) (h : x.length + y.length ≤ sizeLine) : opAdd (.str x) (.str y) st = .ok (.str (x ++ y)) st := if_pos h
theorem ev_lenL (xs : List W) : opLen [.lst xs] st = .ok (.int xs.length) st := Eq.trans rfl rfl
theorem ev_lenT (xs : List W) : opLen [.tup xs] st = .ok (.int xs.length) st := Eq.trans rfl rfl
theorem ev_lenS (x : Str) (h : x.length ≤ sizeLine) : opLen [.str x] st = .ok (.int x.length) st := if_pos h
theorem ev_lst (ws : List W) (h : ws.length ≤ sizeLine) : opL false ws st = .ok (.lst ws) st := if_pos h
theorem ev_tup (ws : List W) (h : ws.length ≤ sizeLine) : opTup ws st = .ok (.tup ws) st := if_pos h
theorem ev_idxL (ws : List W) (i : Int) (w : W) (h : atI ws i = some w) : opIdx (.lst ws) (.int i) st = .ok w st := by
 show (match atI ws i with | some w => R.ok w st | none => .stuck) = _
 rw [h]
theorem ev_idxT (ws : List W) (i : Int) (w : W) (h : atI ws i = some w) : opIdx (.tup ws) (.int i) st = .ok w st := by
 show (match atI ws i with | some w => R.ok w st | none => .stuck) = _
 rw [h]
theorem ev_idxS (z : Str) (i : Int) (c : Nat) (hz : z.length ≤ sizeLine) (h : atI z.cps.toList i = some c) : opIdx (.str z) (.int i) st = .ok (.str ⟨#[c]⟩) st := by
 show (if z.length ≤ sizeLine then (match atI z.cps.toList i with | some c => R.ok (W.str ⟨#[c]⟩) st | none => .stuck) else .stuck) = _
 rw [if_pos hz, h]
theorem size_small {n : Nat} (h : n ≤ 1000) : n ≤ sizeLine := Nat.le_of_lt (small1000 h)
theorem at_in {γ : Type} (xs : List γ) (i : Int) (h0 : 0 ≤ i) (h1 : i < xs.length) : ∃ x, atI xs i = some x ∧ x ∈ xs := by
 have hj : i.toNat < xs.length := by omega
 refine ⟨xs[i.toNat], ?_, List.getElem_mem hj⟩
 have e : ((i.toNat : Nat) : Int) = i := by omega
 have h := atI_nat (xs := xs) (j := i.toNat) (List.getElem?_eq_getElem hj)
 rw [e] at h
 exact h
theorem at_nat {γ : Type} (xs : List γ) (k : Nat) (x : γ) (h : xs[k]? = some x) : atI xs (k : Int) = some x := atI_nat h
theorem idx0T (x : W) (xs : List W) : opIdx (.tup (x :: xs)) (.int 0) st = .ok x st := ev_idxT _ 0 x (at_nat (x :: xs) 0 x rfl)
theorem ev_isi (w : W) (T : String) : opIsi [w, .ty T] st = if kinds.contains T then (match kindW st w with | some k => .ok (.bl (isKind k T)) st | none => .stuck) else .stuck := Eq.trans rfl rfl
end
section
variable {st : S} {Γ : Ga}
def kRet (w : W) (s : S) : R Fl := .ok (.rt w) s
def kSet (i : Nat) (Γ : Ga) (w : W) (s : S) : R Fl := .ok (.nx (Γ.set i (some w))) s
def kDrop (Γ : Ga) (_ : W) (s : S) : R Fl := .ok (.nx Γ) s
def k2 (b : Run) (o : Op2) (Γ : Ga) (x : W) (s : S) : R W := (b Γ s).bind (o x)
def kC2 (w : W) (ws : List W) (s : S) : R (List W) := .ok (w :: ws) s
def kC (rr : Runs) (Γ : Ga) (w : W) (s : S) : R (List W) := (rr Γ s).bind (kC2 w)
def kTru (s : S) : R W := .ok (.bl true) s
def kFls (s : S) : R W := .ok (.bl false) s
def kCh3 (c : Run) (o' : Op2) (Γ : Ga) (y : W) (s : S) : R W := (c Γ s).bind (o' y)
def kCh2 (c : Run) (o o' : Op2) (Γ : Ga) (x y : W) (s : S) : R W := (o x y s).bind (kIf (kCh3 c o' Γ y) kFls)
def kCh1 (b c : Run) (o o' : Op2) (Γ : Ga) (x : W) (s : S) : R W := (b Γ s).bind (kCh2 c o o' Γ x)
def kLo1 (m : Bool) (b : Run) (Γ : Ga) (w : W) (s : S) : R W := (b Γ s).bind (kLo m w)
def kHi1 (m : Bool) (b : Run) (Γ : Ga) (w : W) (s : S) : R W := (b Γ s).bind (kHi m w)
def kFor (i : Nat) (body : RunS) (Γ : Ga) (items : List W) (s : S) : R Fl := loopS i body items Γ s
def kRaise (x : Str) (ws : List W) (s : S) : R Fl := if ws.length ≤ sizeLine then .ex (.str x) s else .stuck
theorem kRet_ (w : W) (s : S) : kRet w s = .ok (.rt w) s := Eq.trans rfl rfl
theorem kDrop_ (Γ : Ga) (w : W) (s : S) : kDrop Γ w s = .ok (.nx Γ) s := Eq.trans rfl rfl
theorem k2_ (b : Run) (o : Op2) (Γ : Ga) (x : W) (s : S) : k2 b o Γ x s = (b Γ s).bind (o x) := Eq.trans rfl rfl
theorem kC2_ (w : W) (ws : List W) (s : S) : kC2 w ws s = .ok (w :: ws) s := Eq.trans rfl rfl
theorem kC_ (rr : Runs) (Γ : Ga) (w : W) (s : S) : kC rr Γ w s = (rr Γ s).bind (kC2 w) := Eq.trans rfl rfl
theorem kTru_ (s : S) : kTru s = .ok (.bl true) s := Eq.trans rfl rfl
theorem kFls_ (s : S) : kFls s = .ok (.bl false) s := Eq.trans rfl rfl
theorem kCh3_ (c : Run) (o' : Op2) (Γ : Ga) (y : W) (s : S) : kCh3 c o' Γ y s = (c Γ s).bind (o' y) := Eq.trans rfl rfl
theorem kCh2_ (c : Run) (o o' : Op2) (Γ : Ga) (x y : W) (s : S) : kCh2 c o o' Γ x y s = (o x y s).bind (kIf (kCh3 c o' Γ y) kFls) := Eq.trans rfl rfl
theorem kCh1_ (b c : Run) (o o' : Op2) (Γ : Ga) (x : W) (s : S) : kCh1 b c o o' Γ x s = (b Γ s).bind (kCh2 c o o' Γ x) := Eq.trans rfl rfl
theorem kLo1_ (m : Bool) (b : Run) (Γ : Ga) (w : W) (s : S) : kLo1 m b Γ w s = (b Γ s).bind (kLo m w) := Eq.trans rfl rfl
theorem kHi1_ (m : Bool) (b : Run) (Γ : Ga) (w : W) (s : S) : kHi1 m b Γ w s = (b Γ s).bind (kHi m w) := Eq.trans rfl rfl
theorem kFor_ (i : Nat) (body : RunS) (Γ : Ga) (items : List W) (s : S) : kFor i body Γ items s = loopS i body items Γ s := Eq.trans rfl rfl
theorem kRaise1_ (x : Str) (w : W) (s : S) : kRaise x [w] s = .ex (.str x) s := if_pos (show 1 ≤ sizeLine by decide)
theorem ks0 (z : Option W) (Γ : Ga) (w : W) (s : S) : kSet 0 (z :: Γ) w s = .ok (.nx (some w :: Γ)) s := Eq.trans rfl rfl
theorem ks1 (a z : Option W) (Γ : Ga) (w : W) (s : S) : kSet 1 (a :: z :: Γ) w s = .ok (.nx (a :: some w :: Γ)) s := Eq.trans rfl rfl
theorem ks2 (a b z : Option W) (Γ : Ga) (w : W) (s : S) : kSet 2 (a :: b :: z :: Γ) w s = .ok (.nx (a :: b :: some w :: Γ)) s := Eq.trans rfl rfl
theorem ks3 (a b c z : Option W) (Γ : Ga) (w : W) (s : S) : kSet 3 (a :: b :: c :: z :: Γ) w s = .ok (.nx (a :: b :: c :: some w :: Γ)) s := Eq.trans rfl rfl
theorem ks4 (a b c d z : Option W) (Γ : Ga) (w : W) (s : S) : kSet 4 (a :: b :: c :: d :: z :: Γ) w s = .ok (.nx (a :: b :: c :: d :: some w :: Γ)) s := Eq.trans rfl rfl
theorem ks5 (a b c d e z : Option W) (Γ : Ga) (w : W) (s : S) : kSet 5 (a :: b :: c :: d :: e :: z :: Γ) w s = .ok (.nx (a :: b :: c :: d :: e :: some w :: Γ)) s := Eq.trans rfl rfl
theorem ks6 (a b c d e f z : Option W) (Γ : Ga) (w : W) (s : S) : kSet 6 (a :: b :: c :: d :: e :: f :: z :: Γ) w s = .ok (.nx (a :: b :: c :: d :: e :: f :: some w :: Γ)) s := Eq.trans rfl rfl
theorem ks7 (a b c d e f g z : Option W) (Γ : Ga) (w : W) (s : S) : kSet 7 (a :: b :: c :: d :: e :: f :: g :: z :: Γ) w s = .ok (.nx (a :: b :: c :: d :: e :: f :: g :: some w :: Γ)) s := Eq.trans rfl rfl
theorem ks8 (a b c d e f g h z : Option W) (Γ : Ga) (w : W) (s : S) : kSet 8 (a :: b :: c :: d :: e :: f :: g :: h :: z :: Γ) w s = .ok (.nx (a :: b :: c :: d :: e :: f :: g :: h :: some w :: Γ)) s := Eq.trans rfl rfl
theorem ks9 (a b c d e f g h i z : Option W) (Γ : Ga) (w : W) (s : S) : kSet 9 (a :: b :: c :: d :: e :: f :: g :: h :: i :: z :: Γ) w s = .ok (.nx (a :: b :: c :: d :: e :: f :: g :: h :: i :: some w :: Γ)) s := Eq.trans rfl rfl
theorem e_ret (r : Run) : sRet r Γ st = (r Γ st).bind kRet := Eq.trans rfl rfl
theorem e_set (i : Nat) (r : Run) : sSet i r Γ st = (r Γ st).bind (kSet i Γ) := Eq.trans rfl rfl
theorem e_drop (r : Run) : sDrop r Γ st = (r Γ st).bind (kDrop Γ) := Eq.trans rfl rfl
theorem e_run2 (a b : Run) (o : Op2) : run2 a b o Γ st = (a Γ st).bind (k2 b o Γ) := Eq.trans rfl rfl
theorem e_cons (r : Run) (rr : Runs) : runsCons r rr Γ st = (r Γ st).bind (kC rr Γ) := Eq.trans rfl rfl
theorem e_and (a b : Run) : runAnd a b Γ st = (a Γ st).bind (kIf (b Γ) kFls) := Eq.trans rfl rfl
theorem e_or (a b : Run) : runOr a b Γ st = (a Γ st).bind (kIf kTru (b Γ)) := Eq.trans rfl rfl
theorem e_chain (a b c : Run) (o o' : Op2) : runC a b c o o' Γ st = (a Γ st).bind (kCh1 b c o o' Γ) := Eq.trans rfl rfl
theorem e_slSN (m : Bool) (a b : Run) : runSlSN m a b Γ st = (a Γ st).bind (kLo1 m b Γ) := Eq.trans rfl rfl
theorem e_slNS (m : Bool) (a b : Run) : runSlNS m a b Γ st = (a Γ st).bind (kHi1 m b Γ) := Eq.trans rfl rfl
theorem e_for (i : Nat) (src : Src) (body : RunS) : sFor i src body Γ st = (src Γ st).bind (kFor i body Γ) := Eq.trans rfl rfl
theorem e_raise (x : Str) (rr : Runs) : sRaise x rr Γ st = (rr Γ st).bind (kRaise x) := Eq.trans rfl rfl
end
def EV := And.intro @ev_seq (And.intro @ev_if (And.intro @e_ret (And.intro @ev_pass (And.intro @e_drop (And.intro @ev_ok (And.intro @ev_ite (And.intro @kIf_bl (And.intro @kSeq_nx (And.intro @kSeq_rt (And.intro @ev_con (And.intro @ev_v0 (And.intro @ev_v1 (And.intro @ev_v2 (And.intro @ev_v3 (And.intro @ev_v4 (And.intro @ev_v5 (And.intro @ev_v6 (And.intro @ev_v7 (And.intro @ev_v8 (And.intro @ev_v9 (And.intro @e_set (And.intro @ks0 (And.intro @ks1 (And.intro @ks2 (And.intro @ks3 (And.intro @ks4 (And.intro @ks5 (And.intro @ks6 (And.intro @ks7 (And.intro @ks8 (And.intro @ks9 (And.intro @ev_run1 (And.intro @e_run2 (And.intro @ev_runN (And.intro @e_cons (And.intro @ev_nil (And.intro @e_and (And.intro @e_or (And.intro @ev_not (And.intro @kNot_bl (And.intro @ev_runIf (And.intro @e_chain (And.intro @ev_calmOp (And.intro @ev_calm (And.intro @ev_addI (And.intro @ev_subI (And.intro @ev_negI (And.intro @ev_divI (And.intro @ev_modI (And.intro @ev_ltI (And.intro @ev_leI (And.intro @ev_gtI (And.intro @ev_geI (And.intro @ev_eqI (And.intro @ev_neI (And.intro @ev_eqS (And.intro @ev_neS (And.intro @ev_eqB (And.intro @ev_neB (And.intro @ev_lenL (And.intro @ev_lenT (And.intro @ev_op1 (And.intro @ev_op2 (And.intro @ev_op3 (And.intro @ev_opX1 (And.intro @ev_opX2 (And.intro @ev_rt (And.intro @ev_nx (And.intro @ev_rtX (And.intro @ev_nxX (And.intro @ev_exX (And.intro @ev_exB (And.intro @e_slSN (And.intro @e_slNS (And.intro @kLo_int (And.intro @kHi_int (And.intro @ev_slT (And.intro @ev_rep0 (And.intro @ev_rep1 (And.intro @ev_rep2 (And.intro @ev_rep3 (And.intro @ev_rep4 (And.intro @ev_rep5 (And.intro @ev_rep6 (And.intro @ev_rep7 (And.intro @ev_rep8 (And.intro @ev_rep9 (And.intro @kRet_ (And.intro @kDrop_ (And.intro @k2_ (And.intro @kC2_ (And.intro @kC_ (And.intro @kTru_ (And.intro @kFls_ (And.intro @kCh3_ (And.intro @kCh2_ (And.intro @kCh1_ (And.intro @kLo1_ (And.intro @kHi1_ (And.intro @kFor_ (And.intro @kRaise1_ (And.intro @e_for @e_raise))))))))))))))))))))))))))))))))))))))))))))))))))))))))))))))))))))))))))))))))))))))))))))))))))))))
end DL
namespace DL
open PySem PySem.Spec PyProof.Rows L2
section
variable {K : PySem.W.Frag}
structure DIn (K : PySem.W.Frag) (x : Str) (st : Stmt) : Prop where
 ex : ∃ (f : Addr) (oc : Value) (od : Option Addr) (kV doc pm : Value) (an : Option Addr) (cdv ct : Value) (osl : Array (Option Value)), PySem.W.nsIn K mainGlobals x = some (some (.ref f)) ∧
  K.lookup f = some ⟨oc, od, .func (PySem.W.fnOf x x (defArgs st) (defBody st) (defScope st) .none kV doc pm an cdv ct), osl⟩ ∧ PySem.W.codeIn K cdv x = true ∧ PySem.W.keepIn K (.ref f) = true
theorem DIn.mk' {x : Str} {st : Stmt} {f : Addr} {oc : Value} {od : Option Addr} {kV doc pm : Value} {an : Option Addr} {cdv ct : Value} {osl : Array (Option Value)} (a : PySem.W.nsIn K mainGlobals x = some (some (.ref f)))
  (l : K.lookup f = some ⟨oc, od, .func (PySem.W.fnOf x x (defArgs st) (defBody st) (defScope st) .none kV doc pm an cdv ct), osl⟩) (c : PySem.W.codeIn K cdv x = true) (p : PySem.W.keepIn K (.ref f) = true) : DIn K x st := ⟨_, _, _, _, _, _, _, _, _, _, a, l, c, p⟩
theorem DIn.at_ {x : Str} {st : Stmt} {ps : List Str} {h : Heap} {mg : Str → Option Value} (X : K.In h) (G : h.Ns mainGlobals mg) (d : DIn K x st)
  (hb : ∀ (kV doc pm : Value) (an : Option Addr) (cdv ct : Value) (us : List Value), us.length = ps.length → bindArgs (PySem.W.fnOf x x (defArgs st) (defBody st) (defScope st) .none kV doc pm an cdv ct) ⟨us, []⟩ = pure (ps.zip us)) : DefAt K mg x st ps := by
 obtain ⟨_, _, _, _, _, _, _, _, _, _, a, l, c, p⟩ := d.ex
 exact defAt_mk X G a l c p hb
theorem DIn.law {x : Str} {st : Stmt} {y : Str} {h : Heap} {mg : Str → Option Value} {fa : Addr} {R : FuncData → Prop} (X : K.In h) (G : h.Ns mainGlobals mg) (d : DIn K x st) (hfa : mg x = some (.ref fa))
  (hb : ∀ (kV doc pm : Value) (an : Option Addr) (cdv ct : Value) (s : Shared) (u : Value), BindsTo s (PySem.W.fnOf x x (defArgs st) (defBody st) (defScope st) .none kV doc pm an cdv ct) ⟨[u], []⟩ [(y, u)]) (hR : ∀ fd, Fun K x x st fa fd → R fd) :
  ∃ fd : FuncData, (∀ (s : Shared) (u : Value), BindsTo s fd ⟨[u], []⟩ [(y, u)]) ∧ R fd := by
 obtain ⟨_, _, _, _, _, _, _, _, _, _, a, l, c, p⟩ := d.ex
 have e := hfa.symm.trans (PySem.W.mg_of X G a)
 cases e
 exact ⟨_, fun s u => hb _ _ _ _ _ _ s u, hR _ (fun_mk (st := st) l c p)⟩
end
end DL
namespace DL
open PySem PySem.Spec PyProof.Rows L2
def cp (z : Str) : List Nat := z.cps.toList
theorem cp_len (z : Str) : (cp z).length = z.length := by unfold cp; rw [Array.length_toList]; rfl
theorem cp_app (x y : Str) : cp (x ++ y) = cp x ++ cp y := by
 show (x.cps ++ y.cps).toList = _
 rw [Array.toList_append]; rfl
theorem cp_ext {x y : Str} (h : cp x = cp y) : x = y := by
 obtain ⟨a⟩ := x
 obtain ⟨b⟩ := y
 have : a = b := Array.toList_inj.mp h
 rw [this]
theorem cp_join0 : ∀ ys : List Str, cp (Txt.join "" ys) = (ys.map cp).flatten := by
 have e : ∀ ys : List Str, cp (Str.join "" ys) = (ys.map cp).flatten := by
  intro ys
  induction ys with
  | nil => rfl
  | cons x r ih =>
   cases r with
   | nil => show cp x = _; simp
   | cons y r =>
    show cp (x ++ ("" : Str) ++ Str.join "" (y :: r)) = _
    rw [cp_app, cp_app, ih]
    show cp x ++ [] ++ _ = _
    simp
 intro ys
 show cp (Builtin.Str.glued "" ys) = _
 rw [StrLaws.glued_eq_join]
 exact e ys
theorem pick_range (l : List Nat) (s : Nat) : ∀ m : Nat, ((List.range m).map fun (k : Nat) => s + k).filterMap (fun i => l[i]?) = (l.drop s).take m
 | 0 => by simp
 | m + 1 => by
  rw [List.range_succ, List.map_append, List.filterMap_append, pick_range l s m, List.take_succ, List.getElem?_drop]
  congr 1
theorem slice_lo (z : Str) (k : Nat) : cp (Txt.slice z (some (k : Int)) none) = (cp z).drop k := by
 have hi : Builtin.Str.strSliceIndices (some (k : Int)) none 1 z.length = (List.range (z.length - k)).map fun (i : Nat) => min k z.length + i := by
  unfold Builtin.Str.strSliceIndices sliceRange
  simp only [show (1 : Int) > 0 by decide, if_true]
  have c0 : ¬ ((k : Int) < 0) := by omega
  simp only [c0, if_false]
  have e1 : max (0 : Int) (min (k : Int) (z.length : Int)) = ((min k z.length : Nat) : Int) := by omega
  rw [e1]
  by_cases h : k < z.length
  ·rw [if_pos (by omega)]
   have e2 : (((z.length : Int) - ((min k z.length : Nat) : Int) + 1 - 1) / 1).toNat = z.length - k := by rw [Int.ediv_one]; omega
   rw [e2]
   apply List.map_congr_left
   intro i _
   omega
  ·rw [if_neg (by omega)]
   have : z.length - k = 0 := by omega
   rw [this]; rfl
 have hp := pick_range (cp z) (min k z.length) (z.length - k)
 unfold Txt.slice
 rw [hi]
 by_cases h : ((1 : Int) == 1 && ((List.range (z.length - k)).map fun (i : Nat) => min k z.length + i).length == z.length) = true
 ·rw [if_pos h]
  simp only [Bool.and_eq_true, beq_iff_eq, List.length_map, List.length_range] at h
  have h2 := h.2
  by_cases hk : k = 0
  ·rw [hk, List.drop_zero]
  ·have hz : z.length = 0 := by omega
   have : cp z = [] := List.length_eq_zero_iff.mp (by rw [cp_len]; exact hz)
   rw [this]; simp
 ·rw [if_neg h]
  show (List.filterMap _ _).toArray.toList = _
  rw [List.toList_toArray]
  have e3 : (fun (x : Nat) => z.cps[x]?) = fun (i : Nat) => (cp z)[i]? := by funext i; unfold cp; simp
  rw [e3, hp]
  by_cases hk : k ≤ z.length
  ·rw [Nat.min_eq_left hk]
   exact List.take_of_length_le (by rw [List.length_drop, cp_len]; omega)
  ·rw [Nat.min_eq_right (by omega), List.drop_of_length_le (by rw [cp_len]; omega), List.drop_of_length_le (by rw [cp_len]; omega)]
   simp
theorem slice_hi (z : Str) (k : Nat) : cp (Txt.slice z none (some (k : Int))) = (cp z).take k := by
 have hi : Builtin.Str.strSliceIndices none (some (k : Int)) 1 z.length = (List.range (min k z.length)).map fun (i : Nat) => 0 + i := by
  unfold Builtin.Str.strSliceIndices sliceRange
  simp only [show (1 : Int) > 0 by decide, if_true]
  have c0 : ¬ ((k : Int) < 0) := by omega
  simp only [c0, if_false]
  have e1 : max (0 : Int) (min (k : Int) (z.length : Int)) = ((min k z.length : Nat) : Int) := by omega
  rw [e1]
  by_cases h : 0 < min k z.length
  ·rw [if_pos (by omega)]
   have e2 : ((((min k z.length : Nat) : Int) - 0 + 1 - 1) / 1).toNat = min k z.length := by rw [Int.ediv_one]; omega
   rw [e2]
   apply List.map_congr_left
   intro i _
   omega
  ·rw [if_neg (by omega)]
   have : min k z.length = 0 := by omega
   rw [this]; rfl
 have hp := pick_range (cp z) 0 (min k z.length)
 unfold Txt.slice
 rw [hi]
 by_cases h : ((1 : Int) == 1 && ((List.range (min k z.length)).map fun (i : Nat) => 0 + i).length == z.length) = true
 ·rw [if_pos h]
  simp only [Bool.and_eq_true, beq_iff_eq, List.length_map, List.length_range] at h
  have h2 := h.2
  rw [List.take_of_length_le (by rw [cp_len]; omega)]
 ·rw [if_neg h]
  show (List.filterMap _ _).toArray.toList = _
  rw [List.toList_toArray]
  have e3 : (fun (x : Nat) => z.cps[x]?) = fun (i : Nat) => (cp z)[i]? := by funext i; unfold cp; simp
  rw [e3, hp, List.drop_zero]
  by_cases hk : k ≤ z.length
  ·rw [Nat.min_eq_left hk]
  ·rw [Nat.min_eq_right (by omega), List.take_of_length_le (by rw [cp_len]; exact Nat.le_refl _), List.take_of_length_le (by rw [cp_len]; omega)]
def smallC (c : Nat) : Prop := 97 ≤ c ∧ c ≤ 122
def greatC (c : Nat) : Prop := 65 ≤ c ∧ c ≤ 90
theorem small_in {c : Nat} (h : smallC c) : inStr ⟨#[c]⟩ "abcdefghijklmnopqrstuvwxyz" = true := by
 have all : (List.range 26).all (fun k => inStr ⟨#[97 + k]⟩ "abcdefghijklmnopqrstuvwxyz") = true := by decide +kernel
 have := List.all_eq_true.mp all (c - 97) (List.mem_range.mpr (by have := h.1; have := h.2; omega))
 rwa [show 97 + (c - 97) = c from by have := h.1; omega] at this
theorem great_in {c : Nat} (h : greatC c) : inStr ⟨#[c]⟩ "ABCDEFGHIJKLMNOPQRSTUVWXYZ" = true := by
 have all : (List.range 26).all (fun k => inStr ⟨#[65 + k]⟩ "ABCDEFGHIJKLMNOPQRSTUVWXYZ") = true := by decide +kernel
 have := List.all_eq_true.mp all (c - 65) (List.mem_range.mpr (by have := h.1; have := h.2; omega))
 rwa [show 65 + (c - 65) = c from by have := h.1; omega] at this
theorem great_not {c : Nat} (h : smallC c) : inStr ⟨#[c]⟩ "ABCDEFGHIJKLMNOPQRSTUVWXYZ" = false := by
 have all : (List.range 26).all (fun k => !inStr ⟨#[97 + k]⟩ "ABCDEFGHIJKLMNOPQRSTUVWXYZ") = true := by decide +kernel
 have := List.all_eq_true.mp all (c - 97) (List.mem_range.mpr (by have := h.1; have := h.2; omega))
 rw [show 97 + (c - 97) = c from by have := h.1; omega] at this
 simpa using this
end DL
namespace DL.My
open PySem L2
def top (i : Nat) : Stmt := PySem.Challenge.pw_whyfacts_k08_matching.main.body.getD i (.Pass ⟨0, 0, 0, 0⟩)
def c_MOST_SIGNS : W := .int 8
def c_SMALL_LETTERS : W := .str "abcdefghijklmnopqrstuvwxyz"
def c_GREAT_LETTERS : W := .str "ABCDEFGHIJKLMNOPQRSTUVWXYZ"
def gl0 : List (Str × GV) := [("MOST_SIGNS", .con c_MOST_SIGNS), ("SMALL_LETTERS", .con c_SMALL_LETTERS), ("GREAT_LETTERS", .con c_GREAT_LETTERS), ("all", .blt), ("dict", .blt), ("isinstance", .blt), ("len", .blt), ("list", .blt), ("range", .blt), ("str", .blt), ("tuple", .blt), ("zip", .blt)]
abbrev s_is_short_text : Stmt := top 4
def N_is_short_text : List Str := ["thing"]
def P_is_short_text : List Str := ["thing"]
def M_is_short_text : List (Nat × Nat) := []
noncomputable def r_is_short_text : RunS :=
 (sSeq (sRet (runAnd (runN (runsCons (rVar 0) (runsCons (rCon (.ty "str")) runsNil)) opIsi) (runC (rCon (W.int 1)) (runN (runsCons (rVar 0) runsNil) opLen) (rCon c_MOST_SIGNS) opLe opLe)))
 sPass)
noncomputable def op_is_short_text : OpN := callOp 1 1 0 r_is_short_text
abbrev s_all_small : Stmt := top 5
def N_all_small : List Str := ["text"]
def P_all_small : List Str := ["text"]
def M_all_small : List (Nat × Nat) := []
noncomputable def r_all_small : RunS :=
 (sSeq (sRet (runN (runsCons (runComp false (runSrc (rVar 0)) [] (rCon (.bl true)) (run2 (rVar 0) (rCon c_SMALL_LETTERS) opIn)) runsNil) opAll))
 sPass)
noncomputable def op_all_small : OpN := callOp 1 1 0 r_all_small
abbrev s_filled : Stmt := top 9
def N_filled : List Str := ["pattern", "fill"]
def P_filled : List Str := ["pattern", "fill"]
def M_filled : List (Nat × Nat) := []
noncomputable def r_filled : RunS :=
 (sSeq (sRet (run2 (runN (runsCons (run2 (rVar 0) (rCon (W.int 0)) opIdx) runsNil) opTup) (runN (runsCons (runComp false (runSrc (runSlSN false (rVar 0) (rCon (W.int 1)))) [1] (rCon (.bl true)) (runM "dict" (rVar 1) (runsCons (rVar 0) (runsCons (rVar 0) runsNil)) opGet)) runsNil) opTuple) opAdd))
 sPass)
noncomputable def op_filled : OpN := callOp 2 2 0 r_filled
abbrev s_l_of : Stmt := top 11
def N_l_of : List Str := ["_law_script", "_law_k"]
def P_l_of : List Str := ["_law_script", "_law_k"]
def M_l_of : List (Nat × Nat) := []
noncomputable def r_l_of : RunS :=
 (sSeq (sRet (run2 (run2 (runSlSS false (rVar 0) (rVar 1) (run2 (rVar 1) (rCon (W.int 1)) opAdd)) (runN (runsCons (rCon (W.int 0)) runsNil) (opL false)) opAdd) (rCon (W.int 0)) opIdx))
 sPass)
noncomputable def op_l_of : OpN := callOp 2 2 0 r_l_of
abbrev s_l_names : Stmt := top 12
def N_l_names : List Str := ["_law_cell", "_law_many", "_law_some", "_law_names_here", "_law_k", "_law_more", "_law_word", "_law_at"]
def P_l_names : List Str := ["_law_cell", "_law_many"]
def M_l_names : List (Nat × Nat) := [(28, 22)]
noncomputable def r_l_names : RunS :=
 (sSeq (sSet 2 (rCon (W.str "abcdefghijklmnopqrstuvwxy")))
 (sSeq (sSet 3 (runN runsNil (opL true)))
 (sSeq (sFor 4 (runRng1 (rVar 1)) (sSeq (sSet 5 (run2 (run2 (rVar 0) (rCon (W.int 2)) opDiv) (run2 (run2 (rVar 4) (rCon (W.int 48271)) opMul) (run2 (rVar 0) (rCon (W.int 2)) opMod) opMul) opAdd))
 (sSeq (sSet 6 (runM "str" (rCon (W.str "")) (runsCons (runComp false (runRng1 (run2 (rVar 5) (rCon (W.int 7)) opMod)) [5, 2] (rCon (.bl true)) (run2 (rVar 2) (run2 (run2 (run2 (rVar 1) (rCon (W.int 7)) opDiv) (run2 (rCon (W.int 6)) (rVar 0) opMul) opAdd) (rCon (W.int 25)) opMod) opIdx)) runsNil) opJoin))
 (sSeq (sSet 7 (run2 (run2 (rVar 5) (rCon (W.int 175)) opDiv) (run2 (runN (runsCons (rVar 6) runsNil) opLen) (rCon (W.int 1)) opAdd) opMod))
 (sSeq (sDrop (runM "list" (rVar 3) (runsCons (run2 (run2 (run2 (runSlNS false (rVar 6) (rVar 7)) (rCon (W.str "z")) opAdd) (run2 (rVar 2) (rVar 4) opIdx) opAdd) (runSlSN false (rVar 6) (rVar 7)) opAdd) runsNil) opAppend))
 sPass)))))
 (sSeq (sFor 4 (runRng3 (runsCons (rCon (W.int 0)) (runsCons (run2 (rVar 1) (rCon (W.int 1)) opSub) (runsCons (rCon (W.int 3)) runsNil)))) (sSeq (sIf (runAnd (run2 (run2 (rVar 0) (rCon (W.int 5)) opMod) (rCon (W.int 3)) opEq) (run2 (run1 (run2 (rVar 3) (rVar 4) opIdx) (opRevA false none)) (rVar 3) opNotIn))
  (sSeq (sSetIx (rVar 3) (run2 (rVar 4) (rCon (W.int 1)) opAdd) (run1 (run2 (rVar 3) (rVar 4) opIdx) (opRevA false none)))
 sPass)
  sPass)
 sPass))
 (sSeq (sRet (rVar 3))
 sPass)))))
noncomputable def op_l_names : OpN := callOp 2 8 1 r_l_names
abbrev s_l_frees : Stmt := top 13
def N_l_frees : List Str := ["_law_cell", "_law_many", "_law_some", "_law_tail", "_law_at", "_law_firsts", "_law_free", "_law_turned"]
def P_l_frees : List Str := ["_law_cell", "_law_many"]
def M_l_frees : List (Nat × Nat) := [(43, 16)]
noncomputable def r_l_frees : RunS :=
 (sSeq (sSet 2 (rCon (W.str "ABCDEFGHIJKLMNOPQRSTUVWXYZ")))
 (sSeq (sSet 3 (runM "str" (rCon (W.str "")) (runsCons (runComp false (runRng1 (run2 (rVar 0) (rCon (W.int 6)) opMod)) [0] (rCon (.bl true)) (run2 (rCon (W.str "abcdefghijklmnopqrstuvwxyz")) (run2 (run2 (run2 (rVar 1) (rCon (W.int 26)) opDiv) (run2 (rCon (W.int 5)) (rVar 0) opMul) opAdd) (rCon (W.int 26)) opMod) opIdx)) runsNil) opJoin))
 (sSeq (sSet 4 (run2 (run2 (rVar 0) (rCon (W.int 6)) opDiv) (run2 (runN (runsCons (rVar 3) runsNil) opLen) (rCon (W.int 1)) opAdd) opMod))
 (sSeq (sSet 5 (runComp false (runRng1 (rVar 1)) [0, 2] (rCon (.bl true)) (run2 (rVar 2) (run2 (run2 (rVar 1) (run2 (rVar 0) (run2 (run2 (rVar 1) (rCon (W.int 156)) opDiv) (rCon (W.int 2)) opMod) opMul) opAdd) (rCon (W.int 26)) opMod) opIdx)))
 (sSeq (sSet 6 (runComp true (runRng1 (rVar 1)) [4, 5, 3] (rCon (.bl true)) (run2 (run2 (run2 (run2 (rVar 2) (rVar 0) opIdx) (runSlNS false (rVar 3) (rVar 1)) opAdd) (run2 (rCon (W.str "qrstuv")) (rVar 0) opIdx) opAdd) (runSlSN false (rVar 3) (rVar 1)) opAdd)))
 (sSeq (sIf (run2 (run2 (rVar 0) (rCon (W.int 7)) opMod) (rCon (W.int 3)) opEq)
  (sSeq (sSetIx (rVar 6) (rCon (W.int 1)) (run2 (run2 (rVar 6) (rCon (W.int 0)) opIdx) (rCon (W.str "w")) opAdd))
 sPass)
  sPass)
 (sSeq (sSet 7 (run2 (runSlNS false (run2 (rVar 6) (rCon (W.int 0)) opIdx) (rCon (W.int 1))) (runRevH false (run2 (rVar 6) (rCon (W.int 0)) opIdx) (rCon (W.int 0))) opAdd))
 (sSeq (sIf (runAnd (run2 (run2 (rVar 0) (rCon (W.int 7)) opMod) (rCon (W.int 5)) opEq) (run2 (rVar 7) (rVar 6) opNotIn))
  (sSeq (sSetIx (rVar 6) (rCon (W.int 1)) (rVar 7))
 sPass)
  sPass)
 (sSeq (sRet (rVar 6))
 sPass)))))))))
noncomputable def op_l_frees : OpN := callOp 2 8 1 r_l_frees
abbrev s_l_value : Stmt := top 14
def N_l_value : List Str := ["_law_names_here", "_law_n"]
def P_l_value : List Str := ["_law_names_here", "_law_n"]
def M_l_value : List (Nat × Nat) := []
noncomputable def r_l_value : RunS :=
 (sSeq (sRet (run2 (runN (runsCons (rCon (W.int 0)) (runsCons (rCon (W.int 1)) (runsCons (rCon (W.int 2)) (runsCons (run1 (rCon (W.int 1)) opNeg) (runsCons (run2 (rVar 0) (rCon (W.int 0)) opIdx) (runsCons (run2 (rVar 0) (rCon (W.int 1)) opIdx) (runsCons (run2 (rVar 0) (rCon (W.int 2)) opIdx) (runsCons (rCon (W.int 999999999)) (runsCons (run1 (rCon (W.int 999999999)) opNeg) runsNil))))))))) (opL false)) (run2 (rVar 1) (rCon (W.int 9)) opMod) opIdx))
 sPass)
noncomputable def op_l_value : OpN := callOp 2 2 0 r_l_value
abbrev s_l_due : Stmt := top 18
def N_l_due : List Str := ["_law_free", "_law_pattern_here", "_law_fact_here", "_law_fill_here", "_law_due_here", "_law_k"]
def P_l_due : List Str := ["_law_free", "_law_pattern_here", "_law_fact_here", "_law_fill_here"]
def M_l_due : List (Nat × Nat) := [(78, 20)]
noncomputable def r_l_due : RunS :=
 (sSeq (sIf (runOr (run2 (run2 (rVar 1) (rCon (W.int 0)) opIdx) (run2 (rVar 2) (rCon (W.int 0)) opIdx) opNe) (run2 (runN (runsCons (rVar 1) runsNil) opLen) (runN (runsCons (rVar 2) runsNil) opLen) opNe))
  (sSeq (sRet (rCon W.non))
 sPass)
  sPass)
 (sSeq (sSet 4 (runN (runsCons (rVar 3) runsNil) (opDictC true)))
 (sSeq (sFor 5 (runRng2 (rCon (W.int 1)) (runN (runsCons (rVar 1) runsNil) opLen)) (sSeq (sIf (run2 (run2 (rVar 1) (rVar 5) opIdx) (rVar 0) opIn)
  (sSeq (sIf (run2 (runM "dict" (rVar 4) (runsCons (run2 (rVar 1) (rVar 5) opIdx) (runsCons (run2 (rVar 2) (rVar 5) opIdx) runsNil)) opSetd) (run2 (rVar 2) (rVar 5) opIdx) opNe)
  (sSeq (sRet (rCon W.non))
 sPass)
  sPass)
 sPass)
  (sSeq (sIf (run2 (run2 (rVar 1) (rVar 5) opIdx) (run2 (rVar 2) (rVar 5) opIdx) opNe)
  (sSeq (sRet (rCon W.non))
 sPass)
  sPass)
 sPass))
 sPass))
 (sSeq (sRet (rVar 4))
 sPass))))
noncomputable def op_l_due : OpN := callOp 4 6 1 r_l_due
noncomputable def gl1 : List (Str × GV) := ("_law_due", .fn 4 op_l_due) :: ("_law_value", .fn 2 op_l_value) :: ("_law_frees", .fn 2 op_l_frees) :: ("_law_names", .fn 2 op_l_names) :: ("_law_of", .fn 2 op_l_of) :: ("filled", .fn 2 op_filled) :: ("all_small", .fn 1 op_all_small) :: ("is_short_text", .fn 1 op_is_short_text) :: gl0
abbrev s_is_free : Stmt := top 6
def N_is_free : List Str := ["thing"]
def P_is_free : List Str := ["thing"]
def M_is_free : List (Nat × Nat) := []
noncomputable def r_is_free : RunS :=
 (sSeq (sRet (runAnd (runN (runsCons (rVar 0) runsNil) (calmOp op_is_short_text)) (runAnd (run2 (run2 (rVar 0) (rCon (W.int 0)) opIdx) (rCon c_GREAT_LETTERS) opIn) (runN (runsCons (runSlSN false (rVar 0) (rCon (W.int 1))) runsNil) (calmOp op_all_small)))))
 sPass)
noncomputable def op_is_free : OpN := callOp 1 1 0 r_is_free
abbrev s_l_pattern : Stmt := top 15
def N_l_pattern : List Str := ["_law_names_here", "_law_free", "_law_n", "_law_terms", "_law_k", "_law_more"]
def P_l_pattern : List Str := ["_law_names_here", "_law_free", "_law_n"]
def M_l_pattern : List (Nat × Nat) := [(53, 17)]
noncomputable def r_l_pattern : RunS :=
 (sSeq (sSet 3 (runN runsNil (opL true)))
 (sSeq (sFor 4 (runRng1 (run2 (rVar 2) (rCon (W.int 5)) opMod)) (sSeq (sSet 5 (run2 (run2 (run2 (rVar 2) (run2 (rCon (W.int 5)) (run2 (rCon (W.int 37)) (rVar 4) opMul) opAdd) opDiv) (rCon (W.int 48271)) opMul) (rCon (W.int 1000003)) opMod))
 (sSeq (sDrop (runM "list" (rVar 3) (runsCons (run2 (runN (runsCons (run2 (rVar 1) (run2 (run2 (rVar 5) (rCon (W.int 2)) opDiv) (rCon (W.int 3)) opMod) opIdx) (runsCons (runN (runsCons (rVar 0) (runsCons (run2 (rVar 5) (rCon (W.int 2)) opDiv) runsNil)) (calmOp op_l_value)) runsNil)) (opL false)) (run2 (rVar 5) (rCon (W.int 2)) opMod) opIdx) runsNil) opAppend))
 sPass)))
 (sSeq (sRet (runN (runsCons (run2 (runN (runsCons (run2 (rVar 0) (run2 (rCon (W.int 3)) (run2 (run2 (rVar 2) (rCon (W.int 5)) opDiv) (rCon (W.int 2)) opMod) opAdd) opIdx) runsNil) (opL false)) (rVar 3) opAdd) runsNil) opTuple))
 sPass)))
noncomputable def op_l_pattern : OpN := callOp 3 6 1 r_l_pattern
abbrev s_l_fill : Stmt := top 16
def N_l_fill : List Str := ["_law_names_here", "_law_free", "_law_n", "_law_fill_here", "_law_k"]
def P_l_fill : List Str := ["_law_names_here", "_law_free", "_law_n"]
def M_l_fill : List (Nat × Nat) := [(59, 21)]
noncomputable def r_l_fill : RunS :=
 (sSeq (sSet 3 rDictN)
 (sSeq (sFor 4 (runRng1 (rCon (W.int 4))) (sSeq (sIf (run2 (run2 (run2 (rVar 2) (run2 (runN (runsCons (rCon (W.int 1)) (runsCons (rCon (W.int 2)) (runsCons (rCon (W.int 4)) (runsCons (rCon (W.int 8)) runsNil)))) (opL false)) (rVar 4) opIdx) opDiv) (rCon (W.int 2)) opMod) (rCon (W.int 1)) opEq)
  (sSeq (sSetIx (rVar 3) (run2 (rVar 1) (rVar 4) opIdx) (runN (runsCons (rVar 0) (runsCons (run2 (run2 (rVar 2) (rCon (W.int 16)) opDiv) (run2 (rCon (W.int 5)) (rVar 4) opMul) opAdd) runsNil)) (calmOp op_l_value)))
 sPass)
  sPass)
 sPass))
 (sSeq (sRet (rVar 3))
 sPass)))
noncomputable def op_l_fill : OpN := callOp 3 5 1 r_l_fill
abbrev s_l_fact : Stmt := top 17
def N_l_fact : List Str := ["_law_names_here", "_law_free", "_law_n", "_law_pattern_here", "_law_fill_here", "_law_terms", "_law_fact_here", "_law_k"]
def P_l_fact : List Str := ["_law_names_here", "_law_free", "_law_n", "_law_pattern_here", "_law_fill_here"]
def M_l_fact : List (Nat × Nat) := [(68, 21)]
noncomputable def r_l_fact : RunS :=
 (sSeq (sIf (run2 (run2 (rVar 2) (rCon (W.int 2)) opMod) (rCon (W.int 1)) opEq)
  (sSeq (sSet 5 (runComp false (runRng1 (run2 (run2 (rVar 2) (rCon (W.int 2)) opDiv) (rCon (W.int 5)) opMod)) [2, 0] (rCon (.bl true)) (runN (runsCons (rVar 2) (runsCons (run2 (run2 (rVar 1) (rCon (W.int 4)) opDiv) (run2 (run2 (rCon (W.int 7)) (rVar 0) opMul) (rVar 0) opMul) opAdd) runsNil)) (calmOp op_l_value))))
 (sSeq (sRet (runN (runsCons (run2 (runN (runsCons (run2 (rVar 0) (run2 (rCon (W.int 3)) (run2 (run2 (rVar 2) (rCon (W.int 10)) opDiv) (rCon (W.int 2)) opMod) opAdd) opIdx) runsNil) (opL false)) (rVar 5) opAdd) runsNil) opTuple))
 sPass))
  sPass)
 (sSeq (sSet 6 (runN (runsCons (rVar 3) runsNil) (opList true)))
 (sSeq (sFor 7 (runRng2 (rCon (W.int 1)) (runN (runsCons (rVar 6) runsNil) opLen)) (sSeq (sIf (run2 (run2 (rVar 6) (rVar 7) opIdx) (rVar 1) opIn)
  (sSeq (sSetIx (rVar 6) (rVar 7) (runM "dict" (rVar 4) (runsCons (run2 (rVar 6) (rVar 7) opIdx) (runsCons (runN (runsCons (rVar 0) (runsCons (run2 (run2 (rVar 2) (rCon (W.int 2)) opDiv) (runM "list" (rVar 1) (runsCons (run2 (rVar 6) (rVar 7) opIdx) runsNil) opIndex) opAdd) runsNil)) (calmOp op_l_value)) runsNil)) opGet))
 sPass)
  sPass)
 sPass))
 (sSeq (sIf (runAnd (run2 (run2 (run2 (rVar 2) (rCon (W.int 2)) opDiv) (rCon (W.int 3)) opMod) (rCon (W.int 1)) opEq) (run2 (runN (runsCons (rVar 6) runsNil) opLen) (rCon (W.int 1)) opGt))
  (sSeq (sSetIx (rVar 6) (run2 (rCon (W.int 1)) (run2 (run2 (rVar 2) (rCon (W.int 6)) opDiv) (run2 (runN (runsCons (rVar 6) runsNil) opLen) (rCon (W.int 1)) opSub) opMod) opAdd) (runN (runsCons (rVar 0) (runsCons (run2 (rVar 2) (rCon (W.int 31)) opDiv) runsNil)) (calmOp op_l_value)))
 sPass)
  sPass)
 (sSeq (sRet (runN (runsCons (rVar 6) runsNil) opTuple))
 sPass)))))
noncomputable def op_l_fact : OpN := callOp 5 8 1 r_l_fact
noncomputable def gl2 : List (Str × GV) := ("_law_fact", .fn 5 op_l_fact) :: ("_law_fill", .fn 3 op_l_fill) :: ("_law_pattern", .fn 3 op_l_pattern) :: ("is_free", .fn 1 op_is_free) :: gl1
abbrev s_matched : Stmt := top 8
def N_matched : List Str := ["pattern", "fact", "fill", "found", "term", "value", "wanted"]
def P_matched : List Str := ["pattern", "fact", "fill"]
def M_matched : List (Nat × Nat) := [(15, 12)]
noncomputable def r_matched : RunS :=
 (sSeq (sIf (runOr (run2 (run2 (rVar 0) (rCon (W.int 0)) opIdx) (run2 (rVar 1) (rCon (W.int 0)) opIdx) opNe) (run2 (runN (runsCons (rVar 0) runsNil) opLen) (runN (runsCons (rVar 1) runsNil) opLen) opNe))
  (sSeq (sRet (rCon W.non))
 sPass)
  sPass)
 (sSeq (sSet 3 (runN (runsCons (rVar 2) runsNil) (opDictC true)))
 (sSeq (sForZ 4 5 (runsCons (runSlSN false (rVar 0) (rCon (W.int 1))) (runsCons (runSlSN false (rVar 1) (rCon (W.int 1))) runsNil)) (sSeq (sSet 6 (runIf (runN (runsCons (rVar 4) runsNil) (calmOp op_is_free)) (runM "dict" (rVar 3) (runsCons (rVar 4) (runsCons (rVar 5) runsNil)) opSetd) (rVar 4)))
 (sSeq (sIf (run2 (rVar 6) (rVar 5) opNe)
  (sSeq (sRet (rCon W.non))
 sPass)
  sPass)
 sPass)))
 (sSeq (sRet (rVar 3))
 sPass))))
noncomputable def op_matched : OpN := callOp 3 7 2 r_matched
noncomputable def gl3 : List (Str × GV) := ("matched", .fn 3 op_matched) :: gl2
abbrev s_law : Stmt := top 19
def N_law : List Str := ["_law_script", "_law_names_here", "_law_free", "_law_pattern_here", "_law_fill_here", "_law_fact_here", "_law_handed", "_law_due_here", "_law_found", "_law_given", "_law_whole"]
def P_law : List Str := ["_law_script"]
def M_law : List (Nat × Nat) := []
noncomputable def r_law : RunS :=
 (sSeq (sSet 1 (runN (runsCons (runN (runsCons (rVar 0) (runsCons (rCon (W.int 4)) runsNil)) (calmOp op_l_of)) (runsCons (rCon (W.int 5)) runsNil)) (calmOp op_l_names)))
 (sSeq (sSet 2 (runN (runsCons (runN (runsCons (rVar 0) (runsCons (rCon (W.int 5)) runsNil)) (calmOp op_l_of)) (runsCons (rCon (W.int 4)) runsNil)) (calmOp op_l_frees)))
 (sSeq (sSet 3 (runN (runsCons (rVar 1) (runsCons (rVar 2) (runsCons (runN (runsCons (rVar 0) (runsCons (rCon (W.int 0)) runsNil)) (calmOp op_l_of)) runsNil))) (calmOp op_l_pattern)))
 (sSeq (sSet 4 (runN (runsCons (rVar 1) (runsCons (rVar 2) (runsCons (runN (runsCons (rVar 0) (runsCons (rCon (W.int 1)) runsNil)) (calmOp op_l_of)) runsNil))) (calmOp op_l_fill)))
 (sSeq (sSet 5 (runN (runsCons (rVar 1) (runsCons (rVar 2) (runsCons (runN (runsCons (rVar 0) (runsCons (rCon (W.int 3)) runsNil)) (calmOp op_l_of)) (runsCons (rVar 3) (runsCons (rVar 4) runsNil))))) (calmOp op_l_fact)))
 (sSeq (sSet 6 (runN (runsCons (rVar 4) runsNil) (opDictC false)))
 (sSeq (sSet 7 (runN (runsCons (rVar 2) (runsCons (rVar 3) (runsCons (rVar 5) (runsCons (rVar 4) runsNil)))) (calmOp op_l_due)))
 (sSeq (sSet 8 (runN (runsCons (rVar 3) (runsCons (rVar 5) (runsCons (rVar 6) runsNil))) (calmOp op_matched)))
 (sSeq (sIf (run2 (rVar 6) (rVar 4) opNe)
  (sSeq (sRet (rCon (W.bl false)))
 sPass)
  sPass)
 (sSeq (sIf (run2 (rVar 7) (rCon W.non) opIs)
  (sSeq (sRet (run2 (rVar 8) (rCon W.non) opIs))
 sPass)
  sPass)
 (sSeq (sIf (runOr (runNot (runN (runsCons (rVar 8) (runsCons (rCon (.ty "dict")) runsNil)) opIsi)) (run2 (rVar 8) (rVar 7) opNe))
  (sSeq (sRet (rCon (W.bl false)))
 sPass)
  sPass)
 (sSeq (sSet 9 (runN (runsCons (rVar 8) runsNil) (opDictC false)))
 (sSeq (sSet 10 (runN (runsCons (rVar 3) (runsCons (rVar 9) runsNil)) (calmOp op_filled)))
 (sSeq (sIf (runOr (runNot (runN (runsCons (rVar 10) (runsCons (rCon (.ty "tuple")) runsNil)) opIsi)) (runOr (run2 (rVar 10) (rVar 5) opNe) (run2 (rVar 9) (rVar 7) opNe)))
  (sSeq (sRet (rCon (W.bl false)))
 sPass)
  sPass)
 (sSeq (sSetIx (rVar 8) (rCon (W.str "Z")) (rCon (W.int 0)))
 (sSeq (sRet (runAnd (run2 (rVar 6) (rVar 4) opEq) (run2 (runN (runsCons (rVar 3) (runsCons (rVar 5) (runsCons (rVar 6) runsNil))) (calmOp op_matched)) (rVar 7) opEq)))
 sPass))))))))))))))))
noncomputable def op_law : OpN := callOp 1 11 0 r_law
end DL.My
namespace DL.My
open PySem L2
theorem sc_is_short_text : scopeOk N_is_short_text P_is_short_text (defScope s_is_short_text) = true := by decide +kernel
theorem de_is_short_text : denSs 60 ⟨N_is_short_text, defScope s_is_short_text, gl0, M_is_short_text, true, false⟩ (defBody s_is_short_text) = some r_is_short_text := by kernel_rfl
theorem sc_all_small : scopeOk N_all_small P_all_small (defScope s_all_small) = true := by decide +kernel
theorem de_all_small : denSs 60 ⟨N_all_small, defScope s_all_small, gl0, M_all_small, true, false⟩ (defBody s_all_small) = some r_all_small := by kernel_rfl
theorem sc_is_free : scopeOk N_is_free P_is_free (defScope s_is_free) = true := by decide +kernel
theorem de_is_free : denSs 60 ⟨N_is_free, defScope s_is_free, gl1, M_is_free, true, false⟩ (defBody s_is_free) = some r_is_free := by kernel_rfl
theorem sc_matched : scopeOk N_matched P_matched (defScope s_matched) = true := by decide +kernel
theorem de_matched : denSs 60 ⟨N_matched, defScope s_matched, gl2, M_matched, true, false⟩ (defBody s_matched) = some r_matched := by kernel_rfl
theorem sc_filled : scopeOk N_filled P_filled (defScope s_filled) = true := by decide +kernel
theorem de_filled : denSs 60 ⟨N_filled, defScope s_filled, gl0, M_filled, true, false⟩ (defBody s_filled) = some r_filled := by kernel_rfl
theorem sc_l_of : scopeOk N_l_of P_l_of (defScope s_l_of) = true := by decide +kernel
theorem de_l_of : denSs 60 ⟨N_l_of, defScope s_l_of, gl0, M_l_of, true, false⟩ (defBody s_l_of) = some r_l_of := by kernel_rfl
theorem sc_l_names : scopeOk N_l_names P_l_names (defScope s_l_names) = true := by decide +kernel
theorem de_l_names : denSs 60 ⟨N_l_names, defScope s_l_names, gl0, M_l_names, true, false⟩ (defBody s_l_names) = some r_l_names := by kernel_rfl
theorem sc_l_frees : scopeOk N_l_frees P_l_frees (defScope s_l_frees) = true := by decide +kernel
theorem de_l_frees : denSs 60 ⟨N_l_frees, defScope s_l_frees, gl0, M_l_frees, true, false⟩ (defBody s_l_frees) = some r_l_frees := by kernel_rfl
theorem sc_l_value : scopeOk N_l_value P_l_value (defScope s_l_value) = true := by decide +kernel
theorem de_l_value : denSs 60 ⟨N_l_value, defScope s_l_value, gl0, M_l_value, true, false⟩ (defBody s_l_value) = some r_l_value := by kernel_rfl
theorem sc_l_pattern : scopeOk N_l_pattern P_l_pattern (defScope s_l_pattern) = true := by decide +kernel
theorem de_l_pattern : denSs 60 ⟨N_l_pattern, defScope s_l_pattern, gl1, M_l_pattern, true, false⟩ (defBody s_l_pattern) = some r_l_pattern := by kernel_rfl
theorem sc_l_fill : scopeOk N_l_fill P_l_fill (defScope s_l_fill) = true := by decide +kernel
theorem de_l_fill : denSs 60 ⟨N_l_fill, defScope s_l_fill, gl1, M_l_fill, true, false⟩ (defBody s_l_fill) = some r_l_fill := by kernel_rfl
theorem sc_l_fact : scopeOk N_l_fact P_l_fact (defScope s_l_fact) = true := by decide +kernel
theorem de_l_fact : denSs 60 ⟨N_l_fact, defScope s_l_fact, gl1, M_l_fact, true, false⟩ (defBody s_l_fact) = some r_l_fact := by kernel_rfl
theorem sc_l_due : scopeOk N_l_due P_l_due (defScope s_l_due) = true := by decide +kernel
theorem de_l_due : denSs 60 ⟨N_l_due, defScope s_l_due, gl0, M_l_due, true, false⟩ (defBody s_l_due) = some r_l_due := by kernel_rfl
theorem sc_law : scopeOk N_law P_law (defScope s_law) = true := by decide +kernel
theorem de_law : denSs 60 ⟨N_law, defScope s_law, gl3, M_law, true, false⟩ (defBody s_law) = some r_law := by kernel_rfl
end DL.My
namespace DL.My
open PySem L2
structure Tx (P : Program) (w : World) (K : PySem.W.Frag) (mg : Str → Option Value) : Prop where
 k_MOST_SIGNS : ∃ u, mg "MOST_SIGNS" = some u ∧ ConK K u c_MOST_SIGNS
 k_SMALL_LETTERS : ∃ u, mg "SMALL_LETTERS" = some u ∧ ConK K u c_SMALL_LETTERS
 k_GREAT_LETTERS : ∃ u, mg "GREAT_LETTERS" = some u ∧ ConK K u c_GREAT_LETTERS
 b_all : mg "all" = none
 b_dict : mg "dict" = none
 b_isinstance : mg "isinstance" = none
 b_len : mg "len" = none
 b_list : mg "list" = none
 b_range : mg "range" = none
 b_str : mg "str" = none
 b_tuple : mg "tuple" = none
 b_zip : mg "zip" = none
 d_is_short_text : DefAt K mg "is_short_text" s_is_short_text P_is_short_text
 d_all_small : DefAt K mg "all_small" s_all_small P_all_small
 d_is_free : DefAt K mg "is_free" s_is_free P_is_free
 d_matched : DefAt K mg "matched" s_matched P_matched
 d_filled : DefAt K mg "filled" s_filled P_filled
 d_l_of : DefAt K mg "_law_of" s_l_of P_l_of
 d_l_names : DefAt K mg "_law_names" s_l_names P_l_names
 d_l_frees : DefAt K mg "_law_frees" s_l_frees P_l_frees
 d_l_value : DefAt K mg "_law_value" s_l_value P_l_value
 d_l_pattern : DefAt K mg "_law_pattern" s_l_pattern P_l_pattern
 d_l_fill : DefAt K mg "_law_fill" s_l_fill P_l_fill
 d_l_fact : DefAt K mg "_law_fact" s_l_fact P_l_fact
 d_l_due : DefAt K mg "_law_due" s_l_due P_l_due
 d_law : DefAt K mg "law" s_law P_law
section
variable {P : Program} {w : World} {K : PySem.W.Frag} {mg : Str → Option Value} {base : Heap}
theorem tx0 (t : Tx P w K mg) : TX P w K mg base gl0 0 := by
 obtain ⟨u_MOST_SIGNS, m_MOST_SIGNS, h_MOST_SIGNS⟩ := t.k_MOST_SIGNS
 obtain ⟨u_SMALL_LETTERS, m_SMALL_LETTERS, h_SMALL_LETTERS⟩ := t.k_SMALL_LETTERS
 obtain ⟨u_GREAT_LETTERS, m_GREAT_LETTERS, h_GREAT_LETTERS⟩ := t.k_GREAT_LETTERS
 exact (TX.con1 (TX.con1 (TX.con1 (TX.blt1 (TX.blt1 (TX.blt1 (TX.blt1 (TX.blt1 (TX.blt1 (TX.blt1 (TX.blt1 (TX.blt1 TX.nil t.b_zip) t.b_tuple) t.b_str) t.b_range) t.b_list) t.b_len) t.b_isinstance) t.b_dict) t.b_all) m_GREAT_LETTERS h_GREAT_LETTERS) m_SMALL_LETTERS h_SMALL_LETTERS) m_MOST_SIGNS h_MOST_SIGNS)
theorem tx1 (t : Tx P w K mg) : TX P w K mg base gl1 3 := by
 have T : TX P w K mg base gl0 0 := tx0 t
 exact (TX.cons (TX.cons (TX.cons (TX.cons (TX.cons (TX.cons (TX.cons (TX.cons (T.mono (by decide)) (TX.fnOf (fz := 0) T t.d_is_short_text sc_is_short_text de_is_short_text)) (TX.fnOf (fz := 0) T t.d_all_small sc_all_small de_all_small)) (TX.fnOf (fz := 0) T t.d_filled sc_filled de_filled)) (TX.fnOf (fz := 0) T t.d_l_of sc_l_of de_l_of)) (TX.fnOf (fz := 1) T t.d_l_names sc_l_names de_l_names)) (TX.fnOf (fz := 1) T t.d_l_frees sc_l_frees de_l_frees)) (TX.fnOf (fz := 0) T t.d_l_value sc_l_value de_l_value)) (TX.fnOf (fz := 1) T t.d_l_due sc_l_due de_l_due))
theorem tx2 (t : Tx P w K mg) : TX P w K mg base gl2 6 := by
 have T : TX P w K mg base gl1 3 := tx1 t
 exact (TX.cons (TX.cons (TX.cons (TX.cons (T.mono (by decide)) (TX.fnOf (fz := 0) T t.d_is_free sc_is_free de_is_free)) (TX.fnOf (fz := 1) T t.d_l_pattern sc_l_pattern de_l_pattern)) (TX.fnOf (fz := 1) T t.d_l_fill sc_l_fill de_l_fill)) (TX.fnOf (fz := 1) T t.d_l_fact sc_l_fact de_l_fact))
theorem tx3 (t : Tx P w K mg) : TX P w K mg base gl3 9 := by
 have T : TX P w K mg base gl2 6 := tx2 t
 exact (TX.cons (T.mono (by decide)) (TX.fnOf (fz := 2) T t.d_matched sc_matched de_matched))
theorem law_ok (t : Tx P w K mg) {f : Addr} {fd : FuncData} (F : Fun K "law" "law" s_law f fd) : FnOk P w K mg base CX0 12 f fd P_law (SpD K 1 op_law) :=
 def_ok (fz := 0) (tx3 t : TX P w K mg base gl3 9) F sc_law de_law
end
theorem all_mk {l : PySem.W.OpenLaw} {w : World} {K : PySem.W.Frag} {h : Heap} {mg : Str → Option Value} {fa : Addr} (X : K.In h) (G : h.Ns mainGlobals mg) (hfa : mg "law" = some (.ref fa))
  {t_MOST_SIGNS : Tok} {t_SMALL_LETTERS : Tok} {t_GREAT_LETTERS : Tok}
  (k1_MOST_SIGNS : PySem.W.nsIn K mainGlobals "MOST_SIGNS" = some (some (Value.int 8 t_MOST_SIGNS)))
  (k1_SMALL_LETTERS : PySem.W.nsIn K mainGlobals "SMALL_LETTERS" = some (some (Value.str "abcdefghijklmnopqrstuvwxyz" t_SMALL_LETTERS)))
  (k1_GREAT_LETTERS : PySem.W.nsIn K mainGlobals "GREAT_LETTERS" = some (some (Value.str "ABCDEFGHIJKLMNOPQRSTUVWXYZ" t_GREAT_LETTERS)))
  (b_all : PySem.W.nsIn K mainGlobals "all" = some none)
  (b_dict : PySem.W.nsIn K mainGlobals "dict" = some none)
  (b_isinstance : PySem.W.nsIn K mainGlobals "isinstance" = some none)
  (b_len : PySem.W.nsIn K mainGlobals "len" = some none)
  (b_list : PySem.W.nsIn K mainGlobals "list" = some none)
  (b_range : PySem.W.nsIn K mainGlobals "range" = some none)
  (b_str : PySem.W.nsIn K mainGlobals "str" = some none)
  (b_tuple : PySem.W.nsIn K mainGlobals "tuple" = some none)
  (b_zip : PySem.W.nsIn K mainGlobals "zip" = some none)
  (d_is_short_text : DIn K "is_short_text" s_is_short_text)
  (d_all_small : DIn K "all_small" s_all_small)
  (d_is_free : DIn K "is_free" s_is_free)
  (d_matched : DIn K "matched" s_matched)
  (d_filled : DIn K "filled" s_filled)
  (d_l_of : DIn K "_law_of" s_l_of)
  (d_l_names : DIn K "_law_names" s_l_names)
  (d_l_frees : DIn K "_law_frees" s_l_frees)
  (d_l_value : DIn K "_law_value" s_l_value)
  (d_l_pattern : DIn K "_law_pattern" s_l_pattern)
  (d_l_fill : DIn K "_law_fill" s_l_fill)
  (d_l_fact : DIn K "_law_fact" s_l_fact)
  (d_l_due : DIn K "_law_due" s_l_due)
  (d_law : DIn K "law" s_law)
  : ∃ fd : FuncData, (∀ (s : Shared) (v : Value), BindsTo s fd ⟨[v], []⟩ [("_law_script", v)]) ∧ ∀ base : Heap, K.In base → base.Ns mainGlobals mg → FnOk l.prog w K mg base CX0 12 fa fd ["_law_script"] (SpD K 1 op_law) := by
 have kk_MOST_SIGNS : ∃ u, mg "MOST_SIGNS" = some u ∧ ConK K u c_MOST_SIGNS := ⟨_, PySem.W.mg_of X G k1_MOST_SIGNS, .int _ _⟩
 have kk_SMALL_LETTERS : ∃ u, mg "SMALL_LETTERS" = some u ∧ ConK K u c_SMALL_LETTERS := ⟨_, PySem.W.mg_of X G k1_SMALL_LETTERS, .str _ _⟩
 have kk_GREAT_LETTERS : ∃ u, mg "GREAT_LETTERS" = some u ∧ ConK K u c_GREAT_LETTERS := ⟨_, PySem.W.mg_of X G k1_GREAT_LETTERS, .str _ _⟩
 have t : Tx l.prog w K mg := ⟨kk_MOST_SIGNS, kk_SMALL_LETTERS, kk_GREAT_LETTERS, PySem.W.mg_none_of X G b_all, PySem.W.mg_none_of X G b_dict, PySem.W.mg_none_of X G b_isinstance, PySem.W.mg_none_of X G b_len, PySem.W.mg_none_of X G b_list, PySem.W.mg_none_of X G b_range, PySem.W.mg_none_of X G b_str, PySem.W.mg_none_of X G b_tuple, PySem.W.mg_none_of X G b_zip, (d_is_short_text.at_ X G fun _ _ _ _ _ _ us hl => match us, hl with | [_], _ => rfl), (d_all_small.at_ X G fun _ _ _ _ _ _ us hl => match us, hl with | [_], _ => rfl), (d_is_free.at_ X G fun _ _ _ _ _ _ us hl => match us, hl with | [_], _ => rfl), (d_matched.at_ X G fun _ _ _ _ _ _ us hl => match us, hl with | [_, _, _], _ => rfl), (d_filled.at_ X G fun _ _ _ _ _ _ us hl => match us, hl with | [_, _], _ => rfl), (d_l_of.at_ X G fun _ _ _ _ _ _ us hl => match us, hl with | [_, _], _ => rfl), (d_l_names.at_ X G fun _ _ _ _ _ _ us hl => match us, hl with | [_, _], _ => rfl), (d_l_frees.at_ X G fun _ _ _ _ _ _ us hl => match us, hl with | [_, _], _ => rfl), (d_l_value.at_ X G fun _ _ _ _ _ _ us hl => match us, hl with | [_, _], _ => rfl), (d_l_pattern.at_ X G fun _ _ _ _ _ _ us hl => match us, hl with | [_, _, _], _ => rfl), (d_l_fill.at_ X G fun _ _ _ _ _ _ us hl => match us, hl with | [_, _, _], _ => rfl), (d_l_fact.at_ X G fun _ _ _ _ _ _ us hl => match us, hl with | [_, _, _, _, _], _ => rfl), (d_l_due.at_ X G fun _ _ _ _ _ _ us hl => match us, hl with | [_, _, _, _], _ => rfl), (d_law.at_ X G fun _ _ _ _ _ _ us hl => match us, hl with | [_], _ => rfl)⟩
 exact d_law.law X G hfa (fun _ _ _ _ _ _ s v => .of_eq rfl) fun fd F base _ _ => law_ok t F
end DL.My
namespace DL.My
open PySem L2
theorem ret_ok {r : Run} {Γ : Ga} {st : S} {w : W} (h : r Γ st = .ok w st) : sSeq (sRet r) sPass Γ st = .ok (.rt w) st := by
 rw [ev_seq, ev_ret, h]; rfl
theorem compGo_map {re : Run} {Γc : Ga} {st : S} (f : W → W) : ∀ (items acc : List W), (∀ x ∈ items, re (some x :: Γc) st = .ok (f x) st) → compGo (rCon (.bl true)) re Γc items acc st = .ok (acc ++ items.map f) st
 | [], acc, _ => by simp [compGo]
 | x :: xs, acc, h => by
  show ((rCon (.bl true) (some x :: Γc) st).calm.bind fun b st1 => match b with
   | .bl true => (re (some x :: Γc) st1).calm.bind fun y st2 => compGo (rCon (.bl true)) re Γc xs (acc ++ [y]) st2
   | .bl false => compGo (rCon (.bl true)) re Γc xs acc st1
   | _ => .stuck) = _
  show ((re (some x :: Γc) st).calm.bind fun y st2 => compGo (rCon (.bl true)) re Γc xs (acc ++ [y]) st2) = _
  rw [h x List.mem_cons_self, ev_calm, ev_ok, compGo_map f xs (acc ++ [f x]) fun y hy => h y (List.mem_cons_of_mem _ hy)]
  simp
theorem comp_map {src : Src} {cap : List Nat} {re : Run} {Γ : Ga} {st : S} {items : List W} (f : W → W) (hs : src Γ st = .ok items st) (hl : items.length < sizeLine) (h : ∀ x ∈ items, re (some x :: capG cap Γ) st = .ok (f x) st) :
  runComp false src cap (rCon (.bl true)) re Γ st = .ok (.lst (items.map f)) st := by
 unfold runComp
 rw [hs, ev_ok, if_pos hl, compGo_map f items [] h, ev_ok, List.nil_append]
 exact ev_lst _ (by rw [List.length_map]; exact Nat.le_of_lt hl)
theorem bools_of {α : Type} (g : α → Bool) : ∀ xs : List α, bools (xs.map fun x => W.bl (g x)) = some (xs.map g)
 | [] => rfl
 | x :: xs => by
  show (bools (xs.map fun x => W.bl (g x))).map (g x :: ·) = _
  rw [bools_of g xs]; rfl
def abc : Str := "abcdefghijklmnopqrstuvwxyz"
def ABC : Str := "ABCDEFGHIJKLMNOPQRSTUVWXYZ"
def sm (z : Str) : Bool := (z.cps.toList.map fun c => inStr ⟨#[c]⟩ abc).all id
theorem small_run {Γ : Ga} {st : S} {z : Str} {r : Run} (hr : r Γ st = .ok (.str abc) st) (hz : z.length < sizeLine) (hr2 : ∀ w, r (some w :: []) st = .ok (.str abc) st) : runN (runsCons (runComp false (runSrc (rVar 0)) [] (rCon (.bl true)) (run2 (rVar 0) r opIn)) runsNil) opAll (some (.str z) :: Γ) st = .ok (.bl (sm z)) st := by
 rw [ev_runN, ev_cons]
 have hsrc : runSrc (rVar 0) (some (.str z) :: Γ) st = .ok (signs z) st := rfl
 have hl : (signs z).length < sizeLine := by unfold signs; rw [List.length_map]; exact hz
 have hc : runComp false (runSrc (rVar 0)) [] (rCon (.bl true)) (run2 (rVar 0) r opIn) (some (.str z) :: Γ) st = .ok (.lst ((signs z).map fun w => match w with | .str x => W.bl (inStr x abc) | w => w)) st := by
  refine comp_map _ hsrc hl fun w hw => ?_
  unfold signs at hw
  obtain ⟨c, _, rfl⟩ := List.mem_map.mp hw
  rw [ev_run2, ev_v0, ev_ok]
  show (r [some (W.str ⟨#[c]⟩)] st).bind _ = _
  rw [hr2, ev_ok]; rfl
 rw [hc, ev_ok, ev_nil, ev_ok, ev_ok]
 have e : ((signs z).map fun w => match w with | .str x => W.bl (inStr x abc) | w => w) = z.cps.toList.map fun c => W.bl (inStr ⟨#[c]⟩ abc) := by
  unfold signs; rw [List.map_map]; rfl
 rw [e]
 show (match bools (z.cps.toList.map fun c => W.bl (inStr ⟨#[c]⟩ abc)) with | some bs => R.ok (W.bl (bs.all id)) st | none => .stuck) = _
 rw [bools_of]; rfl
theorem all_small_ok (z : Str) (st : S) (hz : z.length < sizeLine) : op_all_small [.str z] st = .ok (.bl (sm z)) st := by
 unfold op_all_small
 rw [ev_op1]
 unfold r_all_small
 rw [ret_ok (small_run (z := z) rfl hz fun _ => rfl)]; rfl
inductive Th : W → Prop
 | str (z : Str) : z.length ≤ 100 → Th (.str z)
 | int (i : Int) : Th (.int i)
 | bl (b : Bool) : Th (.bl b)
 | non : Th .non
 | lst (ws : List W) : Th (.lst ws)
 | tup (ws : List W) : ws.length ≤ 1000 → (∀ w ∈ ws, Th w) → Th (.tup ws)
 | dct (ks : List Key) (ws : List W) : Th (.dct ks ws)
def short (z : Str) : Bool := if decide ((1 : Int) ≤ (z.length : Int)) = true then decide ((z.length : Int) ≤ 8) else false
theorem big100 {n : Nat} (h : n ≤ 100) : n < sizeLine := Nat.lt_of_le_of_lt h (by decide)
theorem short_run {Γ : Ga} {st : S} {z : Str} (h : z.length ≤ 100) : runC (rCon (W.int 1)) (runN (runsCons (rVar 0) runsNil) opLen) (rCon (.int 8)) opLe opLe (some (.str z) :: Γ) st = .ok (.bl (short z)) st := by
 simp only [ev_chain, ev_con, ev_ok, ev_runN, ev_cons, ev_v0, ev_nil, ev_lenS z (Nat.le_of_lt (big100 h)), ev_leI, kIf_bl]
 unfold short
 split <;> rfl
theorem is_short_str (z : Str) (st : S) (h : z.length ≤ 100) : op_is_short_text [.str z] st = .ok (.bl (short z)) st := by
 unfold op_is_short_text
 rw [ev_op1]
 unfold r_is_short_text
 have e : runAnd (runN (runsCons (rVar 0) (runsCons (rCon (.ty "str")) runsNil)) opIsi) (runC (rCon (W.int 1)) (runN (runsCons (rVar 0) runsNil) opLen) (rCon c_MOST_SIGNS) opLe opLe) (some (.str z) :: List.replicate (1 - 1) none) st = .ok (.bl (short z)) st := by
  have h1 : runN (runsCons (rVar 0) (runsCons (rCon (.ty "str")) runsNil)) opIsi (some (.str z) :: List.replicate (1 - 1) none) st = .ok (.bl true) st := rfl
  rw [ev_and, h1, ev_ok, kIf_bl, if_pos rfl]
  exact short_run h
 rw [ret_ok e]; rfl
theorem is_short_no {w : W} (st : S) (h : Th w) (hs : ∀ z, w ≠ .str z) : op_is_short_text [w] st = .ok (.bl false) st := by
 cases h with
 | str z _ => exact absurd rfl (hs z)
 | _ => rfl
def greatB (z : Str) : Bool := inStr ⟨#[z.cps.toList.headD 0]⟩ ABC
def freeB (z : Str) : Bool := if short z = true then (if greatB z = true then sm (Txt.slice z (some 1) none) else false) else false
theorem call1 {op : OpN} {Γ : Ga} {st : S} {w w' : W} (h : op [w] st = .ok w' st) : runN (runsCons (rVar 0) runsNil) (calmOp op) (some w :: Γ) st = .ok w' st := by
 rw [ev_runN, ev_cons, ev_v0, ev_ok, ev_nil, ev_ok, ev_ok, ev_calmOp, h]; rfl
theorem slice1_len (z : Str) : (Txt.slice z (some 1) none).length ≤ z.length := Txt.slice_le z _ _
theorem head_run {Γ : Ga} {st : S} {z : Str} {G : Run} (hG : ∀ Γ, G Γ st = .ok (.str ABC) st) (h : z.length ≤ 100) (hs : short z = true) : run2 (run2 (rVar 0) (rCon (W.int 0)) opIdx) G opIn (some (.str z) :: Γ) st = .ok (.bl (greatB z)) st := by
 have hl : 1 ≤ z.length := by
  unfold short at hs
  by_cases h1 : (1 : Int) ≤ (z.length : Int)
  ·omega
  ·rw [decide_eq_false h1] at hs; simp at hs
 have hl' : 0 < z.cps.toList.length := by
  have : z.cps.toList.length = z.length := by simp [Str.length]
  omega
 have ha : atI z.cps.toList (0 : Int) = some (z.cps.toList.headD 0) := by
  have := at_nat z.cps.toList 0 (z.cps.toList.headD 0) (by
   cases e : z.cps.toList with
   | nil => rw [e] at hl'; simp at hl'
   | cons a b => rfl)
  exact this
 rw [ev_run2, ev_run2, ev_v0, ev_ok, ev_con, ev_ok, ev_idxS z 0 _ (Nat.le_of_lt (big100 h)) ha, ev_ok, hG, ev_ok]
 rfl
theorem tail_run {Γ : Ga} {st : S} {z : Str} {op : OpN} (hop : ∀ y : Str, y.length < sizeLine → op [.str y] st = .ok (.bl (sm y)) st) (h : z.length ≤ 100) : runN (runsCons (runSlSN false (rVar 0) (rCon (W.int 1))) runsNil) (calmOp op) (some (.str z) :: Γ) st = .ok (.bl (sm (Txt.slice z (some 1) none))) st := by
 have e : runSlSN false (rVar 0) (rCon (W.int 1)) (some (.str z) :: Γ) st = .ok (.str (Txt.slice z (some 1) none)) st := by
  show (if z.length ≤ sizeLine then R.ok (W.str (Txt.slice z (some 1) none)) st else .stuck) = _
  rw [if_pos (Nat.le_of_lt (big100 h))]
 rw [ev_runN, ev_cons, e, ev_ok, ev_nil, ev_ok, ev_ok, ev_calmOp, hop _ (big100 (Nat.le_trans (slice1_len z) h))]; rfl
theorem is_free_str (z : Str) (st : S) (h : z.length ≤ 100) : op_is_free [.str z] st = .ok (.bl (freeB z)) st := by
 unfold op_is_free
 rw [ev_op1]
 unfold r_is_free
 have e : runAnd (runN (runsCons (rVar 0) runsNil) (calmOp op_is_short_text)) (runAnd (run2 (run2 (rVar 0) (rCon (W.int 0)) opIdx) (rCon c_GREAT_LETTERS) opIn) (runN (runsCons (runSlSN false (rVar 0) (rCon (W.int 1))) runsNil) (calmOp op_all_small))) (some (.str z) :: List.replicate (1 - 1) none) st = .ok (.bl (freeB z)) st := by
  rw [ev_and, call1 (is_short_str z st h), ev_ok, kIf_bl]
  unfold freeB
  split
  ·rename_i hs
   rw [ev_and, head_run (G := rCon c_GREAT_LETTERS) (fun _ => rfl) h hs, ev_ok, kIf_bl]
   split
   ·exact tail_run (fun y hy => all_small_ok y st hy) h
   ·rfl
  ·rfl
 rw [ret_ok e]; rfl
theorem is_free_no {w : W} (st : S) (h : Th w) (hs : ∀ z, w ≠ .str z) : op_is_free [w] st = .ok (.bl false) st := by
 unfold op_is_free
 rw [ev_op1]
 unfold r_is_free
 have e : runAnd (runN (runsCons (rVar 0) runsNil) (calmOp op_is_short_text)) (runAnd (run2 (run2 (rVar 0) (rCon (W.int 0)) opIdx) (rCon c_GREAT_LETTERS) opIn) (runN (runsCons (runSlSN false (rVar 0) (rCon (W.int 1))) runsNil) (calmOp op_all_small))) (some w :: List.replicate (1 - 1) none) st = .ok (.bl false) st := by
  rw [ev_and, call1 (is_short_no st h hs), ev_ok, kIf_bl]; rfl
 rw [ret_ok e]; rfl
def freeW : W → Bool
 | .str z => freeB z
 | _ => false
theorem is_free_W {w : W} (st : S) (h : Th w) : op_is_free [w] st = .ok (.bl (freeW w)) st := by
 cases h with
 | str z hz => exact is_free_str z st hz
 | int i => exact is_free_no st (.int i) (by intro i e; cases e)
 | bl b => exact is_free_no st (.bl b) (by intro i e; cases e)
 | non => exact is_free_no st .non (by intro i e; cases e)
 | lst b => exact is_free_no st (.lst b) (by intro i e; cases e)
 | tup b h1 h2 => exact is_free_no st (.tup b h1 h2) (by intro i e; cases e)
 | dct k b => exact is_free_no st (.dct k b) (by intro i e; cases e)
theorem new_put (st : S) (a b : MO) : (st.new a).put st.nxt b = st.new b := by
 unfold S.put S.new
 congr 1
 funext m
 by_cases h : m = st.nxt <;> simp [h]
theorem new_at (st : S) (a : MO) : (st.new a).mu st.nxt = some a := if_pos rfl
theorem new_old (st : S) (a : MO) : ∀ n, n < st.nxt → (st.new a).mu n = st.mu n := fun n h => if_neg (Nat.ne_of_lt h)
theorem compGo_ex {re : Run} {Γc : Ga} {st : S} (P : W → Prop) : ∀ (items acc : List W), (∀ x ∈ items, ∃ y, P y ∧ re (some x :: Γc) st = .ok y st) → ∃ ys : List W, ys.length = items.length ∧ (∀ y ∈ ys, P y) ∧ compGo (rCon (.bl true)) re Γc items acc st = .ok (acc ++ ys) st
 | [], acc, _ => ⟨[], rfl, (fun y h => by cases h), by simp [compGo]⟩
 | x :: xs, acc, h => by
  obtain ⟨y, hy, e⟩ := h x List.mem_cons_self
  obtain ⟨ys, h1, h2, h3⟩ := compGo_ex P xs (acc ++ [y]) fun z hz => h z (List.mem_cons_of_mem _ hz)
  refine ⟨y :: ys, by rw [List.length_cons, List.length_cons, h1], fun z hz => ?_, ?_⟩
  ·rcases List.mem_cons.mp hz with rfl | hz
   ·exact hy
   ·exact h2 z hz
  ·show ((re (some x :: Γc) st).calm.bind fun y st2 => compGo (rCon (.bl true)) re Γc xs (acc ++ [y]) st2) = _
   rw [e, ev_calm, ev_ok, h3]
   simp
theorem comp_ex {src : Src} {cap : List Nat} {re : Run} {Γ : Ga} {st : S} {items : List W} (P : W → Prop) (hs : src Γ st = .ok items st) (hl : items.length ≤ 1000) (h : ∀ x ∈ items, ∃ y, P y ∧ re (some x :: capG cap Γ) st = .ok y st) :
  ∃ ys : List W, ys.length = items.length ∧ (∀ y ∈ ys, P y) ∧ runComp false src cap (rCon (.bl true)) re Γ st = .ok (.lst ys) st := by
 obtain ⟨ys, h1, h2, h3⟩ := compGo_ex P items [] h
 refine ⟨ys, h1, h2, ?_⟩
 unfold runComp
 rw [hs, ev_ok, if_pos (Nat.lt_of_le_of_lt hl (by decide)), h3, ev_ok, List.nil_append]
 exact ev_lst _ (by rw [h1]; exact size_small hl)
theorem mem_rangeW {n : Nat} {w : W} (h : w ∈ rangeW 0 n) : ∃ k : Nat, k < n ∧ w = .int k := by
 unfold rangeW at h
 obtain ⟨i, hi, rfl⟩ := List.mem_map.mp h
 exact ⟨i, List.mem_range.mp hi, by rw [Int.zero_add]⟩
theorem len_rangeW (n : Nat) : (rangeW 0 n).length = n := by unfold rangeW; rw [List.length_map, List.length_range]
def LetterW (w : W) : Prop := ∃ c, smallC c ∧ w = .str ⟨#[c]⟩
theorem letters_of : ∀ (ys : List W), (∀ y ∈ ys, LetterW y) → ∃ cs : List Nat, ys = cs.map (fun c => W.str ⟨#[c]⟩) ∧ ∀ c ∈ cs, smallC c
 | [], _ => ⟨[], rfl, fun c h => by cases h⟩
 | y :: ys, h => by
  obtain ⟨c, hc, rfl⟩ := h y List.mem_cons_self
  obtain ⟨cs, h1, h2⟩ := letters_of ys fun z hz => h z (List.mem_cons_of_mem _ hz)
  refine ⟨c :: cs, by rw [h1]; rfl, fun d hd => ?_⟩
  rcases List.mem_cons.mp hd with rfl | hd
  ·exact hc
  ·exact h2 d hd
theorem strsW_map (zs : List Str) : strsW (zs.map W.str) = some zs := by
 induction zs with
 | nil => rfl
 | cons z zs ih => show (strsW (zs.map W.str)).map (z :: ·) = _; rw [ih]; rfl
theorem sum_ones (cs : List Nat) : (((cs.map fun c => (⟨#[c]⟩ : Str)).map (·.length)).sum) = cs.length := by
 induction cs with
 | nil => rfl
 | cons c cs ih => rw [List.map_cons, List.map_cons, List.sum_cons, ih, List.length_cons]; show 1 + _ = _; omega
theorem flat_ones : ∀ cs : List Nat, (cs.map fun c => [c]).flatten = cs
 | [] => rfl
 | c :: cs => by rw [List.map_cons, List.flatten_cons, flat_ones cs]; rfl
theorem join_letters (cs : List Nat) (st : S) (h : cs.length ≤ 1000) : opJoin (.str "") [.lst (cs.map fun c => W.str ⟨#[c]⟩)] st = .ok (.str ⟨cs.toArray⟩) st := by
 have e1 : strsW (cs.map fun c => W.str ⟨#[c]⟩) = some (cs.map fun c => (⟨#[c]⟩ : Str)) := by
  have := strsW_map (cs.map fun c => (⟨#[c]⟩ : Str))
  rw [List.map_map] at this
  exact this
 have e2 : Txt.join "" (cs.map fun c => (⟨#[c]⟩ : Str)) = ⟨cs.toArray⟩ := by
  apply cp_ext
  rw [cp_join0, List.map_map]
  show ((cs.map fun c => [c])).flatten = cs.toArray.toList
  rw [List.toList_toArray]
  exact flat_ones cs
 show (match strsW (cs.map fun c => W.str ⟨#[c]⟩) with
  | some (ys : List Str) => if (("" : Str).length ≤ 16 ∧ (ys.map (fun (y : Str) => y.length)).sum + ys.length ≤ 1048576) then R.ok (W.str (Txt.join "" ys)) st else .stuck
  | none => .stuck) = _
 rw [e1]
 show (if (("" : Str).length ≤ 16 ∧ ((cs.map fun c => (⟨#[c]⟩ : Str)).map (·.length)).sum + (cs.map fun c => (⟨#[c]⟩ : Str)).length ≤ 1048576) then R.ok (W.str (Txt.join "" (cs.map fun c => (⟨#[c]⟩ : Str)))) st else .stuck) = _
 rw [if_pos ⟨by decide, by rw [sum_ones, List.length_map]; omega⟩, e2]
theorem mod_lt (i : Int) (k : Int) (h : 0 < k) : 0 ≤ i % k ∧ i % k < k := ⟨Int.emod_nonneg i (by omega), Int.emod_lt_of_pos i h⟩
theorem short_of {z : Str} (h1 : 1 ≤ z.length) (h2 : z.length ≤ 8) : short z = true := by
 unfold short
 rw [decide_eq_true (by omega), if_pos rfl]
 exact decide_eq_true (by omega)
theorem sm_of {z : Str} (h : ∀ c ∈ cp z, smallC c) : sm z = true := by
 unfold sm
 rw [List.all_map, List.all_eq_true]
 intro c hc
 exact small_in (h c hc)
theorem free_of {z : Str} {g : Nat} {r : List Nat} (e : cp z = g :: r) (hg : greatC g) (hr : ∀ c ∈ r, smallC c) (hl : r.length ≤ 7) : freeB z = true ∧ z.length ≤ 8 := by
 have hz : z.length = r.length + 1 := by rw [← cp_len, e, List.length_cons]
 refine ⟨?_, by omega⟩
 unfold freeB
 rw [if_pos (short_of (by omega) (by omega))]
 have hg' : greatB z = true := by
  unfold greatB
  have : z.cps.toList = g :: r := e
  rw [this]
  exact great_in hg
 rw [if_pos hg']
 apply sm_of
 rw [show (some (1 : Int)) = some ((1 : Nat) : Int) from rfl, slice_lo, e]
 exact hr
theorem add_str_run {a b : Run} {Γ : Ga} {st : S} {x y : Str} (ha : a Γ st = .ok (.str x) st) (hb : b Γ st = .ok (.str y) st) (hl : x.length + y.length ≤ 1000) : run2 a b opAdd Γ st = .ok (.str (x ++ y)) st := by
 rw [ev_run2, ha, ev_ok, hb, ev_ok]
 exact ev_addS x y (size_small hl)
theorem sl_hi_run {a b : Run} {Γ : Ga} {st : S} {x : Str} {k : Int} (ha : a Γ st = .ok (.str x) st) (hb : b Γ st = .ok (.int k) st) (hl : x.length ≤ 1000) : runSlNS false a b Γ st = .ok (.str (Txt.slice x none (some k))) st := by
 rw [ev_slNS, ha, ev_ok, hb, ev_ok]
 exact if_pos (size_small hl)
theorem sl_lo_run {a b : Run} {Γ : Ga} {st : S} {x : Str} {k : Int} (ha : a Γ st = .ok (.str x) st) (hb : b Γ st = .ok (.int k) st) (hl : x.length ≤ 1000) : runSlSN false a b Γ st = .ok (.str (Txt.slice x (some k) none)) st := by
 rw [ev_slSN, ha, ev_ok, hb, ev_ok]
 exact if_pos (size_small hl)
theorem cp_mk (cs : List Nat) : cp ⟨cs.toArray⟩ = cs := by unfold cp; simp
theorem len_mk (cs : List Nat) : (⟨cs.toArray⟩ : Str).length = cs.length := by rw [← cp_len, cp_mk]
theorem append_run {Γ : Ga} {st : S} {xs : List W} {ro re : Run} {w : W} (ho : ro Γ (st.new (.lst xs)) = .ok (.ref st.nxt) (st.new (.lst xs))) (he : re Γ (st.new (.lst xs)) = .ok w (st.new (.lst xs))) (hl : xs.length ≤ 1000) :
  runM "list" ro (runsCons re runsNil) opAppend Γ (st.new (.lst xs)) = .ok .non (st.new (.lst (xs ++ [w]))) := by
 unfold runM
 have hk : kindW (st.new (.lst xs)) (.ref st.nxt) = some "list" := by
  show MO.kind ((st.new (.lst xs)).mu st.nxt) = _
  rw [new_at]; rfl
 rw [ho, ev_ok, if_pos hk, ev_cons, he, ev_ok, ev_nil, ev_ok, ev_ok]
 show (match (st.new (.lst xs)).mu st.nxt with
  | some (.lst ys) => if ys.length < sizeLine then R.ok W.non ((st.new (.lst xs)).put st.nxt (.lst (ys ++ [w]))) else .stuck
  | _ => .stuck) = _
 rw [new_at]
 show (if xs.length < sizeLine then R.ok W.non ((st.new (.lst xs)).put st.nxt (.lst (xs ++ [w]))) else .stuck) = _
 rw [if_pos (Nat.lt_of_le_of_lt hl (by decide)), new_put]
end DL.My
namespace DL.My
open PySem L2
def T (cs : List Nat) : W := .str ⟨cs.toArray⟩
theorem T_inj {a b : List Nat} (h : T a = T b) : a = b := by
 have h1 : (⟨a.toArray⟩ : Str) = ⟨b.toArray⟩ := W.str.inj h
 have h2 := congrArg cp h1
 rwa [cp_mk, cp_mk] at h2
theorem T_app (a b : List Nat) : (⟨a.toArray⟩ : Str) ++ ⟨b.toArray⟩ = ⟨(a ++ b).toArray⟩ := cp_ext (by rw [cp_app, cp_mk, cp_mk, cp_mk])
theorem T_beq (a b : List Nat) : ((⟨a.toArray⟩ : Str) == ⟨b.toArray⟩) = decide (a = b) := by
 by_cases h : a = b
 ·subst h; simp
 ·rw [decide_eq_false h, beq_eq_false_iff_ne]
  intro e
  have := congrArg cp e
  rw [cp_mk, cp_mk] at this
  exact h this
theorem T_eqD (k : Nat) (a b : List Nat) : eqD (k + 1) (T a) (T b) = some (decide (a = b)) := by
 rw [← T_beq]; rfl
section
variable {ra rb : Run} {Γ : Ga} {st : S} {xs ys : List Nat}
theorem addT (ha : ra Γ st = .ok (T xs) st) (hb : rb Γ st = .ok (T ys) st) (hl : xs.length + ys.length ≤ 1000) : run2 ra rb opAdd Γ st = .ok (T (xs ++ ys)) st := by
 have := add_str_run ha hb (by rw [len_mk, len_mk]; exact hl)
 rwa [T_app] at this
theorem hiT {k : Nat} (ha : ra Γ st = .ok (T xs) st) (hb : rb Γ st = .ok (.int k) st) (hl : xs.length ≤ 1000) : runSlNS false ra rb Γ st = .ok (T (xs.take k)) st := by
 have := sl_hi_run ha hb (by rw [len_mk]; exact hl)
 rw [this]
 exact congrArg (fun z => R.ok (W.str z) st) (cp_ext (by rw [slice_hi, cp_mk, cp_mk]))
theorem loT {k : Nat} (ha : ra Γ st = .ok (T xs) st) (hb : rb Γ st = .ok (.int k) st) (hl : xs.length ≤ 1000) : runSlSN false ra rb Γ st = .ok (T (xs.drop k)) st := by
 have := sl_lo_run ha hb (by rw [len_mk]; exact hl)
 rw [this]
 exact congrArg (fun z => R.ok (W.str z) st) (cp_ext (by rw [slice_lo, cp_mk, cp_mk]))
theorem idxT {k c : Nat} (ha : ra Γ st = .ok (T xs) st) (hb : rb Γ st = .ok (.int k) st) (hl : xs.length ≤ 1000) (hc : xs[k]? = some c) : run2 ra rb opIdx Γ st = .ok (T [c]) st := by
 rw [ev_run2, ha, ev_ok, hb, ev_ok]
 exact ev_idxS _ _ c (by rw [len_mk]; exact size_small hl) (at_nat _ _ _ (by rw [List.toList_toArray]; exact hc))
theorem lenT (ha : ra Γ st = .ok (T xs) st) (hl : xs.length ≤ 1000) : runN (runsCons ra runsNil) opLen Γ st = .ok (.int xs.length) st := by
 rw [ev_runN, ev_cons, ha, ev_ok, ev_nil, ev_ok, ev_ok]
 have := ev_lenS (st := st) ⟨xs.toArray⟩ (by rw [len_mk]; exact size_small hl)
 rw [len_mk] at this
 exact this
end
theorem pick_down (l : List Nat) : ∀ m : Nat, m ≤ l.length → ((List.range m).map fun (k : Nat) => l.length - 1 - k).filterMap (fun i => l[i]?) = (l.drop (l.length - m)).reverse
 | 0, _ => by simp
 | m + 1, h => by
  have hj : l.length - 1 - m < l.length := by omega
  rw [List.range_succ, List.map_append, List.filterMap_append, pick_down l m (by omega)]
  have e : l.drop (l.length - (m + 1)) = l[l.length - 1 - m] :: l.drop (l.length - m) := by
   have h1 : l.length - (m + 1) = l.length - 1 - m := by omega
   rw [h1, List.drop_eq_getElem_cons hj]
   congr 2
   omega
  rw [e, List.reverse_cons]
  congr 1
  simp [hj]
theorem revS_none (z : Str) : cp (revS none z) = (cp z).reverse := by
 have hi : Builtin.Str.strSliceIndices none none (-1) z.length = (List.range z.length).map fun (i : Nat) => (cp z).length - 1 - i := by
  unfold Builtin.Str.strSliceIndices sliceRange
  simp only [show ¬ ((-1 : Int) > 0) by decide, if_false]
  rw [cp_len]
  by_cases h : 0 < z.length
  ·rw [if_pos (by omega)]
   have e2 : (((z.length : Int) - 1 - -1 - -1 - 1) / (- -1)).toNat = z.length := by
    rw [show (- -1 : Int) = 1 from rfl, Int.ediv_one]; omega
   rw [e2]
   apply List.map_congr_left
   intro i hi
   omega
  ·rw [if_neg (by omega)]
   have : z.length = 0 := by omega
   rw [this]; rfl
 unfold revS
 rw [hi]
 show (List.filterMap _ _).toArray.toList = _
 rw [List.toList_toArray]
 have e3 : (fun (x : Nat) => z.cps[x]?) = fun (i : Nat) => (cp z)[i]? := by funext i; unfold cp; simp
 rw [e3, ← cp_len, pick_down _ _ (Nat.le_refl _), Nat.sub_self, List.drop_zero]
theorem revS_zero (z : Str) : cp (revS (some 0) z) = ((cp z).drop 1).reverse := by
 have hi : Builtin.Str.strSliceIndices none (some 0) (-1) z.length = (List.range (z.length - 1)).map fun (i : Nat) => (cp z).length - 1 - i := by
  unfold Builtin.Str.strSliceIndices sliceRange
  simp only [show ¬ ((-1 : Int) > 0) by decide, if_false, show ¬ ((0 : Int) < 0) by decide]
  rw [cp_len]
  by_cases h : 1 < z.length
  ·have e1 : max (-1 : Int) (min 0 ((z.length : Int) - 1)) = 0 := by omega
   rw [e1, if_pos (by omega)]
   have e2 : (((z.length : Int) - 1 - 0 - -1 - 1) / (- -1)).toNat = z.length - 1 := by
    rw [show (- -1 : Int) = 1 from rfl, Int.ediv_one]; omega
   rw [e2]
   apply List.map_congr_left
   intro i hi
   omega
  ·rw [if_neg (by omega)]
   have : z.length - 1 = 0 := by omega
   rw [this]; rfl
 unfold revS
 rw [hi]
 show (List.filterMap _ _).toArray.toList = _
 rw [List.toList_toArray]
 have e3 : (fun (x : Nat) => z.cps[x]?) = fun (i : Nat) => (cp z)[i]? := by funext i; unfold cp; simp
 rw [e3, ← cp_len, pick_down _ _ (by omega)]
 by_cases h : 1 ≤ (cp z).length
 ·rw [show (cp z).length - ((cp z).length - 1) = 1 by omega]
 ·have : cp z = [] := List.length_eq_zero_iff.mp (by omega)
  rw [this]; rfl
theorem revT (m : Bool) (xs : List Nat) (st : S) (hl : xs.length ≤ 1000) : opRevA m none (T xs) st = .ok (T xs.reverse) st := by
 have e : revS none ⟨xs.toArray⟩ = ⟨xs.reverse.toArray⟩ := cp_ext (by rw [revS_none, cp_mk, cp_mk])
 show (if (revS none ⟨xs.toArray⟩).length ≤ sizeLine then R.ok (W.str (revS none ⟨xs.toArray⟩)) st else .stuck) = _
 rw [e, if_pos (by rw [len_mk, List.length_reverse]; exact size_small hl)]; rfl
theorem rev0T (m : Bool) (xs : List Nat) (st : S) (hl : xs.length ≤ 1000) : opRevA m (some 0) (T xs) st = .ok (T (xs.drop 1).reverse) st := by
 have e : revS (some 0) ⟨xs.toArray⟩ = ⟨(xs.drop 1).reverse.toArray⟩ := cp_ext (by rw [revS_zero, cp_mk, cp_mk])
 show (if (revS (some 0) ⟨xs.toArray⟩).length ≤ sizeLine then R.ok (W.str (revS (some 0) ⟨xs.toArray⟩)) st else .stuck) = _
 rw [e, if_pos (by rw [len_mk, List.length_reverse, List.length_drop]; exact size_small (by omega))]; rfl
theorem of_ok (ns : List Int) (k : Nat) (st : S) (hn : ns.length ≤ 63) : op_l_of [.lst (ns.map W.int), .int k] st = .ok (.int (ns.getD k 0)) st := by
 unfold op_l_of
 rw [ev_op2]
 unfold r_l_of
 have e1 : runSlSS false (rVar 0) (rVar 1) (run2 (rVar 1) (rCon (W.int 1)) opAdd) (some (.lst (ns.map W.int)) :: some (.int k) :: List.replicate (2 - 2) none) st = .ok (.lst (((ns.drop k).take 1).map W.int)) st := by
  unfold runSlSS
  rw [ev_v0, ev_ok, ev_v1, ev_ok]
  show ((run2 (rVar 1) (rCon (W.int 1)) opAdd _ st).bind _) = _
  rw [ev_run2, ev_v1, ev_ok, ev_con, ev_ok, ev_addI, ev_ok]
  show opSl false (some (k : Int)) (some ((k : Int) + 1)) (.lst (ns.map W.int)) st = _
  have ec : cutW (ns.map W.int) (some (k : Int)) (some ((k : Int) + 1)) = ((ns.drop k).take 1).map W.int := by
   unfold cutW
   rw [show ((k : Int) + 1) = ((k + 1 : Nat) : Int) by omega, HT.sIx_nat, HT.sIx_nat, List.length_map, ← List.map_drop, ← List.map_take]
   congr 1
   by_cases h : k < ns.length
   ·rw [Nat.min_eq_left (Nat.le_of_lt h), Nat.min_eq_left h, show k + 1 - k = 1 by omega]
   ·rw [List.drop_of_length_le (by omega), List.drop_of_length_le (by omega)]; simp
  show opLst (cutW (ns.map W.int) (some (k : Int)) (some ((k : Int) + 1))) st = _
  rw [ec]
  exact if_pos (by rw [List.length_map, List.length_take]; exact size_small (by omega))
 have e2 : run2 (run2 (runSlSS false (rVar 0) (rVar 1) (run2 (rVar 1) (rCon (W.int 1)) opAdd)) (runN (runsCons (rCon (W.int 0)) runsNil) (opL false)) opAdd) (rCon (W.int 0)) opIdx (some (.lst (ns.map W.int)) :: some (.int k) :: List.replicate (2 - 2) none) st = .ok (.int (ns.getD k 0)) st := by
  rw [ev_run2, ev_run2, e1, ev_ok]
  show ((opAdd (.lst (((ns.drop k).take 1).map W.int)) (.lst [.int 0]) st).bind _) = _
  show ((if (((ns.drop k).take 1).map W.int).length + [W.int 0].length ≤ sizeLine then R.ok (W.lst (((ns.drop k).take 1).map W.int ++ [.int 0])) st else .stuck).bind _) = _
  rw [if_pos (by rw [List.length_map, List.length_take]; exact size_small (by simp; omega)), ev_ok, ev_con, ev_ok]
  refine ev_idxL _ 0 _ (at_nat _ 0 _ ?_)
  by_cases h : k < ns.length
  ·rw [List.drop_eq_getElem_cons h, List.take_succ_cons, List.take_zero, List.map_cons, List.cons_append, List.getElem?_cons_zero, List.getD_eq_getElem?_getD, List.getElem?_eq_getElem h]; rfl
  ·rw [List.drop_of_length_le (by omega), List.getD_eq_getElem?_getD, List.getElem?_eq_none (show ns.length ≤ k by omega)]; rfl
 rw [ret_ok e2]; rfl
theorem loop_all {i : Nat} {body : RunS} (P : Ga → S → Prop) : ∀ (items : List W) (Γ : Ga) (s : S), P Γ s → (∀ x ∈ items, ∀ Γ s, P Γ s → ∃ Γ' s', body (Γ.set i (some x)) s = .ok (.nx Γ') s' ∧ P Γ' s') →
  ∃ Γ' s', loopS i body items Γ s = .ok (.nx Γ') s' ∧ P Γ' s'
 | [], Γ, s, h, _ => ⟨Γ, s, rfl, h⟩
 | x :: xs, Γ, s, h, st => by
  obtain ⟨Γ1, s1, e1, h1⟩ := st x List.mem_cons_self Γ s h
  obtain ⟨Γ2, s2, e2, h2⟩ := loop_all P xs Γ1 s1 h1 fun y hy => st y (List.mem_cons_of_mem _ hy)
  refine ⟨Γ2, s2, ?_, h2⟩
  show ((body (Γ.set i (some x)) s).bind fun fl st' => match fl with
   | .nx Γ' => loopS i body xs Γ' st'
   | .ct Γ' => loopS i body xs Γ' st'
   | .bk Γ' => .ok (.nx Γ') st'
   | .rt w => .ok (.rt w) st') = _
  rw [e1]; exact e2
theorem loop_num {i : Nat} {body : RunS} (P : Nat → Ga → S → Prop) {Γ : Ga} {s : S} (n : Nat) (h : P 0 Γ s) (st : ∀ k Γ s, k < n → P k Γ s → ∃ Γ' s', body (Γ.set i (some (.int k))) s = .ok (.nx Γ') s' ∧ P (k + 1) Γ' s') :
  ∃ Γ' s', loopS i body (rangeW 0 n) Γ s = .ok (.nx Γ') s' ∧ P n Γ' s' := by
 have go : ∀ (m k : Nat) (Γ : Ga) (s : S), k + m = n → P k Γ s → ∃ Γ' s', loopS i body ((List.range' k m).map fun (j : Nat) => W.int j) Γ s = .ok (.nx Γ') s' ∧ P n Γ' s' := by
  intro m
  induction m with
  | zero => intro k Γ s e p; rw [show k = n by omega] at p; exact ⟨Γ, s, rfl, p⟩
  | succ m ih =>
   intro k Γ s e p
   obtain ⟨Γ1, s1, e1, p1⟩ := st k Γ s (by omega) p
   obtain ⟨Γ2, s2, e2, p2⟩ := ih (k + 1) Γ1 s1 (by omega) p1
   refine ⟨Γ2, s2, ?_, p2⟩
   rw [List.range'_succ, List.map_cons]
   show ((body (Γ.set i (some (.int k))) s).bind fun fl st' => match fl with
    | .nx Γ' => loopS i body ((List.range' (k + 1) m).map fun (j : Nat) => W.int j) Γ' st'
    | .ct Γ' => loopS i body ((List.range' (k + 1) m).map fun (j : Nat) => W.int j) Γ' st'
    | .bk Γ' => .ok (.nx Γ') st'
    | .rt w => .ok (.rt w) st') = _
   rw [e1]; exact e2
 have e : rangeW 0 n = (List.range' 0 n).map fun (j : Nat) => W.int j := by
  unfold rangeW
  rw [List.range_eq_range']
  apply List.map_congr_left
  intro j _
  rw [Int.zero_add]
 rw [e]
 exact go n 0 Γ s (by omega) h
theorem inD_T (x : List Nat) : ∀ zs : List (List Nat), inD (T x) (zs.map T) = some (decide (x ∈ zs))
 | [] => rfl
 | z :: zs => by
  show (match eqD 12 (T z) (T x), inD (T x) (zs.map T) with | some a, some b => some (a || b) | _, _ => none) = _
  rw [inD_T x zs, T_eqD 11]
  show some (decide (z = x) || decide (x ∈ zs)) = _
  congr 1
  rw [← Bool.decide_or]
  exact decide_eq_decide.mpr ⟨fun h => h.elim (fun e => e ▸ List.mem_cons_self) (List.mem_cons_of_mem _), fun h => (List.mem_cons.mp h).imp Eq.symm id⟩
theorem dctOf_newL (st : S) (ws : List W) : dctOf (st.new (.lst ws)) (.ref st.nxt) = none := by
 show (match (st.new (.lst ws)).mu st.nxt with | some (.dct ks ws) => some (ks, ws) | _ => none) = _
 rw [new_at]
theorem items_newL (st : S) (ws : List W) : itemsOf (st.new (.lst ws)) (.ref st.nxt) = some ws := by
 show MO.items ((st.new (.lst ws)).mu st.nxt) = _
 rw [new_at]; rfl
theorem notInL (x : List Nat) (zs : List (List Nat)) (st : S) : opNotIn (T x) (.ref st.nxt) (st.new (.lst (zs.map T))) = .ok (.bl (decide (x ∉ zs))) (st.new (.lst (zs.map T))) := by
 have e1 : inDct (st.new (.lst (zs.map T))) (T x) (.ref st.nxt) = none := by
  unfold inDct
  rw [dctOf_newL]; rfl
 have e2 : inW (st.new (.lst (zs.map T))) (T x) (.ref st.nxt) = some (decide (x ∈ zs)) := by
  show (match itemsOf (st.new (.lst (zs.map T))) (.ref st.nxt) with | some ys => inD (T x) ys | none => none) = _
  rw [items_newL]; exact inD_T x zs
 unfold opNotIn
 rw [e1]
 unfold opNotIn0
 rw [e2]
 show R.ok (W.bl (!decide (x ∈ zs))) _ = _
 rw [decide_not]
theorem idxL {zs : List (List Nat)} {k : Nat} {z : List Nat} (st : S) (h : zs[k]? = some z) : opIdx (.ref st.nxt) (.int k) (st.new (.lst (zs.map T))) = .ok (T z) (st.new (.lst (zs.map T))) := by
 have e : atI (zs.map T) (k : Int) = some (T z) := at_nat _ _ _ (by rw [List.getElem?_map, h]; rfl)
 unfold opIdx
 rw [dctOf_newL]
 show (match itemsOf (st.new (.lst (zs.map T))) (.ref st.nxt) with
   | some ws => (match atI ws k with | some w => R.ok w (st.new (.lst (zs.map T))) | none => .stuck)
   | none => .stuck) = _
 rw [items_newL]
 show (match atI (zs.map T) k with | some w => R.ok w (st.new (.lst (zs.map T))) | none => .stuck) = _
 rw [e]
theorem setL {zs : List (List Nat)} {k : Nat} (z : List Nat) (st : S) (h : k < zs.length) : opSetIx (.ref st.nxt) (.int k) (T z) (st.new (.lst (zs.map T))) = .ok () (st.new (.lst ((zs.set k z).map T))) := by
 have hj : ixN (zs.map T).length (k : Int) = some k := by
  unfold ixN
  rw [List.length_map, if_pos (by omega)]
  simp [h]
 show setIx1 st.nxt (.int k) (T z) _ ((st.new (.lst (zs.map T))).mu st.nxt) (keyW (.int k)) = _
 rw [new_at]
 show putAt st.nxt k (T z) _ ((st.new (.lst (zs.map T))).mu st.nxt) = _
 rw [new_at]
 show (match ixN (zs.map T).length (k : Int) with | some j => R.ok () ((st.new (.lst (zs.map T))).put st.nxt (.lst ((zs.map T).set j (T z)))) | none => .stuck) = _
 rw [hj]
 show R.ok () ((st.new (.lst (zs.map T))).put st.nxt (.lst ((zs.map T).set k (T z)))) = _
 rw [new_put, ← List.map_set]
end DL.My
namespace DL.My
open PySem L2
def Nm (z : List Nat) : Prop := z ≠ [] ∧ z.length ≤ 8 ∧ ∀ c ∈ z, smallC c
theorem s25 : W.str "abcdefghijklmnopqrstuvwxy" = T (List.range' 97 25) := congrArg W.str (cp_ext (by rw [cp_mk]; decide +kernel))
theorem s26 : W.str "abcdefghijklmnopqrstuvwxyz" = T (List.range' 97 26) := congrArg W.str (cp_ext (by rw [cp_mk]; decide +kernel))
theorem g26 : W.str "ABCDEFGHIJKLMNOPQRSTUVWXYZ" = T (List.range' 65 26) := congrArg W.str (cp_ext (by rw [cp_mk]; decide +kernel))
theorem abc_letter {ra rb : Run} {Γ : Ga} {st : S} {a n : Nat} {i : Int} (ha : ra Γ st = .ok (T (List.range' a n)) st) (hb : rb Γ st = .ok (.int i) st) (h0 : 0 ≤ i) (h1 : i < n) (hn : n ≤ 1000) : run2 ra rb opIdx Γ st = .ok (T [a + i.toNat]) st := by
 refine idxT (k := i.toNat) ha (by rw [hb]; congr 2; omega) (by rw [List.length_range']; exact hn) ?_
 rw [List.getElem?_range' (by omega)]
 simp
theorem ev_setIx (ro ri rv : Run) (Γ : Ga) (st : S) : sSetIx ro ri rv Γ st = (rv Γ st).bind fun v st1 => (ro Γ st1).bind fun o st2 => (ri Γ st2).bind fun i st3 => (opSetIx o i v st3).bind fun _ st4 => .ok (.nx Γ) st4 := Eq.trans rfl rfl
theorem ev_revH (m : Bool) (ra rh : Run) (Γ : Ga) (st : S) : runRevH m ra rh Γ st = (ra Γ st).bind fun w st1 => (rh Γ st1).bind fun u st2 => match u with
 | .int i => opRevA m (some i) w st2
 | _ => .stuck := Eq.trans rfl rfl
theorem frzs_T (f : W → Option W) (hf : ∀ z, f (T z) = some (T z)) : ∀ zs : List (List Nat), frzs f (zs.map T) = some (zs.map T)
 | [] => rfl
 | z :: zs => by
  show (match f (T z), frzs f (zs.map T) with | some y, some ys => some (y :: ys) | _, _ => none) = _
  rw [hf, frzs_T f hf zs]; rfl
theorem keep_T (st : S) (zs : List (List Nat)) : keep st (st.new (.lst (zs.map T))) (.ref st.nxt) = .ok (.lst (zs.map T)) st := by
 refine keep_pos (new_old st _) ?_
 show (if st.nxt < st.nxt then _ else (match (st.new (.lst (zs.map T))).mu st.nxt with
  | some (.lst xs) => (frzs (frz st.nxt (st.new (.lst (zs.map T))).mu 11) xs).map W.lst
  | some (.dct ks xs) => (frzs (frz st.nxt (st.new (.lst (zs.map T))).mu 11) xs).map (W.dct ks)
  | none => none)) = _
 rw [if_neg (Nat.lt_irrefl _), new_at]
 show (frzs (frz st.nxt (st.new (.lst (zs.map T))).mu 11) (zs.map T)).map W.lst = _
 rw [frzs_T (frz st.nxt (st.new (.lst (zs.map T))).mu 11) fun _ => rfl]; rfl
theorem joinT {src : Src} {cap : List Nat} {re : Run} {Γ : Ga} {st : S} {n : Nat} (hs : src Γ st = .ok (rangeW 0 n) st) (hn : n ≤ 100) (h : ∀ k : Nat, k < n → ∃ c, smallC c ∧ re (some (.int k) :: capG cap Γ) st = .ok (T [c]) st) :
  ∃ cs : List Nat, cs.length = n ∧ (∀ c ∈ cs, smallC c) ∧ runM "str" (rCon (W.str "")) (runsCons (runComp false src cap (rCon (.bl true)) re) runsNil) opJoin Γ st = .ok (T cs) st := by
 obtain ⟨ys, h1, h2, h3⟩ := comp_ex (cap := cap) (re := re) LetterW hs (by rw [len_rangeW]; omega) fun x hx => by
  obtain ⟨k, hk, rfl⟩ := mem_rangeW hx
  obtain ⟨c, hc, e⟩ := h k hk
  exact ⟨_, ⟨c, hc, rfl⟩, e⟩
 obtain ⟨cs, rfl, h4⟩ := letters_of ys h2
 rw [List.length_map, len_rangeW] at h1
 refine ⟨cs, h1, h4, ?_⟩
 unfold runM
 rw [ev_con, ev_ok, if_pos (show kindW st (.str "") = some "str" from rfl), ev_cons, h3, ev_ok, ev_nil, ev_ok, ev_ok]
 exact join_letters cs st (by omega)
noncomputable def nBody : RunS := (sSeq (sSet 5 (run2 (run2 (rVar 0) (rCon (W.int 2)) opDiv) (run2 (run2 (rVar 4) (rCon (W.int 48271)) opMul) (run2 (rVar 0) (rCon (W.int 2)) opMod) opMul) opAdd))
 (sSeq (sSet 6 (runM "str" (rCon (W.str "")) (runsCons (runComp false (runRng1 (run2 (rVar 5) (rCon (W.int 7)) opMod)) [5, 2] (rCon (.bl true)) (run2 (rVar 2) (run2 (run2 (run2 (rVar 1) (rCon (W.int 7)) opDiv) (run2 (rCon (W.int 6)) (rVar 0) opMul) opAdd) (rCon (W.int 25)) opMod) opIdx)) runsNil) opJoin))
 (sSeq (sSet 7 (run2 (run2 (rVar 5) (rCon (W.int 175)) opDiv) (run2 (runN (runsCons (rVar 6) runsNil) opLen) (rCon (W.int 1)) opAdd) opMod))
 (sSeq (sDrop (runM "list" (rVar 3) (runsCons (run2 (run2 (run2 (runSlNS false (rVar 6) (rVar 7)) (rCon (W.str "z")) opAdd) (run2 (rVar 2) (rVar 4) opIdx) opAdd) (runSlSN false (rVar 6) (rVar 7)) opAdd) runsNil) opAppend))
 sPass))))
noncomputable def nBody2 : RunS := (sSeq (sIf (runAnd (run2 (run2 (rVar 0) (rCon (W.int 5)) opMod) (rCon (W.int 3)) opEq) (run2 (run1 (run2 (rVar 3) (rVar 4) opIdx) (opRevA false none)) (rVar 3) opNotIn))
  (sSeq (sSetIx (rVar 3) (run2 (rVar 4) (rCon (W.int 1)) opAdd) (run1 (run2 (rVar 3) (rVar 4) opIdx) (opRevA false none)))
 sPass)
  sPass)
 sPass)
def mid (cs : List Nat) (a : Nat) (x : List Nat) : List Nat := cs.take a ++ x ++ cs.drop a
theorem mid_len (cs : List Nat) (a : Nat) (x : List Nat) : (mid cs a x).length = cs.length + x.length := by
 unfold mid
 rw [List.length_append, List.length_append, List.length_take, List.length_drop]; omega
theorem mid_mem {cs : List Nat} {a : Nat} {x : List Nat} {c : Nat} (h : c ∈ mid cs a x) : c ∈ cs ∨ c ∈ x := by
 unfold mid at h
 rcases List.mem_append.mp h with h | h
 ·rcases List.mem_append.mp h with h | h
  ·exact .inl (List.mem_of_mem_take h)
  ·exact .inr h
 ·exact .inl (List.mem_of_mem_drop h)
theorem names_turn (c : Int) (m : Option W) (st : S) (zs : List (List Nat)) (hz : zs.length ≤ 100) (k : Nat) (hk : k < 25) (x5 x6 x7 : Option W) :
  ∃ z y5 y6 y7, Nm z ∧ nBody [some (.int c), m, some (.str "abcdefghijklmnopqrstuvwxy"), some (.ref st.nxt), some (.int k), x5, x6, x7] (st.new (.lst (zs.map T))) =
   .ok (.nx [some (.int c), m, some (.str "abcdefghijklmnopqrstuvwxy"), some (.ref st.nxt), some (.int k), y5, y6, y7]) (st.new (.lst ((zs ++ [z]).map T))) := by
 obtain ⟨b0, b1⟩ := mod_lt c 2 (by decide)
 generalize hs : st.new (.lst (zs.map T)) = s
 have h5 : run2 (run2 (rVar 0) (rCon (W.int 2)) opDiv) (run2 (run2 (rVar 4) (rCon (W.int 48271)) opMul) (run2 (rVar 0) (rCon (W.int 2)) opMod) opMul) opAdd [some (.int c), m, some (.str "abcdefghijklmnopqrstuvwxy"), some (.ref st.nxt), some (.int k), x5, x6, x7] s = .ok (.int (c / 2 + (k : Int) * 48271 * (c % 2))) s := by
  simp only [EV, Nat.reduceSub, show (0 : Int) < 2 by decide, show (2 : Int) < 1073741824 by decide, ev_mulR (k : Int) 48271 (by decide) (by decide), ev_mulR ((k : Int) * 48271) (c % 2) (by omega) (by omega)]
 generalize (c / 2 + (k : Int) * 48271 * (c % 2)) = more at h5
 obtain ⟨m0, m1⟩ := mod_lt more 7 (by decide)
 obtain ⟨cs, l6, s6, h6⟩ := joinT (src := runRng1 (run2 (rVar 5) (rCon (W.int 7)) opMod)) (cap := [5, 2]) (re := run2 (rVar 2) (run2 (run2 (run2 (rVar 1) (rCon (W.int 7)) opDiv) (run2 (rCon (W.int 6)) (rVar 0) opMul) opAdd) (rCon (W.int 25)) opMod) opIdx)
  (Γ := [some (.int c), m, some (.str "abcdefghijklmnopqrstuvwxy"), some (.ref st.nxt), some (.int k), some (.int more), x6, x7]) (st := s) (n := (more % 7).toNat)
  (ev_rng1 _ _ (by simp only [EV, Nat.reduceSub, show (0 : Int) < 7 by decide]) (by omega) (by omega)) (by omega) (fun j hj => by
   obtain ⟨n0, n1⟩ := mod_lt (more / 7 + 6 * (j : Int)) 25 (by decide)
   refine ⟨_, ?_, abc_letter (a := 97) (n := 25) (i := (more / 7 + 6 * (j : Int)) % 25) (by rw [← s25]; rfl) ?_ n0 n1 (by decide)⟩
   ·unfold smallC; omega
   ·show run2 (run2 (run2 (rVar 1) (rCon (W.int 7)) opDiv) (run2 (rCon (W.int 6)) (rVar 0) opMul) opAdd) (rCon (W.int 25)) opMod [some (.int j), some (.int more), some (.str "abcdefghijklmnopqrstuvwxy")] s = _
    simp only [EV, Nat.reduceSub, show (0 : Int) < 7 by decide, show (7 : Int) < 1073741824 by decide, show (0 : Int) < 25 by decide, ev_mulL 6 (j : Int) (by decide) (by decide)])
 have lc : cs.length ≤ 6 := by omega
 obtain ⟨a0, a1⟩ := mod_lt (more / 175) ((cs.length : Int) + 1) (by omega)
 have h7 : run2 (run2 (rVar 5) (rCon (W.int 175)) opDiv) (run2 (runN (runsCons (rVar 6) runsNil) opLen) (rCon (W.int 1)) opAdd) opMod [some (.int c), m, some (.str "abcdefghijklmnopqrstuvwxy"), some (.ref st.nxt), some (.int k), some (.int more), some (T cs), x7] s = .ok (.int ((more / 175) % ((cs.length : Int) + 1))) s := by
  have e := lenT (ra := rVar 6) (Γ := [some (.int c), m, some (.str "abcdefghijklmnopqrstuvwxy"), some (.ref st.nxt), some (.int k), some (.int more), some (T cs), x7]) (st := s) (xs := cs) rfl (by omega)
  rw [ev_run2, ev_run2, ev_v5, ev_ok, ev_con, ev_ok, ev_divI _ _ (by decide) (by decide), ev_ok, ev_run2, e, ev_ok, ev_con, ev_ok, ev_addI, ev_ok, ev_modI _ _ (by omega)]
 generalize ha : ((more / 175) % ((cs.length : Int) + 1)).toNat = a at *
 have ea : (more / 175) % ((cs.length : Int) + 1) = (a : Int) := by omega
 rw [ea] at h7
 have q1 := hiT (ra := rVar 6) (rb := rVar 7) (Γ := [some (.int c), m, some (.str "abcdefghijklmnopqrstuvwxy"), some (.ref st.nxt), some (.int k), some (.int more), some (T cs), some (.int a)]) (st := s) (xs := cs) (k := a) rfl rfl (by omega)
 have q2 := loT (ra := rVar 6) (rb := rVar 7) (Γ := [some (.int c), m, some (.str "abcdefghijklmnopqrstuvwxy"), some (.ref st.nxt), some (.int k), some (.int more), some (T cs), some (.int a)]) (st := s) (xs := cs) (k := a) rfl rfl (by omega)
 have q3 := addT (rb := rCon (W.str "z")) (ys := [122]) q1 rfl (by rw [List.length_take, List.length_singleton]; omega)
 have q4 := abc_letter (ra := rVar 2) (rb := rVar 4) (Γ := [some (.int c), m, some (.str "abcdefghijklmnopqrstuvwxy"), some (.ref st.nxt), some (.int k), some (.int more), some (T cs), some (.int a)]) (st := s) (a := 97) (n := 25) (i := k) (by rw [← s25]; rfl) rfl (by omega) (by omega) (by decide)
 rw [show ((k : Int)).toNat = k by omega] at q4
 have q5 := addT q3 q4 (by rw [List.length_append, List.length_take, List.length_singleton, List.length_singleton]; omega)
 have q6 := addT q5 q2 (by rw [List.length_append, List.length_append, List.length_take, List.length_singleton, List.length_singleton, List.length_drop]; omega)
 have ez : cs.take a ++ [122] ++ [97 + k] ++ cs.drop a = mid cs a [122, 97 + k] := by unfold mid; simp
 rw [ez] at q6
 subst hs
 have h8 := append_run (ro := rVar 3) (st := st) (xs := zs.map T) rfl q6 (by rw [List.length_map]; omega)
 refine ⟨mid cs a [122, 97 + k], some (.int more), some (T cs), some (.int a), ⟨fun e => ?_, ?_, fun x hx => ?_⟩, ?_⟩
 ·have := congrArg List.length e
  rw [mid_len] at this
  simp at this
 ·rw [mid_len]; show cs.length + 2 ≤ 8; omega
 ·rcases mid_mem hx with h | h
  ·exact s6 x h
  ·simp only [List.mem_cons, List.not_mem_nil, or_false] at h
   unfold smallC; omega
 ·unfold nBody
  rw [ev_seq, e_set, h5, ev_ok, ks5, ev_ok, kSeq_nx, ev_seq, e_set, h6, ev_ok, ks6, ev_ok, kSeq_nx, ev_seq, e_set, h7, ev_ok, ks7, ev_ok, kSeq_nx, ev_seq, e_drop, h8, ev_ok, kDrop_, ev_ok, kSeq_nx, ev_pass, List.map_append]; rfl
theorem names_turn2 (c : Int) (m : Option W) (st : S) (zs : List (List Nat)) (hs : ∀ z ∈ zs, Nm z) (k : Nat) (hk : k + 1 < zs.length) (x5 x6 x7 : Option W) :
  ∃ zs' : List (List Nat), zs'.length = zs.length ∧ (∀ z ∈ zs', Nm z) ∧ nBody2 [some (.int c), m, some (.str "abcdefghijklmnopqrstuvwxy"), some (.ref st.nxt), some (.int k), x5, x6, x7] (st.new (.lst (zs.map T))) =
   .ok (.nx [some (.int c), m, some (.str "abcdefghijklmnopqrstuvwxy"), some (.ref st.nxt), some (.int k), x5, x6, x7]) (st.new (.lst (zs'.map T))) := by
 have hz : zs[k]? = some zs[k] := List.getElem?_eq_getElem (by omega)
 obtain ⟨n1, n2, n3⟩ := hs zs[k] (List.getElem_mem _)
 generalize zs[k] = z at hz n1 n2 n3
 have e1 : run1 (run2 (rVar 3) (rVar 4) opIdx) (opRevA false none) [some (.int c), m, some (.str "abcdefghijklmnopqrstuvwxy"), some (.ref st.nxt), some (.int k), x5, x6, x7] (st.new (.lst (zs.map T))) = .ok (T z.reverse) (st.new (.lst (zs.map T))) := by
  rw [ev_run1, ev_run2, ev_v3, ev_ok, ev_v4, ev_ok, idxL st hz, ev_ok, revT false z _ (by omega)]
 have e0 : run2 (run2 (rVar 0) (rCon (W.int 5)) opMod) (rCon (W.int 3)) opEq [some (.int c), m, some (.str "abcdefghijklmnopqrstuvwxy"), some (.ref st.nxt), some (.int k), x5, x6, x7] (st.new (.lst (zs.map T))) = .ok (.bl (c % 5 == 3)) (st.new (.lst (zs.map T))) := by
  simp only [EV, Nat.reduceSub, show (0 : Int) < 5 by decide]
 have nm : Nm z.reverse := ⟨by simpa using n1, by simpa using n2, fun x hx => n3 x (by simpa using hx)⟩
 by_cases hc : (c % 5 == 3) = true ∧ z.reverse ∉ zs
 ·refine ⟨zs.set (k + 1) z.reverse, List.length_set, fun y hy => ?_, ?_⟩
  ·rcases List.mem_or_eq_of_mem_set hy with h | h
   ·exact hs y h
   ·rw [h]; exact nm
  ·unfold nBody2
   rw [ev_seq, ev_if, ev_and, e0, ev_ok, kIf_bl, hc.1, if_pos rfl, ev_run2, e1, ev_ok, ev_v3, ev_ok, notInL, decide_eq_true hc.2, ev_ok, kIf_bl, if_pos rfl, ev_seq, ev_setIx, e1, ev_ok, ev_v3, ev_ok, ev_run2, ev_v4, ev_ok, ev_con, ev_ok, ev_addI, ev_ok,
    show ((k : Int) + 1) = ((k + 1 : Nat) : Int) by omega, setL z.reverse st hk, ev_ok]
   rfl
 ·refine ⟨zs, rfl, hs, ?_⟩
  unfold nBody2
  rw [ev_seq, ev_if, ev_and, e0, ev_ok, kIf_bl]
  cases hb : c % 5 == 3 with
  | false => rw [if_neg Bool.false_ne_true]; rfl
  | true =>
   rw [if_pos rfl, ev_run2, e1, ev_ok, ev_v3, ev_ok, notInL, decide_eq_false (fun h => hc ⟨hb, h⟩), ev_ok, kIf_bl, if_neg Bool.false_ne_true]; rfl
theorem ev_rng3 {rr : Runs} {Γ : Ga} {st : S} {i j d : Int} (h : rr Γ st = .ok [.int i, .int j, .int d] st) (ok : rng3Ok i j d = true) : runRng3 rr Γ st = .ok (rng3W i d (Builtin.Range.rangeSize i j d).toNat) st := by
 unfold runRng3
 rw [h, ev_ok]
 show (if rng3Ok i j d = true then _ else _) = _
 rw [if_pos ok]
theorem names_ok (c : Int) (m : Nat) (st : S) (hm : m ≤ 25) (hr : rng3Ok 0 ((m : Int) - 1) 3 = true) (hi : ∀ x ∈ rng3W 0 3 (Builtin.Range.rangeSize 0 ((m : Int) - 1) 3).toNat, ∃ j : Nat, x = .int j ∧ j + 1 < m) :
  ∃ zs : List (List Nat), zs.length = m ∧ (∀ z ∈ zs, Nm z) ∧ op_l_names [.int c, .int m] st = .ok (.lst (zs.map T)) st := by
 obtain ⟨Γ1, s1, e1, zs1, l1, n1, x4, x5, x6, x7, rfl, rfl⟩ := loop_num (i := 4) (body := nBody) (Γ := [some (.int c), some (.int m), some (.str "abcdefghijklmnopqrstuvwxy"), some (.ref st.nxt), none, none, none, none]) (s := st.new (.lst []))
  (fun k Γ s => ∃ zs : List (List Nat), zs.length = k ∧ (∀ z ∈ zs, Nm z) ∧ ∃ x4 x5 x6 x7, Γ = [some (.int c), some (.int m), some (.str "abcdefghijklmnopqrstuvwxy"), some (.ref st.nxt), x4, x5, x6, x7] ∧ s = st.new (.lst (zs.map T)))
  m ⟨[], rfl, (fun z h => by cases h), none, none, none, none, rfl, rfl⟩ (fun k Γ s hk ⟨zs, l, n, x4, x5, x6, x7, hΓ, hs⟩ => by
   subst hΓ hs
   obtain ⟨z, y5, y6, y7, nz, e⟩ := names_turn c (some (.int m)) st zs (by omega) k (by omega) x5 x6 x7
   refine ⟨_, _, e, zs ++ [z], by rw [List.length_append, l]; rfl, fun y hy => ?_, _, _, _, _, rfl, rfl⟩
   rcases List.mem_append.mp hy with h | h
   ·exact n y h
   ·rw [List.mem_singleton.mp h]; exact nz)
 obtain ⟨Γ2, s2, e2, zs2, l2, n2, y4, y5, y6, y7, rfl, rfl⟩ := loop_all (i := 4) (body := nBody2)
  (fun Γ s => ∃ zs : List (List Nat), zs.length = m ∧ (∀ z ∈ zs, Nm z) ∧ ∃ x4 x5 x6 x7, Γ = [some (.int c), some (.int m), some (.str "abcdefghijklmnopqrstuvwxy"), some (.ref st.nxt), x4, x5, x6, x7] ∧ s = st.new (.lst (zs.map T)))
  (rng3W 0 3 (Builtin.Range.rangeSize 0 ((m : Int) - 1) 3).toNat) _ _ ⟨zs1, l1, n1, x4, x5, x6, x7, rfl, rfl⟩ (fun x hx Γ s ⟨zs, l, n, x4, x5, x6, x7, hΓ, hs⟩ => by
   subst hΓ hs
   obtain ⟨j, rfl, hj⟩ := hi x hx
   obtain ⟨zs', l', n', e⟩ := names_turn2 c (some (.int m)) st zs n j (by omega) x5 x6 x7
   exact ⟨_, _, e, zs', by omega, n', _, _, _, _, rfl, rfl⟩)
 refine ⟨zs2, l2, n2, ?_⟩
 unfold op_l_names
 rw [ev_op2]
 unfold r_l_names
 have f1 : runRng1 (rVar 1) [some (.int c), some (.int m), some (.str "abcdefghijklmnopqrstuvwxy"), some (.ref st.nxt), none, none, none, none] (st.new (.lst [])) = .ok (rangeW 0 m) (st.new (.lst [])) := by
  have := ev_rng1 (Γ := [some (.int c), some (.int m), some (.str "abcdefghijklmnopqrstuvwxy"), some (.ref st.nxt), none, none, none, none]) (st := st.new (.lst [])) (rVar 1) (m : Int) rfl (by omega) (by omega)
  rwa [Int.toNat_natCast] at this
 have f2 := ev_rng3 (rr := runsCons (rCon (W.int 0)) (runsCons (run2 (rVar 1) (rCon (W.int 1)) opSub) (runsCons (rCon (W.int 3)) runsNil))) (Γ := [some (.int c), some (.int m), some (.str "abcdefghijklmnopqrstuvwxy"), some (.ref st.nxt), x4, x5, x6, x7]) (st := st.new (.lst (zs1.map T))) (i := 0) (j := (m : Int) - 1) (d := 3) rfl hr
 have f0 : runN runsNil (opL true) [some (.int c), some (.int m), some (.str "abcdefghijklmnopqrstuvwxy"), none, none, none, none, none] st = .ok (.ref st.nxt) (st.new (.lst [])) := rfl
 rw [show List.replicate (8 - 2) (none : Option W) = [none, none, none, none, none, none] from rfl, ev_seq, e_set, ev_con, ev_ok, ks2, ev_ok, kSeq_nx, ev_seq, e_set, f0, ev_ok, ks3, ev_ok, kSeq_nx, ev_seq, e_for, f1, ev_ok, kFor_]
 unfold nBody at e1
 unfold nBody2 at e2
 rw [e1, ev_ok, kSeq_nx, ev_seq, e_for, f2, ev_ok, kFor_]
 rw [e2, ev_ok, kSeq_nx, ev_seq, e_ret, ev_v3, ev_ok, kRet_, ev_ok, kSeq_rt, ev_rtK, keep_T]
end DL.My
namespace DL.My
open PySem L2
def Fr (z : List Nat) : Prop := ∃ g r, z = g :: r ∧ greatC g ∧ (∀ c ∈ r, smallC c) ∧ r.length ≤ 7
theorem q6 : W.str "qrstuv" = T (List.range' 113 6) := congrArg W.str (cp_ext (by rw [cp_mk]; decide +kernel))
theorem comp_mapN {src : Src} {cap : List Nat} {re : Run} {Γ : Ga} {st : S} {items : List W} (f : W → W) (hs : src Γ st = .ok items st) (hl : items.length < sizeLine) (h : ∀ x ∈ items, re (some x :: capG cap Γ) st = .ok (f x) st) :
  runComp true src cap (rCon (.bl true)) re Γ st = .ok (.ref st.nxt) (st.new (.lst (items.map f))) := by
 unfold runComp
 rw [hs, ev_ok, if_pos hl, compGo_map f items [] h, ev_ok, List.nil_append]
 exact if_pos (by rw [List.length_map]; exact Nat.le_of_lt hl)
theorem frees_ok (c : Int) (st : S) : ∃ f0 f1 f2 f3 : List Nat, Fr f0 ∧ Fr f1 ∧ Fr f2 ∧ Fr f3 ∧ f0 ≠ f3 ∧ f1 ≠ f3 ∧ f2 ≠ f3 ∧ op_l_frees [.int c, .int 4] st = .ok (.lst ([f0, f1, f2, f3].map T)) st := by
 obtain ⟨m0, m1⟩ := mod_lt c 6 (by decide)
 obtain ⟨tl, l3, s3, h3⟩ := joinT (src := runRng1 (run2 (rVar 0) (rCon (W.int 6)) opMod)) (cap := [0]) (re := run2 (rCon (W.str "abcdefghijklmnopqrstuvwxyz")) (run2 (run2 (run2 (rVar 1) (rCon (W.int 26)) opDiv) (run2 (rCon (W.int 5)) (rVar 0) opMul) opAdd) (rCon (W.int 26)) opMod) opIdx)
  (Γ := [some (.int c), some (.int 4), some (.str "ABCDEFGHIJKLMNOPQRSTUVWXYZ"), none, none, none, none, none]) (st := st) (n := (c % 6).toNat)
  (ev_rng1 _ _ (by simp only [EV, Nat.reduceSub, show (0 : Int) < 6 by decide]) (by omega) (by omega)) (by omega) (fun j hj => by
   obtain ⟨n0, n1⟩ := mod_lt (c / 26 + 5 * (j : Int)) 26 (by decide)
   refine ⟨_, ?_, abc_letter (a := 97) (n := 26) (i := (c / 26 + 5 * (j : Int)) % 26) (by rw [← s26]; rfl) ?_ n0 n1 (by decide)⟩
   ·unfold smallC; omega
   ·show run2 (run2 (run2 (rVar 1) (rCon (W.int 26)) opDiv) (run2 (rCon (W.int 5)) (rVar 0) opMul) opAdd) (rCon (W.int 26)) opMod [some (.int j), some (.int c)] st = _
    simp only [EV, Nat.reduceSub, show (0 : Int) < 26 by decide, show (26 : Int) < 1073741824 by decide, ev_mulL 5 (j : Int) (by decide) (by decide)])
 have lt : tl.length ≤ 5 := by omega
 obtain ⟨a0, a1⟩ := mod_lt (c / 6) ((tl.length : Int) + 1) (by omega)
 have h4 : run2 (run2 (rVar 0) (rCon (W.int 6)) opDiv) (run2 (runN (runsCons (rVar 3) runsNil) opLen) (rCon (W.int 1)) opAdd) opMod [some (.int c), some (.int 4), some (.str "ABCDEFGHIJKLMNOPQRSTUVWXYZ"), some (T tl), none, none, none, none] st = .ok (.int ((c / 6) % ((tl.length : Int) + 1))) st := by
  have e := lenT (ra := rVar 3) (Γ := [some (.int c), some (.int 4), some (.str "ABCDEFGHIJKLMNOPQRSTUVWXYZ"), some (T tl), none, none, none, none]) (st := st) (xs := tl) rfl (by omega)
  rw [ev_run2, ev_run2, ev_v0, ev_ok, ev_con, ev_ok, ev_divI _ _ (by decide) (by decide), ev_ok, ev_run2, e, ev_ok, ev_con, ev_ok, ev_addI, ev_ok, ev_modI _ _ (by omega)]
 generalize ha : ((c / 6) % ((tl.length : Int) + 1)).toNat = a at *
 have ea : (c / 6) % ((tl.length : Int) + 1) = (a : Int) := by omega
 rw [ea] at h4
 obtain ⟨b0, b1⟩ := mod_lt (c / 156) 2 (by decide)
 obtain ⟨g, gd⟩ : ∃ g : Nat → Nat, ∀ k : Nat, g k = 65 + ((c + (k : Int) * (c / 156 % 2)) % 26).toNat := ⟨_, fun _ => rfl⟩
 have hg : ∀ k, greatC (g k) := fun k => by
  obtain ⟨n0, n1⟩ := mod_lt (c + (k : Int) * (c / 156 % 2)) 26 (by decide)
  rw [gd]
  show 65 ≤ 65 + _ ∧ 65 + _ ≤ 90
  omega
 have h5 := comp_map (cap := [0, 2]) (src := runRng1 (rVar 1)) (re := run2 (rVar 2) (run2 (run2 (rVar 1) (run2 (rVar 0) (run2 (run2 (rVar 1) (rCon (W.int 156)) opDiv) (rCon (W.int 2)) opMod) opMul) opAdd) (rCon (W.int 26)) opMod) opIdx)
  (Γ := [some (.int c), some (.int 4), some (.str "ABCDEFGHIJKLMNOPQRSTUVWXYZ"), some (T tl), some (.int a), none, none, none]) (st := st) (items := rangeW 0 4) (fun w => match w with | .int k => T [g k.toNat] | w => w)
  (ev_rng1 (rVar 1) 4 rfl (by decide) (by decide)) (by rw [len_rangeW]; decide) (fun x hx => by
   obtain ⟨k, hk, rfl⟩ := mem_rangeW hx
   obtain ⟨n0, n1⟩ := mod_lt (c + (k : Int) * (c / 156 % 2)) 26 (by decide)
   show _ = R.ok (T [g ((k : Int)).toNat]) st
   rw [Int.toNat_natCast, gd]
   refine abc_letter (a := 65) (n := 26) (i := (c + (k : Int) * (c / 156 % 2)) % 26) (by rw [← g26]; rfl) ?_ n0 n1 (by decide)
   show run2 (run2 (rVar 1) (run2 (rVar 0) (run2 (run2 (rVar 1) (rCon (W.int 156)) opDiv) (rCon (W.int 2)) opMod) opMul) opAdd) (rCon (W.int 26)) opMod [some (.int k), some (.int c), some (.str "ABCDEFGHIJKLMNOPQRSTUVWXYZ")] st = _
   simp only [EV, Nat.reduceSub, show (0 : Int) < 156 by decide, show (156 : Int) < 1073741824 by decide, show (0 : Int) < 2 by decide, show (0 : Int) < 26 by decide, ev_mulR (k : Int) (c / 156 % 2) (by omega) (by omega)])
 have e5 : ((rangeW 0 4).map fun w => match w with | .int k => T [g k.toNat] | w => w) = [T [g 0], T [g 1], T [g 2], T [g 3]] := rfl
 rw [e5] at h5
 obtain ⟨F, hF⟩ : ∃ F : Nat → List Nat, ∀ k : Nat, F k = g k :: mid tl a [113 + k] := ⟨_, fun _ => rfl⟩
 have h6 := comp_mapN (cap := [4, 5, 3]) (src := runRng1 (rVar 1)) (re := run2 (run2 (run2 (run2 (rVar 2) (rVar 0) opIdx) (runSlNS false (rVar 3) (rVar 1)) opAdd) (run2 (rCon (W.str "qrstuv")) (rVar 0) opIdx) opAdd) (runSlSN false (rVar 3) (rVar 1)) opAdd)
  (Γ := [some (.int c), some (.int 4), some (.str "ABCDEFGHIJKLMNOPQRSTUVWXYZ"), some (T tl), some (.int a), some (.lst [T [g 0], T [g 1], T [g 2], T [g 3]]), none, none]) (st := st) (items := rangeW 0 4) (fun w => match w with | .int k => T (F k.toNat) | w => w)
  (ev_rng1 (rVar 1) 4 rfl (by decide) (by decide)) (by rw [len_rangeW]; decide) (fun x hx => by
   obtain ⟨k, hk, rfl⟩ := mem_rangeW hx
   show run2 (run2 (run2 (run2 (rVar 2) (rVar 0) opIdx) (runSlNS false (rVar 3) (rVar 1)) opAdd) (run2 (rCon (W.str "qrstuv")) (rVar 0) opIdx) opAdd) (runSlSN false (rVar 3) (rVar 1)) opAdd [some (.int k), some (.int a), some (.lst [T [g 0], T [g 1], T [g 2], T [g 3]]), some (T tl)] st = .ok (T (F ((k : Int)).toNat)) st
   rw [Int.toNat_natCast, show F k = [g k] ++ tl.take a ++ [113 + k] ++ tl.drop a by rw [hF]; unfold mid; simp]
   have q0 : run2 (rVar 2) (rVar 0) opIdx [some (.int k), some (.int a), some (.lst [T [g 0], T [g 1], T [g 2], T [g 3]]), some (T tl)] st = .ok (T [g k]) st := by
    rw [ev_run2, ev_v2, ev_ok, ev_v0, ev_ok]
    refine ev_idxL _ _ _ (at_nat _ _ _ ?_)
    match k, hk with
    | 0, _ => rfl
    | 1, _ => rfl
    | 2, _ => rfl
    | 3, _ => rfl
   have q1 := hiT (ra := rVar 3) (rb := rVar 1) (Γ := [some (.int k), some (.int a), some (.lst [T [g 0], T [g 1], T [g 2], T [g 3]]), some (T tl)]) (st := st) (xs := tl) (k := a) rfl rfl (by omega)
   have q2 := loT (ra := rVar 3) (rb := rVar 1) (Γ := [some (.int k), some (.int a), some (.lst [T [g 0], T [g 1], T [g 2], T [g 3]]), some (T tl)]) (st := st) (xs := tl) (k := a) rfl rfl (by omega)
   have q3 := addT q0 q1 (by rw [List.length_take, List.length_singleton]; omega)
   have q4 := abc_letter (ra := rCon (W.str "qrstuv")) (rb := rVar 0) (Γ := [some (.int k), some (.int a), some (.lst [T [g 0], T [g 1], T [g 2], T [g 3]]), some (T tl)]) (st := st) (a := 113) (n := 6) (i := k) (by rw [← q6]; rfl) rfl (by omega) (by omega) (by decide)
   rw [show ((k : Int)).toNat = k by omega] at q4
   have q5 := addT q3 q4 (by rw [List.length_append, List.length_take, List.length_singleton, List.length_singleton]; omega)
   exact addT q5 q2 (by rw [List.length_append, List.length_append, List.length_take, List.length_singleton, List.length_singleton, List.length_drop]; omega))
 have e6 : ((rangeW 0 4).map fun w => match w with | .int k => T (F k.toNat) | w => w) = [F 0, F 1, F 2, F 3].map T := rfl
 rw [e6] at h6
 have fr : ∀ k, k < 4 → Fr (F k) := fun k hk => ⟨g k, mid tl a [113 + k], hF k, hg k, fun x hx => (mid_mem hx).elim (s3 x) fun h => by
  rw [List.mem_singleton.mp h]; unfold smallC; omega, by rw [mid_len, List.length_singleton]; omega⟩
 have ne : ∀ k, k < 3 → F k ≠ F 3 := fun k hk e => by
  rw [hF, hF] at e
  have e2 := (List.cons.inj e).2
  unfold mid at e2
  rw [List.append_assoc, List.append_assoc] at e2
  have e3 := List.append_cancel_left e2
  have e4 := (List.cons.inj e3).1
  omega
 have lF : ∀ k, (F k).length = tl.length + 2 := fun k => by rw [hF, List.length_cons, mid_len, List.length_singleton]
 have fin : ∀ (zs : List (List Nat)) (x7 : Option W) (f1 : List Nat), zs = [F 0, f1, F 2, F 3] → Fr f1 → f1 ≠ F 3 →
   ∃ zs' : List (List Nat), (∃ f1', zs' = [F 0, f1', F 2, F 3] ∧ Fr f1' ∧ f1' ≠ F 3) ∧
    sSeq (sSet 7 (run2 (runSlNS false (run2 (rVar 6) (rCon (W.int 0)) opIdx) (rCon (W.int 1))) (runRevH false (run2 (rVar 6) (rCon (W.int 0)) opIdx) (rCon (W.int 0))) opAdd))
     (sSeq (sIf (runAnd (run2 (run2 (rVar 0) (rCon (W.int 7)) opMod) (rCon (W.int 5)) opEq) (run2 (rVar 7) (rVar 6) opNotIn))
      (sSeq (sSetIx (rVar 6) (rCon (W.int 1)) (rVar 7)) sPass) sPass) (sSeq (sRet (rVar 6)) sPass))
     [some (.int c), some (.int 4), some (.str "ABCDEFGHIJKLMNOPQRSTUVWXYZ"), some (T tl), some (.int a), some (.lst [T [g 0], T [g 1], T [g 2], T [g 3]]), some (.ref st.nxt), x7] (st.new (.lst (zs.map T))) = .ok (.rt (.ref st.nxt)) (st.new (.lst (zs'.map T))) := by
  intro zs x7 f1 ez h1 h2
  have i0 : ∀ y7 : Option W, run2 (rVar 6) (rCon (W.int 0)) opIdx [some (.int c), some (.int 4), some (.str "ABCDEFGHIJKLMNOPQRSTUVWXYZ"), some (T tl), some (.int a), some (.lst [T [g 0], T [g 1], T [g 2], T [g 3]]), some (.ref st.nxt), y7] (st.new (.lst (zs.map T))) = .ok (T (F 0)) (st.new (.lst (zs.map T))) := fun y7 => by
   rw [ev_run2, ev_v6, ev_ok, ev_con, ev_ok]
   exact idxL (k := 0) st (by rw [ez]; rfl)
  have l0 := lF 0
  have q1 := hiT (rb := rCon (W.int 1)) (k := 1) (i0 x7) rfl (by omega)
  have q2 : runRevH false (run2 (rVar 6) (rCon (W.int 0)) opIdx) (rCon (W.int 0)) [some (.int c), some (.int 4), some (.str "ABCDEFGHIJKLMNOPQRSTUVWXYZ"), some (T tl), some (.int a), some (.lst [T [g 0], T [g 1], T [g 2], T [g 3]]), some (.ref st.nxt), x7] (st.new (.lst (zs.map T))) = .ok (T ((F 0).drop 1).reverse) (st.new (.lst (zs.map T))) := by
   rw [ev_revH, i0, ev_ok, ev_con, ev_ok]
   exact rev0T false (F 0) _ (by omega)
  have q3 := addT q1 q2 (by rw [List.length_take, List.length_reverse, List.length_drop]; omega)
  have etu : (F 0).take 1 ++ ((F 0).drop 1).reverse = g 0 :: (mid tl a [113 + 0]).reverse := by rw [hF]; rfl
  rw [etu] at q3
  have ftu : Fr (g 0 :: (mid tl a [113 + 0]).reverse) := ⟨_, _, rfl, hg 0, fun x hx => (mid_mem (List.mem_reverse.mp hx)).elim (s3 x) fun h => by
   rw [List.mem_singleton.mp h]; unfold smallC; omega, by rw [List.length_reverse, mid_len, List.length_singleton]; omega⟩
  generalize (g 0 :: (mid tl a [113 + 0]).reverse) = tu at q3 ftu
  have e0 : run2 (run2 (rVar 0) (rCon (W.int 7)) opMod) (rCon (W.int 5)) opEq [some (.int c), some (.int 4), some (.str "ABCDEFGHIJKLMNOPQRSTUVWXYZ"), some (T tl), some (.int a), some (.lst [T [g 0], T [g 1], T [g 2], T [g 3]]), some (.ref st.nxt), some (T tu)] (st.new (.lst (zs.map T))) = .ok (.bl (c % 7 == 5)) (st.new (.lst (zs.map T))) := by
   simp only [EV, Nat.reduceSub, show (0 : Int) < 7 by decide]
  by_cases hc : (c % 7 == 5) = true ∧ tu ∉ zs
  ·refine ⟨zs.set 1 tu, ⟨tu, by rw [ez]; rfl, ftu, fun e => hc.2 (by rw [ez, e]; simp)⟩, ?_⟩
   rw [ev_seq, e_set, q3, ev_ok, ks7, ev_ok, kSeq_nx, ev_seq, ev_if, ev_and, e0, ev_ok, kIf_bl, hc.1, if_pos rfl, ev_run2, ev_v7, ev_ok, ev_v6, ev_ok, notInL, decide_eq_true hc.2, ev_ok, kIf_bl, if_pos rfl, ev_seq, ev_setIx, ev_v7, ev_ok, ev_v6, ev_ok, ev_con, ev_ok,
    show W.int 1 = W.int ((1 : Nat) : Int) from rfl, setL tu st (by rw [ez]; show 1 < 4; decide), ev_ok]
   rfl
  ·refine ⟨zs, ⟨f1, ez, h1, h2⟩, ?_⟩
   rw [ev_seq, e_set, q3, ev_ok, ks7, ev_ok, kSeq_nx, ev_seq, ev_if, ev_and, e0, ev_ok, kIf_bl]
   cases hb : c % 7 == 5 with
   | false => rw [if_neg Bool.false_ne_true]; rfl
   | true => rw [if_pos rfl, ev_run2, ev_v7, ev_ok, ev_v6, ev_ok, notInL, decide_eq_false (fun h => hc ⟨hb, h⟩), ev_ok, kIf_bl, if_neg Bool.false_ne_true]; rfl
 have g0 : run2 (run2 (rVar 0) (rCon (W.int 7)) opMod) (rCon (W.int 3)) opEq [some (.int c), some (.int 4), some (.str "ABCDEFGHIJKLMNOPQRSTUVWXYZ"), some (T tl), some (.int a), some (.lst [T [g 0], T [g 1], T [g 2], T [g 3]]), some (.ref st.nxt), none] (st.new (.lst ([F 0, F 1, F 2, F 3].map T))) = .ok (.bl (c % 7 == 3)) (st.new (.lst ([F 0, F 1, F 2, F 3].map T))) := by
  simp only [EV, Nat.reduceSub, show (0 : Int) < 7 by decide]
 have out : ∀ zs' : List (List Nat), (∃ f1', zs' = [F 0, f1', F 2, F 3] ∧ Fr f1' ∧ f1' ≠ F 3) → op_l_frees [.int c, .int 4] st = .ok (.lst (zs'.map T)) st →
   ∃ f0 f1 f2 f3 : List Nat, Fr f0 ∧ Fr f1 ∧ Fr f2 ∧ Fr f3 ∧ f0 ≠ f3 ∧ f1 ≠ f3 ∧ f2 ≠ f3 ∧ op_l_frees [.int c, .int 4] st = .ok (.lst ([f0, f1, f2, f3].map T)) st := by
  rintro zs' ⟨f1, rfl, h1, h2⟩ e
  exact ⟨F 0, f1, F 2, F 3, fr 0 (by decide), h1, fr 2 (by decide), fr 3 (by decide), ne 0 (by decide), h2, ne 2 (by decide), e⟩
 cases hb : c % 7 == 3 with
 | true =>
  obtain ⟨zs', hz, e⟩ := fin [F 0, F 0 ++ [119], F 2, F 3] none (F 0 ++ [119]) rfl (by
   rw [hF]
   exact ⟨g 0, mid tl a [113 + 0] ++ [119], rfl, hg 0, fun x hx => (List.mem_append.mp hx).elim (fun h => (mid_mem h).elim (s3 x) fun h => by rw [List.mem_singleton.mp h]; unfold smallC; omega) fun h => by rw [List.mem_singleton.mp h]; unfold smallC; omega, by rw [List.length_append, mid_len, List.length_singleton, List.length_singleton]; omega⟩)
   (fun e => by have h := congrArg List.length e; rw [List.length_append, lF, lF, List.length_singleton] at h; omega)
  refine out zs' hz ?_
  have i0 : run2 (run2 (rVar 6) (rCon (W.int 0)) opIdx) (rCon (W.str "w")) opAdd [some (.int c), some (.int 4), some (.str "ABCDEFGHIJKLMNOPQRSTUVWXYZ"), some (T tl), some (.int a), some (.lst [T [g 0], T [g 1], T [g 2], T [g 3]]), some (.ref st.nxt), none] (st.new (.lst ([F 0, F 1, F 2, F 3].map T))) = .ok (T (F 0 ++ [119])) (st.new (.lst ([F 0, F 1, F 2, F 3].map T))) := by
   refine addT (ys := [119]) ?_ rfl (by rw [lF, List.length_singleton]; omega)
   rw [ev_run2, ev_v6, ev_ok, ev_con, ev_ok]
   exact idxL (k := 0) st rfl
  have st1 := setL (zs := [F 0, F 1, F 2, F 3]) (k := 1) (F 0 ++ [119]) st (by show 1 < 4; decide)
  unfold op_l_frees
  rw [ev_op2]
  unfold r_l_frees
  rw [show List.replicate (8 - 2) (none : Option W) = [none, none, none, none, none, none] from rfl, ev_seq, e_set, ev_con, ev_ok, ks2, ev_ok, kSeq_nx, ev_seq, e_set, h3, ev_ok, ks3, ev_ok, kSeq_nx, ev_seq, e_set, h4, ev_ok, ks4, ev_ok, kSeq_nx, ev_seq, e_set, h5, ev_ok, ks5, ev_ok, kSeq_nx, ev_seq, e_set, h6, ev_ok, ks6, ev_ok, kSeq_nx,
   ev_seq, ev_if, g0, ev_ok, kIf_bl, hb, if_pos rfl, ev_seq, ev_setIx, i0, ev_ok, ev_v6, ev_ok, ev_con, ev_ok, show W.int 1 = W.int ((1 : Nat) : Int) from rfl, st1, ev_ok, ev_ok, kSeq_nx, ev_pass, ev_ok, kSeq_nx]
  rw [show W.int ((1 : Nat) : Int) = W.int 1 from rfl, show [F 0, F 1, F 2, F 3].set 1 (F 0 ++ [119]) = [F 0, F 0 ++ [119], F 2, F 3] from rfl, e, ev_rtK, keep_T]
 | false =>
  obtain ⟨zs', hz, e⟩ := fin [F 0, F 1, F 2, F 3] none (F 1) rfl (fr 1 (by decide)) (ne 1 (by decide))
  refine out zs' hz ?_
  unfold op_l_frees
  rw [ev_op2]
  unfold r_l_frees
  rw [show List.replicate (8 - 2) (none : Option W) = [none, none, none, none, none, none] from rfl, ev_seq, e_set, ev_con, ev_ok, ks2, ev_ok, kSeq_nx, ev_seq, e_set, h3, ev_ok, ks3, ev_ok, kSeq_nx, ev_seq, e_set, h4, ev_ok, ks4, ev_ok, kSeq_nx, ev_seq, e_set, h5, ev_ok, ks5, ev_ok, kSeq_nx, ev_seq, e_set, h6, ev_ok, ks6, ev_ok, kSeq_nx,
   ev_seq, ev_if, g0, ev_ok, kIf_bl, hb, if_neg Bool.false_ne_true, ev_pass, ev_ok, kSeq_nx, e, ev_rtK, keep_T]
end DL.My
namespace DL.My
open PySem L2
inductive At : W → Prop
 | int (i : Int) : At (.int i)
 | txt (z : List Nat) : z.length ≤ 100 → At (T z)
noncomputable def weq (a b : W) : Bool := @decide (a = b) (Classical.propDecidable _)
theorem weq_iff {a b : W} : weq a b = true ↔ a = b := by unfold weq; exact @decide_eq_true_iff _ (Classical.propDecidable _)
theorem weq_self (a : W) : weq a a = true := weq_iff.mpr rfl
theorem weq_dec {a b : W} {p : Prop} [Decidable p] (h : a = b ↔ p) : weq a b = decide p := by
 by_cases hp : p
 ·rw [decide_eq_true hp]; exact weq_iff.mpr (h.mpr hp)
 ·rw [decide_eq_false hp]
  cases e : weq a b with
  | false => rfl
  | true => exact absurd (h.mp (weq_iff.mp e)) hp
theorem eqD_At (k : Nat) {a b : W} (ha : At a) (hb : At b) : eqD (k + 1) a b = some (weq a b) := by
 cases ha with
 | int i =>
  cases hb with
  | int j =>
   have e : weq (.int i) (.int j) = (i == j) := by
    rw [weq_dec (p := i = j) ⟨fun h => W.int.inj h, fun h => congrArg W.int h⟩]
    by_cases h : i = j <;> simp [h]
   rw [e]; rfl
  | txt z hz => rw [weq_dec (a := .int i) (b := T z) (p := False) ⟨fun h => (by unfold T at h; cases h), False.elim⟩]; rfl
 | txt z hz =>
  cases hb with
  | int j => rw [weq_dec (a := T z) (b := .int j) (p := False) ⟨fun h => (by unfold T at h; cases h), False.elim⟩]; rfl
  | txt y hy => rw [T_eqD, weq_dec (p := z = y) ⟨fun h => T_inj h, fun h => congrArg T h⟩]
theorem eqW_At {a b : W} (st : S) (ha : At a) (hb : At b) : eqW st a b = some (weq a b) := by
 have e1 : eqDct st a b = none := by
  unfold eqDct
  have : dctOf st a = none := by cases ha <;> rfl
  rw [this]
 unfold eqW
 rw [e1, eqD_At 11 ha hb]
theorem ne_At {a b : W} (st : S) (ha : At a) (hb : At b) : opNe a b st = .ok (.bl (!weq a b)) st := by
 unfold opNe
 rw [eqW_At st ha hb]
theorem frz_At {N k : Nat} {mu : Nat → Option MO} {a : W} (h : At a) : frz N mu (k + 1) a = some a := by cases h <;> rfl
theorem frzs_At {N k : Nat} {mu : Nat → Option MO} : ∀ {ws : List W}, (∀ w ∈ ws, At w) → frzs (frz N mu (k + 1)) ws = some ws
 | [], _ => rfl
 | w :: ws, h => by
  show (match frz N mu (k + 1) w, frzs (frz N mu (k + 1)) ws with | some y, some ys => some (y :: ys) | _, _ => none) = _
  rw [frz_At (h w List.mem_cons_self), frzs_At fun x hx => h x (List.mem_cons_of_mem _ hx)]
theorem th_At {a : W} (h : At a) : Th a := by
 cases h with
 | int i => exact .int i
 | txt z hz => exact .str _ (by rw [len_mk]; exact hz)
def keyOf : W → Key
 | .int i => .inl i
 | .str x => .inr x
 | _ => .inl 0
theorem keyW_At {a : W} (h : At a) : keyW a = some (keyOf a) := by cases h <;> rfl
theorem keyOf_inj {a b : W} (ha : At a) (hb : At b) (h : keyOf a = keyOf b) : a = b := by
 cases ha <;> cases hb <;> first | (cases h; done) | (cases h; rfl)
structure DOk (n : Nat) (ks : List Key) (vs : List W) : Prop where
 len : ks.length = vs.length
 most : ks.length ≤ n
 nd : ks.Nodup
 at_ : ∀ v ∈ vs, At v
theorem valW_none : ∀ {ks : List Key} {vs : List W} {k : Key}, ks.length = vs.length → (valW ks vs k = none ↔ k ∉ ks)
 | [], [], _, _ => by simp [valW]
 | j :: ks, v :: vs, k, h => by
  have ih := valW_none (k := k) (show ks.length = vs.length by simpa using h)
  by_cases e : j = k
  ·subst e; simp [valW]
  ·have : valW (j :: ks) (v :: vs) k = valW ks vs k := if_neg e
   rw [this, ih, List.mem_cons]
   exact ⟨fun h z => z.elim (fun q => e q.symm) h, fun h z => h (.inr z)⟩
theorem valW_mem : ∀ {ks : List Key} {vs : List W} {k : Key} {v : W}, valW ks vs k = some v → v ∈ vs
 | [], _, _, _, h => by unfold valW at h; cases h
 | j :: ks, [], _, _, h => by unfold valW at h; cases h
 | j :: ks, w :: vs, k, v, h => by
  by_cases e : j = k
  ·have h' : (if j = k then some w else valW ks vs k) = some v := h
   rw [if_pos e] at h'; cases h'; exact List.mem_cons_self
  ·have h' : (if j = k then some w else valW ks vs k) = some v := h
   rw [if_neg e] at h'; exact List.mem_cons_of_mem _ (valW_mem h')
theorem valW_app : ∀ {ks : List Key} {vs : List W} {k : Key} {v : W} (j : Key), ks.length = vs.length → k ∉ ks → valW (ks ++ [k]) (vs ++ [v]) j = if j = k then some v else valW ks vs j
 | [], [], k, v, j, _, _ => by
  show (if k = j then some v else valW [] [] j) = _
  by_cases e : j = k
  ·rw [if_pos e, if_pos e.symm]
  ·rw [if_neg e, if_neg (fun h => e h.symm)]
 | i :: ks, w :: vs, k, v, j, h, hk => by
  have ih := valW_app (v := v) j (show ks.length = vs.length by simpa using h) (fun h => hk (List.mem_cons_of_mem _ h))
  show (if i = j then some w else valW (ks ++ [k]) (vs ++ [v]) j) = if j = k then some v else (if i = j then some w else valW ks vs j)
  rw [ih]
  by_cases e : i = j
  ·rw [if_pos e, if_pos e, if_neg (fun h => hk (by rw [← h, ← e]; exact List.mem_cons_self))]
  ·rw [if_neg e, if_neg e]
theorem hasK_iff (k : Key) (ks : List Key) : hasK k ks = true ↔ k ∈ ks := by
 induction ks with
 | nil => simp [hasK]
 | cons j ks ih => simp [hasK]; exact ⟨fun h => h.imp Eq.symm id, fun h => h.imp Eq.symm id⟩
theorem putW_new {ks : List Key} {vs : List W} {k : Key} {v : W} (h : k ∉ ks) : putW ks vs k v = (ks ++ [k], vs ++ [v]) := by
 unfold putW
 rw [if_neg (fun z => h ((hasK_iff k ks).mp z))]
theorem DOk.put {n : Nat} {ks : List Key} {vs : List W} {k : Key} {v : W} (h : DOk n ks vs) (hk : k ∉ ks) (hv : At v) : DOk (n + 1) (ks ++ [k]) (vs ++ [v]) :=
  ⟨by rw [List.length_append, List.length_append, h.len]; rfl, by rw [List.length_append]; have := h.most; show ks.length + 1 ≤ n + 1; omega,
   by rw [List.nodup_append]; exact ⟨h.nd, by simp, fun a ha b hb e => hk (by rw [← List.mem_singleton.mp hb, ← e]; exact ha)⟩,
   fun w hw => (List.mem_append.mp hw).elim (h.at_ w) fun z => by rw [List.mem_singleton.mp z]; exact hv⟩
theorem DOk.mono {n m : Nat} {ks : List Key} {vs : List W} (h : DOk n ks vs) (hm : n ≤ m) : DOk m ks vs := ⟨h.len, Nat.le_trans h.most hm, h.nd, h.at_⟩
theorem eqVals_self {ks : List Key} {ws : List W} : ∀ {js : List Key} {vs : List W}, (∀ p ∈ js.zip vs, valW ks ws p.1 = some p.2) → (∀ v ∈ vs, At v) → eqVals ks ws js vs = some true
 | [], _, _, _ => by unfold eqVals; rfl
 | _ :: _, [], _, _ => by unfold eqVals; rfl
 | j :: js, v :: vs, h, ha => by
  have h1 := h (j, v) (by simp)
  have ih := eqVals_self (ks := ks) (ws := ws) (js := js) (vs := vs) (fun p hp => h p (by rw [List.zip_cons_cons]; exact List.mem_cons_of_mem _ hp)) fun w hw => ha w (List.mem_cons_of_mem _ hw)
  unfold eqVals
  rw [h1]
  show (match eqD 12 v v, eqVals ks ws js vs with | some a, some b => some (a && b) | _, _ => none) = _
  rw [eqD_At 11 (ha v List.mem_cons_self) (ha v List.mem_cons_self), ih, weq_self]; rfl
theorem valW_zip : ∀ {ks : List Key} {vs : List W}, ks.Nodup → ∀ p ∈ ks.zip vs, valW ks vs p.1 = some p.2
 | [], _, _, p, h => by simp at h
 | _ :: _, [], _, p, h => by simp at h
 | k :: ks, v :: vs, nd, p, h => by
  rw [List.zip_cons_cons] at h
  rcases List.mem_cons.mp h with e | h
  ·rw [e]; exact if_pos rfl
  ·have hk : k ∉ ks := (List.nodup_cons.mp nd).1
   have hm : p.1 ∈ ks := (List.of_mem_zip (show (p.1, p.2) ∈ ks.zip vs from h)).1
   show (if k = p.1 then some v else valW ks vs p.1) = _
   rw [if_neg (fun e => hk (by rw [e]; exact hm))]
   exact valW_zip (List.nodup_cons.mp nd).2 p h
theorem eqDct_self {n : Nat} {st : S} {a b : W} {ks : List Key} {vs : List W} (ha : dctOf st a = some (ks, vs)) (hb : dctOf st b = some (ks, vs)) (h : DOk n ks vs) : eqW st a b = some true := by
 unfold eqW eqDct
 rw [ha, hb]
 show (match (eqVals ks vs ks vs).map fun r => ks.length == ks.length && r with | some c => some c | none => _) = _
 rw [eqVals_self (valW_zip h.nd) h.at_]
 simp
theorem ne_D {n : Nat} {st : S} {a b : W} {ks : List Key} {vs : List W} (ha : dctOf st a = some (ks, vs)) (hb : dctOf st b = some (ks, vs)) (h : DOk n ks vs) : opNe a b st = .ok (.bl false) st := by
 unfold opNe
 rw [eqDct_self ha hb h]; rfl
theorem eq_D {n : Nat} {st : S} {a b : W} {ks : List Key} {vs : List W} (ha : dctOf st a = some (ks, vs)) (hb : dctOf st b = some (ks, vs)) (h : DOk n ks vs) : opEq a b st = .ok (.bl true) st := by
 unfold opEq
 rw [eqDct_self ha hb h]
theorem dctOf_new (st : S) (ks : List Key) (vs : List W) : dctOf (st.new (.dct ks vs)) (.ref st.nxt) = some (ks, vs) := by
 show (match (st.new (.dct ks vs)).mu st.nxt with | some (.dct ks ws) => some (ks, ws) | _ => none) = _
 rw [new_at]
theorem cut1 (x : W) (xs : List W) : cutW (x :: xs) (some 1) none = xs := by
 unfold cutW
 rw [show (some (1 : Int)) = some ((1 : Nat) : Int) from rfl, HT.sIx_nat, HT.sIx_none, List.length_cons, Nat.min_eq_left (show 1 ≤ xs.length + 1 by omega), List.drop_succ_cons, List.drop_zero]
 exact List.take_of_length_le (by omega)
noncomputable def mt : List W → List W → List Key → List W → Option (List Key × List W)
 | t :: ts, u :: us, ks, vs => if freeW t = true then (match valW ks vs (keyOf t) with
   | some v => if weq v u = true then mt ts us ks vs else none
   | none => mt ts us (ks ++ [keyOf t]) (vs ++ [u]))
  else if weq t u = true then mt ts us ks vs else none
 | _, _, ks, vs => some (ks, vs)
noncomputable def mBody : RunS := (sSeq (sSet 6 (runIf (runN (runsCons (rVar 4) runsNil) (calmOp op_is_free)) (runM "dict" (rVar 3) (runsCons (rVar 4) (runsCons (rVar 5) runsNil)) opSetd) (rVar 4)))
 (sSeq (sIf (run2 (rVar 6) (rVar 5) opNe)
  (sSeq (sRet (rCon W.non))
 sPass)
  sPass)
 sPass))
theorem setd_old {st : S} {ks : List Key} {vs : List W} {k v d : W} (hk : At k) (h : valW ks vs (keyOf k) = some v) : opSetd (.ref st.nxt) [k, d] (st.new (.dct ks vs)) = .ok v (st.new (.dct ks vs)) := by
 show (match (st.new (.dct ks vs)).mu st.nxt, keyW k with
  | some (.dct ks vs), some k => (match valW ks vs k with
   | some v => R.ok v _
   | none => _)
  | _, _ => .stuck) = _
 rw [new_at, keyW_At hk]
 show (match valW ks vs (keyOf k) with | some v => R.ok v (st.new (.dct ks vs)) | none => _) = _
 rw [h]
theorem setd_new {st : S} {ks : List Key} {vs : List W} {k d : W} (hk : At k) (hl : ks.length = vs.length) (hs : ks.length ≤ 1000) (h : valW ks vs (keyOf k) = none) : opSetd (.ref st.nxt) [k, d] (st.new (.dct ks vs)) = .ok d (st.new (.dct (ks ++ [keyOf k]) (vs ++ [d]))) := by
 show (match (st.new (.dct ks vs)).mu st.nxt, keyW k with
  | some (.dct ks vs), some k => (match valW ks vs k with
   | some v => R.ok v _
   | none => if ks.length < sizeLine then R.ok d ((st.new (.dct _ _)).put st.nxt (.dct (putW ks vs k d).1 (putW ks vs k d).2)) else .stuck)
  | _, _ => .stuck) = _
 rw [new_at, keyW_At hk]
 show (match valW ks vs (keyOf k) with | some v => R.ok v _ | none => if ks.length < sizeLine then R.ok d ((st.new (.dct ks vs)).put st.nxt (.dct (putW ks vs (keyOf k) d).1 (putW ks vs (keyOf k) d).2)) else .stuck) = _
 rw [h]
 show (if ks.length < sizeLine then R.ok d ((st.new (.dct ks vs)).put st.nxt (.dct (putW ks vs (keyOf k) d).1 (putW ks vs (keyOf k) d).2)) else .stuck) = _
 rw [if_pos (Nat.lt_of_le_of_lt hs (by decide)), new_put, putW_new ((valW_none hl).mp h)]
theorem m_turn {p0 p1 p2 : Option W} {x4 x5 x6 : Option W} {st : S} {n : Nat} {ks : List Key} {vs : List W} {t u : W} (h : DOk n ks vs) (hn : n ≤ 900) (ht : At t) (hu : At u) (Γ : Ga) (hΓ : Γ = [p0, p1, p2, some (.ref st.nxt), some t, some u, x6]) :
  (∃ ks' vs', DOk (n + 1) ks' vs' ∧ (∀ ts us, mt (t :: ts) (u :: us) ks vs = mt ts us ks' vs') ∧ ∃ y6, mBody Γ (st.new (.dct ks vs)) = .ok (.nx [p0, p1, p2, some (.ref st.nxt), some t, some u, y6]) (st.new (.dct ks' vs'))) ∨
  ((∀ ts us, mt (t :: ts) (u :: us) ks vs = none) ∧ ∃ o, mBody Γ (st.new (.dct ks vs)) = .ok (.rt .non) (st.new o)) := by
 subst hΓ
 have ef : ∀ s : S, runN (runsCons (rVar 4) runsNil) (calmOp op_is_free) [p0, p1, p2, some (.ref st.nxt), some t, some u, x6] s = .ok (.bl (freeW t)) s := fun s => by
  rw [ev_runN, ev_cons, ev_v4, ev_ok, ev_nil, ev_ok, ev_ok, ev_calmOp, is_free_W s (th_At ht)]; rfl
 have go : ∀ (w : W) (ks' : List Key) (vs' : List W), At w → runIf (runN (runsCons (rVar 4) runsNil) (calmOp op_is_free)) (runM "dict" (rVar 3) (runsCons (rVar 4) (runsCons (rVar 5) runsNil)) opSetd) (rVar 4) [p0, p1, p2, some (.ref st.nxt), some t, some u, x6] (st.new (.dct ks vs)) = .ok w (st.new (.dct ks' vs')) →
   mBody [p0, p1, p2, some (.ref st.nxt), some t, some u, x6] (st.new (.dct ks vs)) = if weq w u = true then .ok (.nx [p0, p1, p2, some (.ref st.nxt), some t, some u, some w]) (st.new (.dct ks' vs')) else .ok (.rt .non) (st.new (.dct ks' vs')) := by
  intro w ks' vs' hw e
  unfold mBody
  rw [ev_seq, e_set, e, ev_ok, ks6, ev_ok, kSeq_nx, ev_seq, ev_if, ev_run2, ev_v6, ev_ok, ev_v5, ev_ok, ne_At _ hw hu, ev_ok, kIf_bl]
  cases weq w u <;> rfl
 have hd : runM "dict" (rVar 3) (runsCons (rVar 4) (runsCons (rVar 5) runsNil)) opSetd [p0, p1, p2, some (.ref st.nxt), some t, some u, x6] (st.new (.dct ks vs)) = opSetd (.ref st.nxt) [t, u] (st.new (.dct ks vs)) := by
  unfold runM
  have hk : kindW (st.new (.dct ks vs)) (.ref st.nxt) = some "dict" := by
   show MO.kind ((st.new (.dct ks vs)).mu st.nxt) = _
   rw [new_at]; rfl
  rw [ev_v3, ev_ok, if_pos hk, ev_cons, ev_v4, ev_ok, ev_cons, ev_v5, ev_ok, ev_nil, ev_ok, ev_ok, ev_ok]
 cases hf : freeW t with
 | false =>
  have e := go t ks vs ht (by rw [ev_runIf, ef, ev_ok, kIf_bl, hf, if_neg Bool.false_ne_true]; rfl)
  cases hq : weq t u with
  | true =>
   rw [hq, if_pos rfl] at e
   exact .inl ⟨ks, vs, h.mono (Nat.le_succ n), fun ts us => by
    show (if freeW t = true then _ else if weq t u = true then mt ts us ks vs else none) = _
    rw [hf, hq]; rfl, some t, e⟩
  | false =>
   rw [hq, if_neg Bool.false_ne_true] at e
   exact .inr ⟨fun ts us => by
    show (if freeW t = true then _ else if weq t u = true then mt ts us ks vs else none) = _
    rw [hf, hq]; rfl, _, e⟩
 | true =>
  cases hv : valW ks vs (keyOf t) with
  | some v =>
   have e := go v ks vs (h.at_ v (valW_mem hv)) (by rw [ev_runIf, ef, ev_ok, kIf_bl, hf, if_pos rfl, hd, setd_old ht hv])
   cases hq : weq v u with
   | true =>
    rw [hq, if_pos rfl] at e
    exact .inl ⟨ks, vs, h.mono (Nat.le_succ n), fun ts us => by
     show (if freeW t = true then (match valW ks vs (keyOf t) with | some v => if weq v u = true then mt ts us ks vs else none | none => _) else _) = _
     rw [hf, if_pos rfl, hv]
     show (if weq v u = true then mt ts us ks vs else none) = _
     rw [hq]; rfl, some v, e⟩
   | false =>
    rw [hq, if_neg Bool.false_ne_true] at e
    exact .inr ⟨fun ts us => by
     show (if freeW t = true then (match valW ks vs (keyOf t) with | some v => if weq v u = true then mt ts us ks vs else none | none => _) else _) = _
     rw [hf, if_pos rfl, hv]
     show (if weq v u = true then mt ts us ks vs else none) = _
     rw [hq]; rfl, _, e⟩
  | none =>
   have e := go u (ks ++ [keyOf t]) (vs ++ [u]) hu (by rw [ev_runIf, ef, ev_ok, kIf_bl, hf, if_pos rfl, hd, setd_new ht h.len (by have := h.most; omega) hv])
   rw [weq_self, if_pos rfl] at e
   exact .inl ⟨_, _, h.put ((valW_none h.len).mp hv) hu, fun ts us => by
    show (if freeW t = true then (match valW ks vs (keyOf t) with | some v => _ | none => mt ts us (ks ++ [keyOf t]) (vs ++ [u])) else _) = _
    rw [hf, if_pos rfl, hv], some u, e⟩
theorem m_loop {p0 p1 p2 : Option W} {st : S} : ∀ (ts us : List W) (n : Nat) (ks : List Key) (vs : List W) (x4 x5 x6 : Option W), ts.length = us.length → n + ts.length ≤ 900 → (∀ t ∈ ts, At t) → (∀ u ∈ us, At u) → DOk n ks vs →
  (∃ ks' vs', mt ts us ks vs = some (ks', vs') ∧ DOk (n + ts.length) ks' vs' ∧ ∃ y4 y5 y6, loopZ 4 5 mBody (ts.zip us) [p0, p1, p2, some (.ref st.nxt), x4, x5, x6] (st.new (.dct ks vs)) = .ok (.nx [p0, p1, p2, some (.ref st.nxt), y4, y5, y6]) (st.new (.dct ks' vs'))) ∨
  (mt ts us ks vs = none ∧ ∃ o, loopZ 4 5 mBody (ts.zip us) [p0, p1, p2, some (.ref st.nxt), x4, x5, x6] (st.new (.dct ks vs)) = .ok (.rt .non) (st.new o))
 | [], [], n, ks, vs, x4, x5, x6, _, _, _, _, h => .inl ⟨ks, vs, by unfold mt; rfl, h, x4, x5, x6, rfl⟩
 | [], _ :: _, _, _, _, _, _, _, hl, _, _, _, _ => by simp at hl
 | _ :: _, [], _, _, _, _, _, _, hl, _, _, _, _ => by simp at hl
 | t :: ts, u :: us, n, ks, vs, x4, x5, x6, hl, hn, hts, hus, h => by
  have hl' : ts.length = us.length := by simpa using hl
  have hn' : n + (ts.length + 1) ≤ 900 := hn
  have stp : loopZ 4 5 mBody ((t :: ts).zip (u :: us)) [p0, p1, p2, some (.ref st.nxt), x4, x5, x6] (st.new (.dct ks vs)) = (mBody [p0, p1, p2, some (.ref st.nxt), some t, some u, x6] (st.new (.dct ks vs))).bind fun fl st' => match fl with
   | .nx Γ' => loopZ 4 5 mBody (ts.zip us) Γ' st'
   | .ct Γ' => loopZ 4 5 mBody (ts.zip us) Γ' st'
   | .bk Γ' => .ok (.nx Γ') st'
   | .rt w => .ok (.rt w) st' := rfl
  rcases m_turn (p0 := p0) (p1 := p1) (p2 := p2) (x4 := x4) (x5 := x5) (x6 := x6) (st := st) h (by omega) (hts t List.mem_cons_self) (hus u List.mem_cons_self) _ rfl with ⟨ks', vs', hk', hm, y6, e⟩ | ⟨hm, o, e⟩
  ·rw [e, ev_ok] at stp
   rcases m_loop ts us (n + 1) ks' vs' (some t) (some u) y6 hl' (by omega) (fun x hx => hts x (List.mem_cons_of_mem _ hx)) (fun x hx => hus x (List.mem_cons_of_mem _ hx)) hk' with ⟨k2, v2, m2, d2, z4, z5, z6, e2⟩ | ⟨m2, o, e2⟩
   ·exact .inl ⟨k2, v2, by rw [hm]; exact m2, by rw [List.length_cons, show n + (ts.length + 1) = n + 1 + ts.length by omega]; exact d2, z4, z5, z6, stp.trans e2⟩
   ·exact .inr ⟨by rw [hm]; exact m2, o, stp.trans e2⟩
  ·rw [e, ev_ok] at stp
   exact .inr ⟨hm ts us, o, stp⟩
theorem keepL_new {n : Nat} {ks : List Key} {vs : List W} (st : S) (h : DOk n ks vs) : keepL st (st.new (.dct ks vs)) (.ref st.nxt) = .ok (.ref st.nxt) (st.new (.dct ks vs)) := by
 show (if st.nxt < st.nxt then _ else @ite _ (∀ m, m < st.nxt → (st.new (.dct ks vs)).mu m = st.mu m) (Classical.propDecidable _) (match (st.new (.dct ks vs)).mu st.nxt with
  | some o => (match frzMO st.nxt ((st.new (.dct ks vs)).less st.nxt).mu o with
   | some o' => R.ok (W.ref st.nxt) (st.new o')
   | none => .stuck)
  | none => .stuck) .stuck) = _
 rw [if_neg (Nat.lt_irrefl _), if_pos (new_old st _), new_at]
 show (match (frzs (frz st.nxt ((st.new (.dct ks vs)).less st.nxt).mu 12) vs).map (MO.dct ks) with
   | some o' => R.ok (W.ref st.nxt) (st.new o')
   | none => .stuck) = _
 rw [frzs_At h.at_]; rfl
theorem keep_non (st : S) (o : MO) : keep st (st.new o) .non = .ok .non st := keep_pos (new_old st o) rfl
theorem keep_non0 (st : S) : keep st st .non = .ok .non st := keep_pos (fun _ _ => rfl) rfl
theorem matched_ok {n : Nat} {ks : List Key} {vs : List W} {p f : W} {ts us : List W} (st : S) (hp : At p) (hf : At f) (hts : ∀ t ∈ ts, At t) (hus : ∀ u ∈ us, At u) (h : DOk n ks vs) (hn : n + ts.length ≤ 900) :
  ((weq p f = true ∧ ts.length = us.length) ∧ ((∃ ks' vs', mt ts us ks vs = some (ks', vs') ∧ DOk (n + ts.length) ks' vs' ∧ op_matched [.tup (p :: ts), .tup (f :: us), .dct ks vs] st = .ok (.ref st.nxt) (st.new (.dct ks' vs'))) ∨
   (mt ts us ks vs = none ∧ op_matched [.tup (p :: ts), .tup (f :: us), .dct ks vs] st = .ok .non st))) ∨
  (¬ (weq p f = true ∧ ts.length = us.length) ∧ op_matched [.tup (p :: ts), .tup (f :: us), .dct ks vs] st = .ok .non st) := by
 have c1 : runOr (run2 (run2 (rVar 0) (rCon (W.int 0)) opIdx) (run2 (rVar 1) (rCon (W.int 0)) opIdx) opNe) (run2 (runN (runsCons (rVar 0) runsNil) opLen) (runN (runsCons (rVar 1) runsNil) opLen) opNe) [some (.tup (p :: ts)), some (.tup (f :: us)), some (.dct ks vs), none, none, none, none] st = .ok (.bl (!weq p f || !decide (ts.length = us.length))) st := by
  have el : ((((p :: ts).length : Nat) : Int) == (((f :: us).length : Nat) : Int)) = decide (ts.length = us.length) := by
   rw [List.length_cons, List.length_cons]
   by_cases h : ts.length = us.length
   ·rw [h]; simp
   ·rw [decide_eq_false h, beq_eq_false_iff_ne]; omega
  have e2 : run2 (runN (runsCons (rVar 0) runsNil) opLen) (runN (runsCons (rVar 1) runsNil) opLen) opNe [some (.tup (p :: ts)), some (.tup (f :: us)), some (.dct ks vs), none, none, none, none] st = .ok (.bl (!decide (ts.length = us.length))) st := by
   rw [← el]
   simp only [EV, Nat.reduceSub]
  rw [ev_or, ev_run2, ev_run2, ev_v0, ev_ok, ev_con, ev_ok, idx0T, ev_ok, ev_run2, ev_v1, ev_ok, ev_con, ev_ok, idx0T, ev_ok, ne_At st hp hf, ev_ok, kIf_bl, e2]
  cases weq p f <;> rfl
 by_cases hc : weq p f = true ∧ ts.length = us.length
 ·refine .inl ⟨hc, ?_⟩
  have sl : runsCons (runSlSN false (rVar 0) (rCon (W.int 1))) (runsCons (runSlSN false (rVar 1) (rCon (W.int 1))) runsNil) [some (.tup (p :: ts)), some (.tup (f :: us)), some (.dct ks vs), some (.ref st.nxt), none, none, none] (st.new (.dct ks vs)) = .ok [.tup ts, .tup us] (st.new (.dct ks vs)) := by
   rw [ev_cons, ev_slSN, ev_v0, ev_ok, ev_con, ev_ok, kLo_int, ev_slT, cut1, ev_ok, ev_cons, ev_slSN, ev_v1, ev_ok, ev_con, ev_ok, kLo_int, ev_slT, cut1, ev_ok, ev_nil, ev_ok, ev_ok]
  have dc : runN (runsCons (rVar 2) runsNil) (opDictC true) [some (.tup (p :: ts)), some (.tup (f :: us)), some (.dct ks vs), none, none, none, none] st = .ok (.ref st.nxt) (st.new (.dct ks vs)) := rfl
  have fz : ∀ body : RunS, sForZ 4 5 (runsCons (runSlSN false (rVar 0) (rCon (W.int 1))) (runsCons (runSlSN false (rVar 1) (rCon (W.int 1))) runsNil)) body [some (.tup (p :: ts)), some (.tup (f :: us)), some (.dct ks vs), some (.ref st.nxt), none, none, none] (st.new (.dct ks vs)) = loopZ 4 5 body (ts.zip us) [some (.tup (p :: ts)), some (.tup (f :: us)), some (.dct ks vs), some (.ref st.nxt), none, none, none] (st.new (.dct ks vs)) := fun body => by
   unfold sForZ
   rw [sl]; rfl
  rcases m_loop (p0 := some (.tup (p :: ts))) (p1 := some (.tup (f :: us))) (p2 := some (.dct ks vs)) (st := st) ts us n ks vs none none none hc.2 hn hts hus h with ⟨k2, v2, m2, d2, z4, z5, z6, e2⟩ | ⟨m2, o, e2⟩
  ·refine .inl ⟨k2, v2, m2, d2, ?_⟩
   unfold mBody at e2
   unfold op_matched
   rw [ev_op3]
   unfold r_matched
   rw [show List.replicate (7 - 3) (none : Option W) = [none, none, none, none] from rfl, ev_seq, ev_if, c1, ev_ok, kIf_bl, hc.1, decide_eq_true hc.2]
   rw [show (!true || !true) = false from rfl, if_neg Bool.false_ne_true, ev_pass, ev_ok, kSeq_nx, ev_seq, e_set, dc, ev_ok, ks3, ev_ok, kSeq_nx, ev_seq, fz, e2, ev_ok, kSeq_nx, ev_seq, e_ret, ev_v3, ev_ok, kRet_, ev_ok, kSeq_rt, ev_rtL, keepL_new st d2]
  ·refine .inr ⟨m2, ?_⟩
   unfold mBody at e2
   unfold op_matched
   rw [ev_op3]
   unfold r_matched
   rw [show List.replicate (7 - 3) (none : Option W) = [none, none, none, none] from rfl, ev_seq, ev_if, c1, ev_ok, kIf_bl, hc.1, decide_eq_true hc.2]
   rw [show (!true || !true) = false from rfl, if_neg Bool.false_ne_true, ev_pass, ev_ok, kSeq_nx, ev_seq, e_set, dc, ev_ok, ks3, ev_ok, kSeq_nx, ev_seq, fz, e2, ev_ok, kSeq_rt, ev_rtL]
   exact keep_non st o
 ·refine .inr ⟨hc, ?_⟩
  have hb : (!weq p f || !decide (ts.length = us.length)) = true := by
   cases hq : weq p f with
   | false => rfl
   | true => rw [decide_eq_false (fun e => hc ⟨hq, e⟩)]; rfl
  unfold op_matched
  rw [ev_op3]
  unfold r_matched
  rw [show List.replicate (7 - 3) (none : Option W) = [none, none, none, none] from rfl, ev_seq, ev_if, c1, ev_ok, kIf_bl, hb, if_pos rfl]
  exact keep_non0 st
def fl (ks : List Key) (vs : List W) (t : W) : W := (valW ks vs (keyOf t)).getD t
theorem get_run {st : S} {ks : List Key} {vs : List W} {d t : W} {x : Option W} (ht : At t) (hd : dctOf st d = some (ks, vs)) : runM "dict" (rVar 1) (runsCons (rVar 0) (runsCons (rVar 0) runsNil)) opGet [some t, some d] st = .ok (fl ks vs t) st := by
 have hk : kindW st d = some "dict" := by
  cases d <;> first | (cases hd; done) | rfl | skip
  rename_i m
  have hd : (match st.mu m with | some (.dct ks ws) => some (ks, ws) | _ => none) = some (ks, vs) := hd
  show MO.kind (st.mu m) = _
  split at hd
  ·rename_i e; rw [e]; rfl
  ·cases hd
 unfold runM
 rw [ev_v1, ev_ok, if_pos hk, ev_cons, ev_v0, ev_ok, ev_cons, ev_v0, ev_ok, ev_nil, ev_ok, ev_ok, ev_ok]
 show (match dctOf st d, [t, t] with | some (ks, vs), [k] => _ | some (ks, vs), [k, d] => (match keyW k with | some k => R.ok ((valW ks vs k).getD d) st | none => .stuck) | _, _ => .stuck) = _
 rw [hd]
 show (match keyW t with | some k => R.ok ((valW ks vs k).getD t) st | none => .stuck) = _
 rw [keyW_At ht]; rfl
theorem filled_ok {n : Nat} {ks : List Key} {vs : List W} {p d : W} {ts : List W} (st : S) (hts : ∀ t ∈ ts, At t) (hl : ts.length ≤ 100) (h : DOk n ks vs) (hd : dctOf st d = some (ks, vs)) : op_filled [.tup (p :: ts), d] st = .ok (.tup (p :: ts.map (fl ks vs))) st := by
 unfold op_filled
 rw [ev_op2]
 unfold r_filled
 have hc := comp_map (cap := [1]) (src := runSrc (runSlSN false (rVar 0) (rCon (W.int 1)))) (re := runM "dict" (rVar 1) (runsCons (rVar 0) (runsCons (rVar 0) runsNil)) opGet) (Γ := some (.tup (p :: ts)) :: some d :: List.replicate (2 - 2) none) (st := st) (items := ts) (fl ks vs)
  (by unfold runSrc; rw [ev_slSN, ev_v0, ev_ok, ev_con, ev_ok, kLo_int, ev_slT, cut1, ev_ok]; rfl) (Nat.lt_of_le_of_lt hl (by decide)) (fun t ht => get_run (x := none) (hts t ht) hd)
 have e : run2 (runN (runsCons (run2 (rVar 0) (rCon (W.int 0)) opIdx) runsNil) opTup) (runN (runsCons (runComp false (runSrc (runSlSN false (rVar 0) (rCon (W.int 1)))) [1] (rCon (.bl true)) (runM "dict" (rVar 1) (runsCons (rVar 0) (runsCons (rVar 0) runsNil)) opGet)) runsNil) opTuple) opAdd (some (.tup (p :: ts)) :: some d :: List.replicate (2 - 2) none) st = .ok (.tup (p :: ts.map (fl ks vs))) st := by
  rw [ev_run2, ev_runN, ev_cons, ev_run2, ev_v0, ev_ok, ev_con, ev_ok, idx0T, ev_ok, ev_nil, ev_ok, ev_ok, ev_tup [p] (show 1 ≤ sizeLine by decide), ev_ok, ev_runN, ev_cons, hc, ev_ok, ev_nil, ev_ok, ev_ok]
  show ((opTup (ts.map (fl ks vs)) st).bind _) = _
  rw [ev_tup _ (by rw [List.length_map]; exact size_small (by omega)), ev_ok]
  show (if [p] ≠ [] ∧ [p].length + (ts.map (fl ks vs)).length ≤ sizeLine then R.ok (W.tup ([p] ++ ts.map (fl ks vs))) st else .stuck) = _
  rw [if_pos ⟨by simp, by rw [List.length_map]; exact size_small (by simp; omega)⟩]; rfl
 rw [ret_ok e]; rfl
end DL.My
namespace DL.My
open PySem L2
theorem replW_len (k : Key) (v : W) : ∀ (ks : List Key) (vs : List W), ks.length = vs.length → (replW k v ks vs).length = vs.length
 | [], [], _ => rfl
 | _ :: ks, _ :: vs, h => by
  show (replW k v ks vs).length + 1 = vs.length + 1
  rw [replW_len k v ks vs (by simpa using h)]
theorem replW_at (k : Key) (v : W) (hv : At v) : ∀ (ks : List Key) (vs : List W), (∀ w ∈ vs, At w) → ∀ w ∈ replW k v ks vs, At w
 | [], vs, _, w, hw => by cases vs <;> cases hw
 | _ :: _, [], _, w, hw => by cases hw
 | j :: ks, u :: vs, h, w, hw => by
  have hw : w ∈ (if j = k then v else u) :: replW k v ks vs := hw
  rcases List.mem_cons.mp hw with e | hw
  ·rw [e]
   split
   ·exact hv
   ·exact h u List.mem_cons_self
  ·exact replW_at k v hv ks vs (fun x hx => h x (List.mem_cons_of_mem _ hx)) w hw
theorem valW_repl (k : Key) (v : W) (j : Key) : ∀ (ks : List Key) (vs : List W), ks.length = vs.length → k ∈ ks → valW ks (replW k v ks vs) j = if j = k then some v else valW ks vs j
 | [], _, _, h => by cases h
 | i :: ks, w :: vs, hl, h => by
  have hl' : ks.length = vs.length := by simpa using hl
  show (if i = j then some (if i = k then v else w) else valW ks (replW k v ks vs) j) = if j = k then some v else (if i = j then some w else valW ks vs j)
  by_cases e : i = j
  ·rw [if_pos e, if_pos e]
   by_cases e2 : i = k
   ·rw [if_pos e2, if_pos (e.symm.trans e2)]
   ·rw [if_neg e2, if_neg (fun q => e2 (e.trans q))]
  ·rw [if_neg e, if_neg e]
   by_cases hk : k ∈ ks
   ·exact valW_repl k v j ks vs hl' hk
   ·have ei : i = k := ((List.mem_cons.mp h).resolve_right hk).symm
    have e3 : ¬ j = k := fun q => e (ei.trans q.symm)
    have e4 : ∀ (ks : List Key) (vs : List W), k ∉ ks → ks.length = vs.length → replW k v ks vs = vs := by
     intro ks
     induction ks with
     | nil => intro vs _ hl; cases vs with | nil => rfl | cons _ _ => simp at hl
     | cons a ks ih =>
      intro vs hn hl
      cases vs with
      | nil => simp at hl
      | cons b vs =>
       show (if a = k then v else b) :: replW k v ks vs = b :: vs
       rw [if_neg (fun q => hn (by rw [q]; exact List.mem_cons_self)), ih vs (fun q => hn (List.mem_cons_of_mem _ q)) (by simpa using hl)]
    rw [if_neg e3, e4 ks vs hk hl']
theorem DOk.set {n : Nat} {ks : List Key} {vs : List W} (k : Key) {v : W} (h : DOk n ks vs) (hv : At v) : DOk (n + 1) (putW ks vs k v).1 (putW ks vs k v).2 ∧ (∀ j, valW (putW ks vs k v).1 (putW ks vs k v).2 j = if j = k then some v else valW ks vs j) := by
 by_cases hk : k ∈ ks
 ·have e : putW ks vs k v = (ks, replW k v ks vs) := by unfold putW; rw [if_pos ((hasK_iff k ks).mpr hk)]
  rw [e]
  exact ⟨⟨h.len.trans (replW_len k v ks vs h.len).symm, Nat.le_succ_of_le h.most, h.nd, replW_at k v hv ks vs h.at_⟩, fun j => valW_repl k v j ks vs h.len hk⟩
 ·rw [putW_new hk]
  exact ⟨h.put hk hv, fun j => valW_app j h.len hk⟩
theorem setD {n : Nat} {st : S} {ks : List Key} {vs : List W} {k v : W} (h : DOk n ks vs) (hn : n ≤ 1000) (hk : At k) : opSetIx (.ref st.nxt) k v (st.new (.dct ks vs)) = .ok () (st.new (.dct (putW ks vs (keyOf k) v).1 (putW ks vs (keyOf k) v).2)) := by
 show setIx1 st.nxt k v _ ((st.new (.dct ks vs)).mu st.nxt) (keyW k) = _
 rw [new_at, keyW_At hk]
 show (if ks.length < sizeLine then R.ok () ((st.new (.dct ks vs)).put st.nxt (.dct (putW ks vs (keyOf k) v).1 (putW ks vs (keyOf k) v).2)) else .stuck) = _
 rw [if_pos (Nat.lt_of_le_of_lt (Nat.le_trans h.most hn) (by decide)), new_put]
def Val (w : W) : Prop := (∃ i, w = .int i) ∨ ∃ z, w = T z ∧ Nm z
theorem Val.at_ {w : W} (h : Val w) : At w := by
 rcases h with ⟨i, rfl⟩ | ⟨z, rfl, hz⟩
 ·exact .int i
 ·exact .txt z (by have := hz.2.1; omega)
theorem Fr.at_ {z : List Nat} (h : Fr z) : At (T z) := by
 obtain ⟨g, r, rfl, _, _, hl⟩ := h
 exact .txt _ (by rw [List.length_cons]; omega)
theorem free_T {z : List Nat} (h : Fr z) : freeW (T z) = true := by
 obtain ⟨g, r, rfl, hg, hr, hl⟩ := h
 exact (free_of (z := ⟨(g :: r).toArray⟩) (by rw [cp_mk]) hg hr hl).1
theorem not_free {w : W} (h : Val w) : freeW w = false := by
 rcases h with ⟨i, rfl⟩ | ⟨z, rfl, hz⟩
 ·rfl
 ·show freeB ⟨z.toArray⟩ = false
  unfold freeB
  split
  ·have hg : greatB ⟨z.toArray⟩ = false := by
    unfold greatB
    show inStr ⟨#[z.toArray.toList.headD 0]⟩ ABC = false
    rw [List.toList_toArray]
    cases z with
    | nil => exact absurd rfl hz.1
    | cons c r => exact great_not (hz.2.2 c List.mem_cons_self)
   rw [hg]; rfl
  ·rfl
theorem val_ne_free {w : W} {z : List Nat} (h : Val w) (hz : Fr z) : w ≠ T z := fun e => by
 have h1 := not_free h
 rw [e, free_T hz] at h1
 cases h1
end DL.My
namespace DL.My
open PySem L2
section
variable {op : OpN} {Γ : Ga} {st s' : S} {a b c d : Run} {x y z u w' : W}
theorem callN2 (ha : a Γ st = .ok x st) (hb : b Γ st = .ok y st) (h : op [x, y] st = .ok w' s') : runN (runsCons a (runsCons b runsNil)) (calmOp op) Γ st = .ok w' s' := by
 rw [ev_runN, ev_cons, ha, ev_ok, ev_cons, hb, ev_ok, ev_nil, ev_ok, ev_ok, ev_ok, ev_calmOp, h]; rfl
theorem callN3 (ha : a Γ st = .ok x st) (hb : b Γ st = .ok y st) (hc : c Γ st = .ok z st) (h : op [x, y, z] st = .ok w' s') : runN (runsCons a (runsCons b (runsCons c runsNil))) (calmOp op) Γ st = .ok w' s' := by
 rw [ev_runN, ev_cons, ha, ev_ok, ev_cons, hb, ev_ok, ev_cons, hc, ev_ok, ev_nil, ev_ok, ev_ok, ev_ok, ev_ok, ev_calmOp, h]; rfl
theorem callN4 (ha : a Γ st = .ok x st) (hb : b Γ st = .ok y st) (hc : c Γ st = .ok z st) (hd : d Γ st = .ok u st) (h : op [x, y, z, u] st = .ok w' s') : runN (runsCons a (runsCons b (runsCons c (runsCons d runsNil)))) (calmOp op) Γ st = .ok w' s' := by
 rw [ev_runN, ev_cons, ha, ev_ok, ev_cons, hb, ev_ok, ev_cons, hc, ev_ok, ev_cons, hd, ev_ok, ev_nil, ev_ok, ev_ok, ev_ok, ev_ok, ev_ok, ev_calmOp, h]; rfl
theorem ret_to (h : a Γ st = .ok x s') : sSeq (sRet a) sPass Γ st = .ok (.rt x) s' := by
 rw [ev_seq, ev_ret, h]; rfl
end
def told (st : S) : Option (List Key × List W) → R W
 | none => .ok .non st
 | some (ks, vs) => .ok (.ref st.nxt) (st.new (.dct ks vs))
def due (st : S) : Option (List Key × List W) → R W
 | none => .ok .non st
 | some (ks, vs) => .ok (.dct ks vs) st
theorem keep_newD {n : Nat} {ks : List Key} {vs : List W} (st : S) (h : DOk n ks vs) : keep st (st.new (.dct ks vs)) (.ref st.nxt) = .ok (.dct ks vs) st := by
 refine keep_pos (new_old st _) ?_
 unfold frz
 show (if st.nxt < st.nxt then _ else _) = _
 rw [if_neg (Nat.lt_irrefl _), new_at]
 show (frzs (frz st.nxt (st.new (.dct ks vs)).mu 11) vs).map (W.dct ks) = _
 rw [frzs_At h.at_]; rfl
theorem dictF {st : S} {d : W} {ks : List Key} {vs : List W} (hd : dctOf st d = some (ks, vs)) : opDictC false [d] st = .ok (.dct ks vs) st := by
 show (match dctOf st d with | some (ks, vs) => if false = true then R.ok (W.ref st.nxt) (st.new (.dct ks vs)) else R.ok (W.dct ks vs) st | none => .stuck) = _
 rw [hd]; rfl
theorem zT : W.str "Z" = T [90] := congrArg W.str (cp_ext (by rw [cp_mk]; decide +kernel))
end DL.My
namespace DL.My
open PySem L2
theorem callN5 {op : OpN} {Γ : Ga} {st s' : S} {a b c d e : Run} {x y z u v w' : W} (ha : a Γ st = .ok x st) (hb : b Γ st = .ok y st) (hc : c Γ st = .ok z st) (hd : d Γ st = .ok u st) (he : e Γ st = .ok v st) (h : op [x, y, z, u, v] st = .ok w' s') : runN (runsCons a (runsCons b (runsCons c (runsCons d (runsCons e runsNil))))) (calmOp op) Γ st = .ok w' s' := by
 rw [ev_runN, ev_cons, ha, ev_ok, ev_cons, hb, ev_ok, ev_cons, hc, ev_ok, ev_cons, hd, ev_ok, ev_cons, he, ev_ok, ev_nil, ev_ok, ev_ok, ev_ok, ev_ok, ev_ok, ev_ok, ev_calmOp, h]; rfl
theorem ev_op5 (nl fz : Nat) (run : RunS) (w w' w2 w3 w4 : W) (st : S) : callOp 5 nl fz run [w, w', w2, w3, w4] st = leave fz st (run (some w :: some w' :: some w2 :: some w3 :: some w4 :: List.replicate (nl - 5) none) st) := Eq.trans rfl rfl
theorem ev_op4 (nl fz : Nat) (run : RunS) (w w' w2 w3 : W) (st : S) : callOp 4 nl fz run [w, w', w2, w3] st = leave fz st (run (some w :: some w' :: some w2 :: some w3 :: List.replicate (nl - 4) none) st) := Eq.trans rfl rfl
theorem value_ok (a b d e g : List Nat) (ha : Nm a) (hb : Nm b) (hd : Nm d) (n : Int) (st : S) : ∃ v, Val v ∧ op_l_value [.lst ([a, b, d, e, g].map T), .int n] st = .ok v st := by
 have hs : runN (runsCons (rCon (W.int 0)) (runsCons (rCon (W.int 1)) (runsCons (rCon (W.int 2)) (runsCons (run1 (rCon (W.int 1)) opNeg) (runsCons (run2 (rVar 0) (rCon (W.int 0)) opIdx) (runsCons (run2 (rVar 0) (rCon (W.int 1)) opIdx) (runsCons (run2 (rVar 0) (rCon (W.int 2)) opIdx) (runsCons (rCon (W.int 999999999)) (runsCons (run1 (rCon (W.int 999999999)) opNeg) runsNil))))))))) (opL false) [some (.lst ([a, b, d, e, g].map T)), some (.int n)] st =
   .ok (.lst [.int 0, .int 1, .int 2, .int (-1), T a, T b, T d, .int 999999999, .int (-999999999)]) st := rfl
 obtain ⟨m0, m1⟩ := mod_lt n 9 (by decide)
 obtain ⟨v, hv, hm⟩ := at_in [.int 0, .int 1, .int 2, .int (-1), T a, T b, T d, .int 999999999, W.int (-999999999)] (n % 9) m0 m1
 refine ⟨v, ?_, ?_⟩
 ·simp only [List.mem_cons, List.not_mem_nil, or_false] at hm
  rcases hm with rfl | rfl | rfl | rfl | rfl | rfl | rfl | rfl | rfl
  all_goals first
   | exact .inl ⟨_, rfl⟩
   | exact .inr ⟨_, rfl, ha⟩
   | exact .inr ⟨_, rfl, hb⟩
   | exact .inr ⟨_, rfl, hd⟩
 ·have c2 : run2 (runN (runsCons (rCon (W.int 0)) (runsCons (rCon (W.int 1)) (runsCons (rCon (W.int 2)) (runsCons (run1 (rCon (W.int 1)) opNeg) (runsCons (run2 (rVar 0) (rCon (W.int 0)) opIdx) (runsCons (run2 (rVar 0) (rCon (W.int 1)) opIdx) (runsCons (run2 (rVar 0) (rCon (W.int 2)) opIdx) (runsCons (rCon (W.int 999999999)) (runsCons (run1 (rCon (W.int 999999999)) opNeg) runsNil))))))))) (opL false)) (run2 (rVar 1) (rCon (W.int 9)) opMod) opIdx [some (.lst ([a, b, d, e, g].map T)), some (.int n)] st = .ok v st := by
   rw [ev_run2, hs, ev_ok, ev_run2, ev_v1, ev_ok, ev_con, ev_ok, ev_modI _ _ (by decide), ev_ok]
   exact ev_idxL _ _ _ hv
  unfold op_l_value
  rw [ev_op2]
  unfold r_l_value
  rw [show List.replicate (2 - 2) (none : Option W) = [] from rfl, ret_to c2]; rfl
def Tm (f0 f1 f2 : List Nat) (w : W) : Prop := Val w ∨ w = T f0 ∨ w = T f1 ∨ w = T f2
theorem tm_at {f0 f1 f2 : List Nat} (r0 : Fr f0) (r1 : Fr f1) (r2 : Fr f2) {w : W} (h : Tm f0 f1 f2 w) : At w := by
 rcases h with h | rfl | rfl | rfl
 ·exact h.at_
 ·exact r0.at_
 ·exact r1.at_
 ·exact r2.at_
theorem idxW {ws : List W} {k : Nat} {z : W} (st : S) (h : ws[k]? = some z) : opIdx (.ref st.nxt) (.int k) (st.new (.lst ws)) = .ok z (st.new (.lst ws)) := by
 have e : atI ws (k : Int) = some z := at_nat _ _ _ h
 unfold opIdx
 rw [dctOf_newL]
 show (match itemsOf (st.new (.lst ws)) (.ref st.nxt) with
   | some ws => (match atI ws k with | some w => R.ok w _ | none => .stuck)
   | none => .stuck) = _
 rw [items_newL]
 show (match atI ws k with | some w => R.ok w (st.new (.lst ws)) | none => .stuck) = _
 rw [e]
theorem setW {ws : List W} {k : Nat} (z : W) (st : S) (h : k < ws.length) : opSetIx (.ref st.nxt) (.int k) z (st.new (.lst ws)) = .ok () (st.new (.lst (ws.set k z))) := by
 have hj : ixN ws.length (k : Int) = some k := by
  unfold ixN
  rw [if_pos (by omega)]
  simp [h]
 show setIx1 st.nxt (.int k) z _ ((st.new (.lst ws)).mu st.nxt) (keyW (.int k)) = _
 rw [new_at]
 show putAt st.nxt k z _ ((st.new (.lst ws)).mu st.nxt) = _
 rw [new_at]
 show (match ixN ws.length (k : Int) with | some j => R.ok () ((st.new (.lst ws)).put st.nxt (.lst (ws.set j z))) | none => .stuck) = _
 rw [hj]
 show R.ok () ((st.new (.lst ws)).put st.nxt (.lst (ws.set k z))) = _
 rw [new_put]
theorem keep_tup (st s : S) (ws : List W) (h : ∀ w ∈ ws, At w) (hs : ∀ n, n < st.nxt → s.mu n = st.mu n) : keep st s (.tup ws) = .ok (.tup ws) st := by
 refine keep_pos hs ?_
 show (frzs (frz st.nxt s.mu 11) ws).map W.tup = _
 rw [frzs_At h]; rfl
theorem name_at {a b d e g : List Nat} (he : Nm e) (hg : Nm g) {Γ : Ga} {st : S} {r : Run} {n : Int} (k : Int) (h0 : rVar 0 Γ st = .ok (.lst ([a, b, d, e, g].map T)) st) (hr : r Γ st = .ok (.int k) st) (hk : k = 0 ∨ k = 1) :
  ∃ p, Nm p ∧ run2 (rVar 0) (run2 (rCon (W.int 3)) r opAdd) opIdx Γ st = .ok (T p) st := by
 rcases hk with rfl | rfl
 ·refine ⟨e, he, ?_⟩
  rw [ev_run2, h0, ev_ok, ev_run2, ev_con, ev_ok, hr, ev_ok, ev_addI, ev_ok]
  exact ev_idxL _ _ _ (at_nat _ 3 _ rfl)
 ·refine ⟨g, hg, ?_⟩
  rw [ev_run2, h0, ev_ok, ev_run2, ev_con, ev_ok, hr, ev_ok, ev_addI, ev_ok]
  exact ev_idxL _ _ _ (at_nat _ 4 _ rfl)
noncomputable def patBody : RunS := (sSeq (sSet 5 (run2 (run2 (run2 (rVar 2) (run2 (rCon (W.int 5)) (run2 (rCon (W.int 37)) (rVar 4) opMul) opAdd) opDiv) (rCon (W.int 48271)) opMul) (rCon (W.int 1000003)) opMod))
 (sSeq (sDrop (runM "list" (rVar 3) (runsCons (run2 (runN (runsCons (run2 (rVar 1) (run2 (run2 (rVar 5) (rCon (W.int 2)) opDiv) (rCon (W.int 3)) opMod) opIdx) (runsCons (runN (runsCons (rVar 0) (runsCons (run2 (rVar 5) (rCon (W.int 2)) opDiv) runsNil)) (calmOp op_l_value)) runsNil)) (opL false)) (run2 (rVar 5) (rCon (W.int 2)) opMod) opIdx) runsNil) opAppend))
 sPass))
theorem pat_turn (a b d e g f0 f1 f2 f3 : List Nat) (ha : Nm a) (hb : Nm b) (hd : Nm d) (n : Int) (st : S) (ws : List W) (hw : ws.length ≤ 100) (k : Nat) (hk : k < 5) (x5 : Option W) :
  ∃ t y5, Tm f0 f1 f2 t ∧ patBody [some (.lst ([a, b, d, e, g].map T)), some (.lst ([f0, f1, f2, f3].map T)), some (.int n), some (.ref st.nxt), some (.int k), x5] (st.new (.lst ws)) =
   .ok (.nx [some (.lst ([a, b, d, e, g].map T)), some (.lst ([f0, f1, f2, f3].map T)), some (.int n), some (.ref st.nxt), some (.int k), y5]) (st.new (.lst (ws ++ [t]))) := by
 generalize hs : st.new (.lst ws) = s
 have c5 : run2 (run2 (run2 (rVar 2) (run2 (rCon (W.int 5)) (run2 (rCon (W.int 37)) (rVar 4) opMul) opAdd) opDiv) (rCon (W.int 48271)) opMul) (rCon (W.int 1000003)) opMod [some (.lst ([a, b, d, e, g].map T)), some (.lst ([f0, f1, f2, f3].map T)), some (.int n), some (.ref st.nxt), some (.int k), x5] s = .ok (.int (n / (5 + 37 * (k : Int)) * 48271 % 1000003)) s := by
  rw [ev_run2, ev_run2, ev_run2, ev_v2, ev_ok, ev_run2, ev_con, ev_ok, ev_run2, ev_con, ev_ok, ev_v4, ev_ok, ev_mulL 37 (k : Int) (by decide) (by decide), ev_ok, ev_addI, ev_ok, ev_divI _ _ (by omega) (by omega), ev_ok, ev_con, ev_ok, ev_mulR _ 48271 (by decide) (by decide), ev_ok, ev_con, ev_ok, ev_modI _ _ (by decide)]
 generalize n / (5 + 37 * (k : Int)) * 48271 % 1000003 = m at c5
 obtain ⟨v, hv, ev⟩ := value_ok a b d e g ha hb hd (m / 2) s
 have cv := callN2 (a := rVar 0) (b := run2 (rVar 5) (rCon (W.int 2)) opDiv) (Γ := [some (.lst ([a, b, d, e, g].map T)), some (.lst ([f0, f1, f2, f3].map T)), some (.int n), some (.ref st.nxt), some (.int k), some (.int m)]) (st := s) (y := .int (m / 2)) rfl (by rw [ev_run2, ev_v5, ev_ok, ev_con, ev_ok, ev_divI _ _ (by decide) (by decide)]) ev
 obtain ⟨b0, b1⟩ := mod_lt (m / 2) 3 (by decide)
 have hfree : ∃ z, (z = T f0 ∨ z = T f1 ∨ z = T f2) ∧ run2 (rVar 1) (run2 (run2 (rVar 5) (rCon (W.int 2)) opDiv) (rCon (W.int 3)) opMod) opIdx [some (.lst ([a, b, d, e, g].map T)), some (.lst ([f0, f1, f2, f3].map T)), some (.int n), some (.ref st.nxt), some (.int k), some (.int m)] s = .ok z s := by
  have ej : m / 2 % 3 = (((m / 2 % 3).toNat : Nat) : Int) := by omega
  have hj : (m / 2 % 3).toNat < 3 := by omega
  have c1 : ∀ z, [T f0, T f1, T f2, T f3][(m / 2 % 3).toNat]? = some z → run2 (rVar 1) (run2 (run2 (rVar 5) (rCon (W.int 2)) opDiv) (rCon (W.int 3)) opMod) opIdx [some (.lst ([a, b, d, e, g].map T)), some (.lst ([f0, f1, f2, f3].map T)), some (.int n), some (.ref st.nxt), some (.int k), some (.int m)] s = .ok z s := fun z hz => by
   rw [ev_run2, ev_v1, ev_ok, ev_run2, ev_run2, ev_v5, ev_ok, ev_con, ev_ok, ev_divI _ _ (by decide) (by decide), ev_ok, ev_con, ev_ok, ev_modI _ _ (by decide), ev_ok, ej]
   exact ev_idxL _ _ _ (at_nat _ _ _ hz)
  generalize (m / 2 % 3).toNat = j at hj c1
  match j, hj, c1 with
  | 0, _, c1 => exact ⟨_, .inl rfl, c1 _ rfl⟩
  | 1, _, c1 => exact ⟨_, .inr (.inl rfl), c1 _ rfl⟩
  | 2, _, c1 => exact ⟨_, .inr (.inr rfl), c1 _ rfl⟩
 obtain ⟨z, hz, cz⟩ := hfree
 obtain ⟨d0, d1⟩ := mod_lt m 2 (by decide)
 obtain ⟨t, ht, hm⟩ := at_in [z, v] (m % 2) d0 d1
 have ct : run2 (runN (runsCons (run2 (rVar 1) (run2 (run2 (rVar 5) (rCon (W.int 2)) opDiv) (rCon (W.int 3)) opMod) opIdx) (runsCons (runN (runsCons (rVar 0) (runsCons (run2 (rVar 5) (rCon (W.int 2)) opDiv) runsNil)) (calmOp op_l_value)) runsNil)) (opL false)) (run2 (rVar 5) (rCon (W.int 2)) opMod) opIdx [some (.lst ([a, b, d, e, g].map T)), some (.lst ([f0, f1, f2, f3].map T)), some (.int n), some (.ref st.nxt), some (.int k), some (.int m)] s = .ok t s := by
  rw [ev_run2, ev_runN, ev_cons, cz, ev_ok, ev_cons, cv, ev_ok, ev_nil, ev_ok, ev_ok, ev_ok, ev_lst [z, v] (show 2 ≤ sizeLine by decide), ev_ok, ev_run2, ev_v5, ev_ok, ev_con, ev_ok, ev_modI _ _ (by decide), ev_ok]
  exact ev_idxL _ _ _ ht
 subst hs
 have ca := append_run (ro := rVar 3) (st := st) (xs := ws) rfl ct (by omega)
 refine ⟨t, some (.int m), ?_, ?_⟩
 ·simp only [List.mem_cons, List.not_mem_nil, or_false] at hm
  rcases hm with rfl | rfl
  ·exact .inr hz
  ·exact .inl hv
 ·unfold patBody
  rw [ev_seq, e_set, c5, ev_ok, ks5, ev_ok, kSeq_nx, ev_seq, e_drop, ca, ev_ok, kDrop_, ev_ok, kSeq_nx, ev_pass]
theorem cat_tup {ws : List W} {p : W} {s : S} {r1 : W} (h1 : itemsOf s r1 = some ws) (hr : (∃ n, r1 = .ref n) ∨ ∃ xs, r1 = .lst xs) (hl : ws.length ≤ 100) : (opAdd (.lst [p]) r1 s).bind (fun w s => opTuple [w] s) = .ok (.tup (p :: ws)) s := by
 have e : opAdd (.lst [p]) r1 s = .ok (.lst (p :: ws)) s := by
  rcases hr with ⟨n, rfl⟩ | ⟨xs, rfl⟩
  ·show catO (some [p]) (MO.items (s.mu n)) s = _
   rw [show MO.items (s.mu n) = some ws from h1]
   exact if_pos (by show 1 + ws.length ≤ sizeLine; exact size_small (by omega))
  ·cases h1
   exact if_pos (by show 1 + ws.length ≤ sizeLine; exact size_small (by omega))
 rw [e, ev_ok]
 show opTup (p :: ws) s = _
 exact ev_tup _ (by rw [List.length_cons]; exact size_small (by omega))
theorem pattern_ok (a b d e g f0 f1 f2 f3 : List Nat) (ha : Nm a) (hb : Nm b) (hd : Nm d) (he : Nm e) (hg : Nm g) (r0 : Fr f0) (r1 : Fr f1) (r2 : Fr f2) (n : Int) (st : S) :
  ∃ p ts, Nm p ∧ (∀ t ∈ ts, Tm f0 f1 f2 t) ∧ ts.length ≤ 4 ∧ op_l_pattern [.lst ([a, b, d, e, g].map T), .lst ([f0, f1, f2, f3].map T), .int n] st = .ok (.tup (T p :: ts)) st := by
 obtain ⟨m0, m1⟩ := mod_lt n 5 (by decide)
 obtain ⟨Γ1, s1, e1, ws, l1, t1, x4, x5, rfl, rfl⟩ := loop_num (i := 4) (body := patBody) (Γ := [some (.lst ([a, b, d, e, g].map T)), some (.lst ([f0, f1, f2, f3].map T)), some (.int n), some (.ref st.nxt), none, none]) (s := st.new (.lst []))
  (fun k Γ s => ∃ ws : List W, ws.length = k ∧ (∀ t ∈ ws, Tm f0 f1 f2 t) ∧ ∃ x4 x5, Γ = [some (.lst ([a, b, d, e, g].map T)), some (.lst ([f0, f1, f2, f3].map T)), some (.int n), some (.ref st.nxt), x4, x5] ∧ s = st.new (.lst ws))
  (n % 5).toNat ⟨[], rfl, (fun t h => by cases h), none, none, rfl, rfl⟩ (fun k Γ s hk ⟨ws, l, ht, x4, x5, hΓ, hs⟩ => by
   subst hΓ hs
   obtain ⟨t, y5, tt, e⟩ := pat_turn a b d e g f0 f1 f2 f3 ha hb hd n st ws (by omega) k (by omega) x5
   refine ⟨_, _, e, ws ++ [t], by rw [List.length_append, l]; rfl, fun y hy => ?_, _, _, rfl, rfl⟩
   rcases List.mem_append.mp hy with h | h
   ·exact ht y h
   ·rw [List.mem_singleton.mp h]; exact tt)
 obtain ⟨k0, k1⟩ := mod_lt (n / 5) 2 (by decide)
 obtain ⟨p, hp, ep⟩ := name_at (a := a) (b := b) (d := d) he hg (n := n) (Γ := [some (.lst ([a, b, d, e, g].map T)), some (.lst ([f0, f1, f2, f3].map T)), some (.int n), some (.ref st.nxt), x4, x5]) (st := st.new (.lst ws)) (r := run2 (run2 (rVar 2) (rCon (W.int 5)) opDiv) (rCon (W.int 2)) opMod) (n / 5 % 2) rfl
  (by rw [ev_run2, ev_run2, ev_v2, ev_ok, ev_con, ev_ok, ev_divI _ _ (by decide) (by decide), ev_ok, ev_con, ev_ok, ev_modI _ _ (by decide)]) (by omega)
 refine ⟨p, ws, hp, t1, by omega, ?_⟩
 have f1' : runRng1 (run2 (rVar 2) (rCon (W.int 5)) opMod) [some (.lst ([a, b, d, e, g].map T)), some (.lst ([f0, f1, f2, f3].map T)), some (.int n), some (.ref st.nxt), none, none] (st.new (.lst [])) = .ok (rangeW 0 (n % 5).toNat) (st.new (.lst [])) :=
  ev_rng1 _ _ (by rw [ev_run2, ev_v2, ev_ok, ev_con, ev_ok, ev_modI _ _ (by decide)]) (by omega) (by omega)
 have f0' : runN runsNil (opL true) [some (.lst ([a, b, d, e, g].map T)), some (.lst ([f0, f1, f2, f3].map T)), some (.int n), none, none, none] st = .ok (.ref st.nxt) (st.new (.lst [])) := rfl
 have cr : runN (runsCons (run2 (runN (runsCons (run2 (rVar 0) (run2 (rCon (W.int 3)) (run2 (run2 (rVar 2) (rCon (W.int 5)) opDiv) (rCon (W.int 2)) opMod) opAdd) opIdx) runsNil) (opL false)) (rVar 3) opAdd) runsNil) opTuple [some (.lst ([a, b, d, e, g].map T)), some (.lst ([f0, f1, f2, f3].map T)), some (.int n), some (.ref st.nxt), x4, x5] (st.new (.lst ws)) = .ok (.tup (T p :: ws)) (st.new (.lst ws)) := by
  rw [ev_runN, ev_cons, ev_run2, ev_runN, ev_cons, ep, ev_ok, ev_nil, ev_ok, ev_ok, ev_lst [T p] (show 1 ≤ sizeLine by decide), ev_ok, ev_v3, ev_ok]
  have := cat_tup (p := T p) (items_newL st ws) (.inl ⟨_, rfl⟩) (by omega)
  cases q : opAdd (.lst [T p]) (.ref st.nxt) (st.new (.lst ws)) with
  | ok w s => rw [q, ev_ok] at this; rw [ev_ok, ev_nil, ev_ok, ev_ok]; exact this
  | ex c s => rw [q] at this; cases this
  | stuck => rw [q] at this; cases this
 unfold patBody at e1
 unfold op_l_pattern
 rw [ev_op3]
 unfold r_l_pattern
 rw [show List.replicate (6 - 3) (none : Option W) = [none, none, none] from rfl, ev_seq, e_set, f0', ev_ok, ks3, ev_ok, kSeq_nx, ev_seq, e_for, f1', ev_ok, kFor_, e1, ev_ok, kSeq_nx, ret_to cr, ev_rtK]
 refine keep_tup st _ _ (fun w hw => ?_) (new_old st _)
 rcases List.mem_cons.mp hw with rfl | hw
 ·exact .txt p (by have := hp.2.1; omega)
 ·exact tm_at r0 r1 r2 (t1 w hw)
noncomputable def fillBody : RunS := (sSeq (sIf (run2 (run2 (run2 (rVar 2) (run2 (runN (runsCons (rCon (W.int 1)) (runsCons (rCon (W.int 2)) (runsCons (rCon (W.int 4)) (runsCons (rCon (W.int 8)) runsNil)))) (opL false)) (rVar 4) opIdx) opDiv) (rCon (W.int 2)) opMod) (rCon (W.int 1)) opEq)
  (sSeq (sSetIx (rVar 3) (run2 (rVar 1) (rVar 4) opIdx) (runN (runsCons (rVar 0) (runsCons (run2 (run2 (rVar 2) (rCon (W.int 16)) opDiv) (run2 (rCon (W.int 5)) (rVar 4) opMul) opAdd) runsNil)) (calmOp op_l_value)))
 sPass)
  sPass)
 sPass)
theorem fill_ok (a b d e g f0 f1 f2 f3 : List Nat) (ha : Nm a) (hb : Nm b) (hd : Nm d) (r0 : Fr f0) (r1 : Fr f1) (r2 : Fr f2) (r3 : Fr f3) (n : Int) (st : S) :
  ∃ ks vs, DOk 4 ks vs ∧ (∀ j, valW ks vs j ≠ none → ∃ z, Fr z ∧ j = keyOf (T z)) ∧ op_l_fill [.lst ([a, b, d, e, g].map T), .lst ([f0, f1, f2, f3].map T), .int n] st = .ok (.dct ks vs) st := by
 obtain ⟨Γ1, s1, e1, ks, vs, dk, dom, x4, rfl, rfl⟩ := loop_num (i := 4) (body := fillBody) (Γ := [some (.lst ([a, b, d, e, g].map T)), some (.lst ([f0, f1, f2, f3].map T)), some (.int n), some (.ref st.nxt), none]) (s := st.new (.dct [] []))
  (fun k Γ s => ∃ ks vs, DOk k ks vs ∧ (∀ j, valW ks vs j ≠ none → ∃ z, Fr z ∧ j = keyOf (T z)) ∧ ∃ x4, Γ = [some (.lst ([a, b, d, e, g].map T)), some (.lst ([f0, f1, f2, f3].map T)), some (.int n), some (.ref st.nxt), x4] ∧ s = st.new (.dct ks vs))
  4 ⟨[], [], ⟨rfl, Nat.le_refl _, List.nodup_nil, fun v h => by cases h⟩, fun j h => by simp [valW] at h, none, rfl, rfl⟩ (fun k Γ s hk ⟨ks, vs, dk, dom, x4, hΓ, hs⟩ => by
   subst hΓ hs
   have hz : ∃ z, [f0, f1, f2, f3][k]? = some z ∧ Fr z := by
    match k, hk with
    | 0, _ => exact ⟨f0, rfl, r0⟩
    | 1, _ => exact ⟨f1, rfl, r1⟩
    | 2, _ => exact ⟨f2, rfl, r2⟩
    | 3, _ => exact ⟨f3, rfl, r3⟩
   obtain ⟨z, hz, rz⟩ := hz
   have hp : ∃ q : Int, 0 < q ∧ q < 1073741824 ∧ run2 (runN (runsCons (rCon (W.int 1)) (runsCons (rCon (W.int 2)) (runsCons (rCon (W.int 4)) (runsCons (rCon (W.int 8)) runsNil)))) (opL false)) (rVar 4) opIdx [some (.lst ([a, b, d, e, g].map T)), some (.lst ([f0, f1, f2, f3].map T)), some (.int n), some (.ref st.nxt), some (.int k)] (st.new (.dct ks vs)) = .ok (.int q) (st.new (.dct ks vs)) := by
    have el : runN (runsCons (rCon (W.int 1)) (runsCons (rCon (W.int 2)) (runsCons (rCon (W.int 4)) (runsCons (rCon (W.int 8)) runsNil)))) (opL false) [some (.lst ([a, b, d, e, g].map T)), some (.lst ([f0, f1, f2, f3].map T)), some (.int n), some (.ref st.nxt), some (.int k)] (st.new (.dct ks vs)) = .ok (.lst [.int 1, .int 2, .int 4, .int 8]) (st.new (.dct ks vs)) := rfl
    have ei : ∀ q, [W.int 1, .int 2, .int 4, .int 8][k]? = some q → run2 (runN (runsCons (rCon (W.int 1)) (runsCons (rCon (W.int 2)) (runsCons (rCon (W.int 4)) (runsCons (rCon (W.int 8)) runsNil)))) (opL false)) (rVar 4) opIdx [some (.lst ([a, b, d, e, g].map T)), some (.lst ([f0, f1, f2, f3].map T)), some (.int n), some (.ref st.nxt), some (.int k)] (st.new (.dct ks vs)) = .ok q (st.new (.dct ks vs)) := fun q hq => by
     rw [ev_run2, el, ev_ok, ev_v4, ev_ok]
     exact ev_idxL _ _ _ (at_nat _ _ _ hq)
    match k, hk, ei with
    | 0, _, ei => exact ⟨1, by decide, by decide, ei _ rfl⟩
    | 1, _, ei => exact ⟨2, by decide, by decide, ei _ rfl⟩
    | 2, _, ei => exact ⟨4, by decide, by decide, ei _ rfl⟩
    | 3, _, ei => exact ⟨8, by decide, by decide, ei _ rfl⟩
   obtain ⟨q, q0, q1, eq⟩ := hp
   have cc : run2 (run2 (run2 (rVar 2) (run2 (runN (runsCons (rCon (W.int 1)) (runsCons (rCon (W.int 2)) (runsCons (rCon (W.int 4)) (runsCons (rCon (W.int 8)) runsNil)))) (opL false)) (rVar 4) opIdx) opDiv) (rCon (W.int 2)) opMod) (rCon (W.int 1)) opEq [some (.lst ([a, b, d, e, g].map T)), some (.lst ([f0, f1, f2, f3].map T)), some (.int n), some (.ref st.nxt), some (.int k)] (st.new (.dct ks vs)) = .ok (.bl (n / q % 2 == 1)) (st.new (.dct ks vs)) := by
    rw [ev_run2, ev_run2, ev_run2, ev_v2, ev_ok, eq, ev_ok, ev_divI _ _ q0 q1, ev_ok, ev_con, ev_ok, ev_modI _ _ (by decide), ev_ok, ev_con, ev_ok, ev_eqI]
   show ∃ Γ' s', fillBody [some (.lst ([a, b, d, e, g].map T)), some (.lst ([f0, f1, f2, f3].map T)), some (.int n), some (.ref st.nxt), some (.int k)] (st.new (.dct ks vs)) = .ok (.nx Γ') s' ∧ _
   cases hc : n / q % 2 == 1 with
   | false =>
    refine ⟨_, _, ?_, ks, vs, dk.mono (Nat.le_succ _), dom, some (.int k), rfl, rfl⟩
    unfold fillBody
    rw [ev_seq, ev_if, cc, ev_ok, kIf_bl, hc, if_neg Bool.false_ne_true, ev_pass, ev_ok, kSeq_nx, ev_pass]
   | true =>
    obtain ⟨v, hv, ev⟩ := value_ok a b d e g ha hb hd (n / 16 + 5 * (k : Int)) (st.new (.dct ks vs))
    have cv := callN2 (a := rVar 0) (b := run2 (run2 (rVar 2) (rCon (W.int 16)) opDiv) (run2 (rCon (W.int 5)) (rVar 4) opMul) opAdd) (Γ := [some (.lst ([a, b, d, e, g].map T)), some (.lst ([f0, f1, f2, f3].map T)), some (.int n), some (.ref st.nxt), some (.int k)]) (st := st.new (.dct ks vs)) (y := .int (n / 16 + 5 * (k : Int))) rfl
     (by rw [ev_run2, ev_run2, ev_v2, ev_ok, ev_con, ev_ok, ev_divI _ _ (by decide) (by decide), ev_ok, ev_run2, ev_con, ev_ok, ev_v4, ev_ok, ev_mulL 5 (k : Int) (by decide) (by decide), ev_ok, ev_addI]) ev
    have i2 : run2 (rVar 1) (rVar 4) opIdx [some (.lst ([a, b, d, e, g].map T)), some (.lst ([f0, f1, f2, f3].map T)), some (.int n), some (.ref st.nxt), some (.int k)] (st.new (.dct ks vs)) = .ok (T z) (st.new (.dct ks vs)) := by
     rw [ev_run2, ev_v1, ev_ok, ev_v4, ev_ok]
     exact ev_idxL _ _ _ (at_nat _ _ _ (by rw [List.getElem?_map, hz]; rfl))
    obtain ⟨dk', dom'⟩ := dk.set (keyOf (T z)) hv.at_
    refine ⟨_, _, ?_, _, _, dk', fun j hj => ?_, some (.int k), rfl, rfl⟩
    ·unfold fillBody
     rw [ev_seq, ev_if, cc, ev_ok, kIf_bl, hc, if_pos rfl, ev_seq, ev_setIx, cv, ev_ok, ev_v3, ev_ok, i2, ev_ok, setD dk (by omega) rz.at_, ev_ok, ev_ok, kSeq_nx, ev_pass, ev_ok, kSeq_nx, ev_pass]
    ·rw [dom'] at hj
     by_cases e : j = keyOf (T z)
     ·exact ⟨z, rz, e⟩
     ·rw [if_neg e] at hj; exact dom j hj)
 refine ⟨ks, vs, dk, dom, ?_⟩
 have rg : runRng1 (rCon (W.int 4)) [some (.lst ([a, b, d, e, g].map T)), some (.lst ([f0, f1, f2, f3].map T)), some (.int n), some (.ref st.nxt), none] (st.new (.dct [] [])) = .ok (rangeW 0 4) (st.new (.dct [] [])) := ev_rng1 (rCon (W.int 4)) 4 rfl (by decide) (by decide)
 have rn : ∀ Γ : Ga, rDictN Γ st = .ok (.ref st.nxt) (st.new (.dct [] [])) := fun Γ => rfl
 unfold fillBody at e1
 unfold op_l_fill
 rw [ev_op3]
 unfold r_l_fill
 rw [show List.replicate (5 - 3) (none : Option W) = [none, none] from rfl, ev_seq, e_set, rn, ev_ok, ks3, ev_ok, kSeq_nx, ev_seq, e_for, rg, ev_ok, kFor_, e1, ev_ok, kSeq_nx, ret_to (ev_v3 _ _ _ _), ev_rtK, keep_newD st dk]
end DL.My
namespace DL.My
open PySem L2
theorem in_words {x : W} (hx : At x) (zs : List (List Nat)) (st : S) : ∃ b, opIn x (.lst (zs.map T)) st = .ok (.bl b) st ∧ (b = true ↔ ∃ z ∈ zs, x = T z) := by
 have e0 : ∀ b, inD x (zs.map T) = some b → opIn x (.lst (zs.map T)) st = .ok (.bl b) st := fun b h => by
  have e1 : inDct st x (.lst (zs.map T)) = none := by unfold inDct; rw [keyW_At hx]; rfl
  have e2 : inW st x (.lst (zs.map T)) = some b := by rw [← h]; cases hx <;> rfl
  unfold opIn
  rw [e1]
  unfold opIn0
  rw [e2]
 cases hx with
 | int i =>
  have e : ∀ zs : List (List Nat), inD (.int i) (zs.map T) = some false := by
   intro zs
   induction zs with
   | nil => rfl
   | cons z zs ih =>
    show (match eqD 12 (T z) (.int i), inD (.int i) (zs.map T) with | some a, some b => some (a || b) | _, _ => none) = _
    rw [ih]; rfl
  exact ⟨false, e0 _ (e zs), fun h => (by cases h), fun ⟨z, _, q⟩ => (by unfold T at q; cases q)⟩
 | txt z hz => exact ⟨_, e0 _ (inD_T z zs), by rw [decide_eq_true_iff]; exact ⟨fun h => ⟨z, h, rfl⟩, fun ⟨y, hy, q⟩ => T_inj q ▸ hy⟩⟩
theorem flats_T : ∀ zs : List (List Nat), flatsW (zs.map T) = some (zs.map fun z => V.str ⟨z.toArray⟩)
 | [] => rfl
 | z :: zs => by
  show (match flatW (T z), flatsW (zs.map T) with | some v, some vs => some (v :: vs) | _, _ => none) = _
  rw [flats_T zs]; rfl
theorem first_T {z : List Nat} : ∀ {zs : List (List Nat)}, z ∈ zs → ∃ j, firstV (V.str ⟨z.toArray⟩) (zs.map fun z => V.str ⟨z.toArray⟩) = some j
 | [], h => by cases h
 | y :: zs, h => by
  show ∃ j, (if eqV (V.str ⟨y.toArray⟩) (V.str ⟨z.toArray⟩) then some 0 else (firstV (V.str ⟨z.toArray⟩) (zs.map fun z => V.str ⟨z.toArray⟩)).map (· + 1)) = some j
  by_cases e : eqV (V.str ⟨y.toArray⟩) (V.str ⟨z.toArray⟩) = true
  ·exact ⟨0, by rw [if_pos e]⟩
  ·rw [if_neg e]
   have hy : y ≠ z := fun q => e (by rw [q]; show ((⟨z.toArray⟩ : Str) == ⟨z.toArray⟩) = true; simp)
   obtain ⟨j, hj⟩ := first_T ((List.mem_cons.mp h).resolve_left fun q => hy q.symm)
   exact ⟨j + 1, by rw [hj]; rfl⟩
theorem index_ok {z : List Nat} {zs : List (List Nat)} (h : z ∈ zs) (st : S) : ∃ j : Nat, opIndex (.lst (zs.map T)) [T z] st = .ok (.int j) st := by
 obtain ⟨j, hj⟩ := first_T h
 refine ⟨j, ?_⟩
 have e : flatArgs st (.lst (zs.map T)) [T z] = some (zs.map (fun z => V.str ⟨z.toArray⟩), V.str ⟨z.toArray⟩) := by
  show (match flatsW (zs.map T), flatW (T z) with | some vs, some v => some (vs, v) | _, _ => none) = _
  rw [flats_T]; rfl
 unfold opIndex
 rw [e]
 show (match firstV (V.str ⟨z.toArray⟩) (zs.map fun z => V.str ⟨z.toArray⟩) with | some j => R.ok (W.int (j : Nat)) st | none => .stuck) = _
 rw [hj]
theorem mem_rangeW1 {i : Int} {n : Nat} {w : W} (h : w ∈ rangeW i n) : ∃ k : Nat, k < n ∧ w = .int (i + k) := by
 unfold rangeW at h
 obtain ⟨j, hj, rfl⟩ := List.mem_map.mp h
 exact ⟨j, List.mem_range.mp hj, rfl⟩
theorem ev_rng2 {r r' : Run} {Γ : Ga} {st : S} {i j : Int} (h : r Γ st = .ok (.int i) st) (h' : r' Γ st = .ok (.int j) st) (hi : -1000000 ≤ i ∧ i ≤ 1000000) (hj : -1000000 ≤ j ∧ j ≤ 1000000) : runRng2 r r' Γ st = .ok (rangeW i (j - i).toNat) st := by
 unfold runRng2
 rw [h, ev_ok, h', ev_ok]
 exact if_pos ⟨⟨by omega, by omega⟩, ⟨by omega, by omega⟩⟩
theorem len_new (st : S) (ws : List W) {Γ : Ga} {r : Run} (h : r Γ (st.new (.lst ws)) = .ok (.ref st.nxt) (st.new (.lst ws))) : runN (runsCons r runsNil) opLen Γ (st.new (.lst ws)) = .ok (.int ws.length) (st.new (.lst ws)) := by
 rw [ev_runN, ev_cons, h, ev_ok, ev_nil, ev_ok, ev_ok]
 show (match itemsOf (st.new (.lst ws)) (.ref st.nxt) with | some xs => R.ok (W.int xs.length) _ | none => .stuck) = _
 rw [items_newL]
theorem ev_runM (Ty : String) (ro : Run) (rr : Runs) (op : OpM) (Γ : Ga) (st : S) : runM Ty ro rr op Γ st = (ro Γ st).bind fun w st1 => if kindW st1 w = some Ty then (rr Γ st1).bind fun ws st2 => op w ws st2 else .stuck := Eq.trans rfl rfl
noncomputable def factBody : RunS := (sSeq (sIf (run2 (run2 (rVar 6) (rVar 7) opIdx) (rVar 1) opIn)
  (sSeq (sSetIx (rVar 6) (rVar 7) (runM "dict" (rVar 4) (runsCons (run2 (rVar 6) (rVar 7) opIdx) (runsCons (runN (runsCons (rVar 0) (runsCons (run2 (run2 (rVar 2) (rCon (W.int 2)) opDiv) (runM "list" (rVar 1) (runsCons (run2 (rVar 6) (rVar 7) opIdx) runsNil) opIndex) opAdd) runsNil)) (calmOp op_l_value)) runsNil)) opGet))
 sPass)
  sPass)
 sPass)
theorem fact_turn (a b d e g f0 f1 f2 f3 : List Nat) (ha : Nm a) (hb : Nm b) (hd : Nm d) (n : Int) (P : W) {m : Nat} {ks : List Key} {vs : List W} (dk : DOk m ks vs) (st : S) (ws : List W) (hw : ∀ w ∈ ws, At w) (k : Nat) (hk : k < ws.length) (x5 : Option W) :
  ∃ ws' : List W, ws'.length = ws.length ∧ (∀ w ∈ ws', At w) ∧ factBody [some (.lst ([a, b, d, e, g].map T)), some (.lst ([f0, f1, f2, f3].map T)), some (.int n), some P, some (.dct ks vs), x5, some (.ref st.nxt), some (.int k)] (st.new (.lst ws)) =
   .ok (.nx [some (.lst ([a, b, d, e, g].map T)), some (.lst ([f0, f1, f2, f3].map T)), some (.int n), some P, some (.dct ks vs), x5, some (.ref st.nxt), some (.int k)]) (st.new (.lst ws')) := by
 have hz : ws[k]? = some ws[k] := List.getElem?_eq_getElem hk
 have ax := hw ws[k] (List.getElem_mem _)
 generalize ws[k] = x at hz ax
 have ei : run2 (rVar 6) (rVar 7) opIdx [some (.lst ([a, b, d, e, g].map T)), some (.lst ([f0, f1, f2, f3].map T)), some (.int n), some P, some (.dct ks vs), x5, some (.ref st.nxt), some (.int k)] (st.new (.lst ws)) = .ok x (st.new (.lst ws)) := by
  rw [ev_run2, ev_v6, ev_ok, ev_v7, ev_ok, idxW st hz]
 obtain ⟨bb, eb, ib⟩ := in_words ax [f0, f1, f2, f3] (st.new (.lst ws))
 unfold factBody
 rw [ev_seq, ev_if, ev_run2, ei, ev_ok, ev_v1, ev_ok, eb, ev_ok, kIf_bl]
 cases bb with
 | false => exact ⟨ws, rfl, hw, by rw [if_neg Bool.false_ne_true]; rfl⟩
 | true =>
  obtain ⟨z, hm, rfl⟩ := ib.mp rfl
  obtain ⟨j, ej⟩ := index_ok hm (st.new (.lst ws))
  obtain ⟨v, hv, ev⟩ := value_ok a b d e g ha hb hd (n / 2 + (j : Int)) (st.new (.lst ws))
  have cj : runM "list" (rVar 1) (runsCons (run2 (rVar 6) (rVar 7) opIdx) runsNil) opIndex [some (.lst ([a, b, d, e, g].map T)), some (.lst ([f0, f1, f2, f3].map T)), some (.int n), some P, some (.dct ks vs), x5, some (.ref st.nxt), some (.int k)] (st.new (.lst ws)) = .ok (.int j) (st.new (.lst ws)) := by
   rw [ev_runM, ev_v1, ev_ok, if_pos (show kindW _ (.lst ([f0, f1, f2, f3].map T)) = some "list" from rfl), ev_cons, ei, ev_ok, ev_nil, ev_ok, ev_ok, ej]
  have cv := callN2 (a := rVar 0) (b := run2 (run2 (rVar 2) (rCon (W.int 2)) opDiv) (runM "list" (rVar 1) (runsCons (run2 (rVar 6) (rVar 7) opIdx) runsNil) opIndex) opAdd) (Γ := [some (.lst ([a, b, d, e, g].map T)), some (.lst ([f0, f1, f2, f3].map T)), some (.int n), some P, some (.dct ks vs), x5, some (.ref st.nxt), some (.int k)]) (st := st.new (.lst ws)) (y := .int (n / 2 + (j : Int))) rfl
   (by rw [ev_run2, ev_run2, ev_v2, ev_ok, ev_con, ev_ok, ev_divI _ _ (by decide) (by decide), ev_ok, cj, ev_ok, ev_addI]) ev
  have cg : runM "dict" (rVar 4) (runsCons (run2 (rVar 6) (rVar 7) opIdx) (runsCons (runN (runsCons (rVar 0) (runsCons (run2 (run2 (rVar 2) (rCon (W.int 2)) opDiv) (runM "list" (rVar 1) (runsCons (run2 (rVar 6) (rVar 7) opIdx) runsNil) opIndex) opAdd) runsNil)) (calmOp op_l_value)) runsNil)) opGet [some (.lst ([a, b, d, e, g].map T)), some (.lst ([f0, f1, f2, f3].map T)), some (.int n), some P, some (.dct ks vs), x5, some (.ref st.nxt), some (.int k)] (st.new (.lst ws)) =
    .ok ((valW ks vs (keyOf (T z))).getD v) (st.new (.lst ws)) := by
   rw [ev_runM, ev_v4, ev_ok, if_pos (show kindW _ (.dct ks vs) = some "dict" from rfl), ev_cons, ei, ev_ok, ev_cons, cv, ev_ok, ev_nil, ev_ok, ev_ok, ev_ok]; rfl
  have av : At ((valW ks vs (keyOf (T z))).getD v) := by
   cases q : valW ks vs (keyOf (T z)) with
   | none => exact hv.at_
   | some u => exact dk.at_ u (valW_mem q)
  generalize (valW ks vs (keyOf (T z))).getD v = u at cg av
  refine ⟨ws.set k u, List.length_set, fun y hy => ?_, ?_⟩
  ·rcases List.mem_or_eq_of_mem_set hy with h | h
   ·exact hw y h
   ·rw [h]; exact av
  ·rw [if_pos rfl, ev_seq, ev_setIx, cg, ev_ok, ev_v6, ev_ok, ev_v7, ev_ok, setW u st hk, ev_ok, ev_ok, kSeq_nx, ev_pass, ev_ok, kSeq_nx, ev_pass]
theorem fact_ok (a b d e g f0 f1 f2 f3 : List Nat) (ha : Nm a) (hb : Nm b) (hd : Nm d) (he : Nm e) (hg : Nm g) (n : Int) {p : List Nat} {ts : List W} (hp : Nm p) (hts : ∀ t ∈ ts, At t) (hl : ts.length ≤ 4) {m : Nat} {ks : List Key} {vs : List W} (dk : DOk m ks vs) (st : S) :
  ∃ f us, At f ∧ (∀ u ∈ us, At u) ∧ us.length ≤ 4 ∧ op_l_fact [.lst ([a, b, d, e, g].map T), .lst ([f0, f1, f2, f3].map T), .int n, .tup (T p :: ts), .dct ks vs] st = .ok (.tup (f :: us)) st := by
 have c0 : run2 (run2 (rVar 2) (rCon (W.int 2)) opMod) (rCon (W.int 1)) opEq [some (.lst ([a, b, d, e, g].map T)), some (.lst ([f0, f1, f2, f3].map T)), some (.int n), some (.tup (T p :: ts)), some (.dct ks vs), none, none, none] st = .ok (.bl (n % 2 == 1)) st := by
  rw [ev_run2, ev_run2, ev_v2, ev_ok, ev_con, ev_ok, ev_modI _ _ (by decide), ev_ok, ev_con, ev_ok, ev_eqI]
 have atp : At (T p) := .txt p (by have := hp.2.1; omega)
 cases hn : n % 2 == 1 with
 | true =>
  obtain ⟨m0, m1⟩ := mod_lt (n / 2) 5 (by decide)
  obtain ⟨ys, h1, h2, h3⟩ := comp_ex (cap := [2, 0]) (re := runN (runsCons (rVar 2) (runsCons (run2 (run2 (rVar 1) (rCon (W.int 4)) opDiv) (run2 (run2 (rCon (W.int 7)) (rVar 0) opMul) (rVar 0) opMul) opAdd) runsNil)) (calmOp op_l_value)) (src := runRng1 (run2 (run2 (rVar 2) (rCon (W.int 2)) opDiv) (rCon (W.int 5)) opMod))
   (Γ := [some (.lst ([a, b, d, e, g].map T)), some (.lst ([f0, f1, f2, f3].map T)), some (.int n), some (.tup (T p :: ts)), some (.dct ks vs), none, none, none]) (st := st) (items := rangeW 0 (n / 2 % 5).toNat) Val
   (ev_rng1 _ _ (by rw [ev_run2, ev_run2, ev_v2, ev_ok, ev_con, ev_ok, ev_divI _ _ (by decide) (by decide), ev_ok, ev_con, ev_ok, ev_modI _ _ (by decide)]) (by omega) (by omega)) (by rw [len_rangeW]; omega) (fun x hx => by
    obtain ⟨k, hk, rfl⟩ := mem_rangeW hx
    obtain ⟨v, hv, ev⟩ := value_ok a b d e g ha hb hd (n / 4 + 7 * (k : Int) * (k : Int)) st
    refine ⟨v, hv, callN2 (a := rVar 2) (y := .int (n / 4 + 7 * (k : Int) * (k : Int))) rfl ?_ ev⟩
    show run2 (run2 (rVar 1) (rCon (W.int 4)) opDiv) (run2 (run2 (rCon (W.int 7)) (rVar 0) opMul) (rVar 0) opMul) opAdd [some (.int k), some (.int n), some (.lst ([a, b, d, e, g].map T))] st = _
    rw [ev_run2, ev_run2, ev_v1, ev_ok, ev_con, ev_ok, ev_divI _ _ (by decide) (by decide), ev_ok, ev_run2, ev_run2, ev_con, ev_ok, ev_v0, ev_ok, ev_mulL 7 (k : Int) (by decide) (by decide), ev_ok, ev_v0, ev_ok, ev_mulL (7 * (k : Int)) (k : Int) (by omega) (by omega), ev_ok, ev_addI])
  rw [len_rangeW] at h1
  obtain ⟨k0, k1⟩ := mod_lt (n / 10) 2 (by decide)
  obtain ⟨q, hq, eq⟩ := name_at (a := a) (b := b) (d := d) he hg (n := n) (Γ := [some (.lst ([a, b, d, e, g].map T)), some (.lst ([f0, f1, f2, f3].map T)), some (.int n), some (.tup (T p :: ts)), some (.dct ks vs), some (.lst ys), none, none]) (st := st) (r := run2 (run2 (rVar 2) (rCon (W.int 10)) opDiv) (rCon (W.int 2)) opMod) (n / 10 % 2) rfl
   (by rw [ev_run2, ev_run2, ev_v2, ev_ok, ev_con, ev_ok, ev_divI _ _ (by decide) (by decide), ev_ok, ev_con, ev_ok, ev_modI _ _ (by decide)]) (by omega)
  have aq : At (T q) := .txt q (by have := hq.2.1; omega)
  refine ⟨T q, ys, aq, fun u hu => (h2 u hu).at_, by omega, ?_⟩
  have cr : runN (runsCons (run2 (runN (runsCons (run2 (rVar 0) (run2 (rCon (W.int 3)) (run2 (run2 (rVar 2) (rCon (W.int 10)) opDiv) (rCon (W.int 2)) opMod) opAdd) opIdx) runsNil) (opL false)) (rVar 5) opAdd) runsNil) opTuple [some (.lst ([a, b, d, e, g].map T)), some (.lst ([f0, f1, f2, f3].map T)), some (.int n), some (.tup (T p :: ts)), some (.dct ks vs), some (.lst ys), none, none] st = .ok (.tup (T q :: ys)) st := by
   rw [ev_runN, ev_cons, ev_run2, ev_runN, ev_cons, eq, ev_ok, ev_nil, ev_ok, ev_ok, ev_lst [T q] (show 1 ≤ sizeLine by decide), ev_ok, ev_v5, ev_ok]
   have := cat_tup (p := T q) (s := st) (r1 := .lst ys) (ws := ys) rfl (.inr ⟨_, rfl⟩) (by omega)
   cases q2 : opAdd (.lst [T q]) (.lst ys) st with
   | ok w s => rw [q2, ev_ok] at this; rw [ev_ok, ev_nil, ev_ok, ev_ok]; exact this
   | ex c s => rw [q2] at this; cases this
   | stuck => rw [q2] at this; cases this
  unfold op_l_fact
  rw [ev_op5]
  unfold r_l_fact
  rw [show List.replicate (8 - 5) (none : Option W) = [none, none, none] from rfl, ev_seq, ev_if, c0, ev_ok, kIf_bl, hn, if_pos rfl, ev_seq, e_set, h3, ev_ok, ks5, ev_ok, kSeq_nx, ret_to cr, ev_ok, kSeq_rt, ev_rtK]
  refine keep_tup st st _ (fun w hw => ?_) (fun _ _ => rfl)
  rcases List.mem_cons.mp hw with rfl | hw
  ·exact aq
  ·exact (h2 w hw).at_
 | false =>
  have f6 : runN (runsCons (rVar 3) runsNil) (opList true) [some (.lst ([a, b, d, e, g].map T)), some (.lst ([f0, f1, f2, f3].map T)), some (.int n), some (.tup (T p :: ts)), some (.dct ks vs), none, none, none] st = .ok (.ref st.nxt) (st.new (.lst (T p :: ts))) := by
   rw [ev_runN, ev_cons, ev_v3, ev_ok, ev_nil, ev_ok, ev_ok]
   exact if_pos (by rw [List.length_cons]; exact size_small (by omega))
  have rg : runRng2 (rCon (W.int 1)) (runN (runsCons (rVar 6) runsNil) opLen) [some (.lst ([a, b, d, e, g].map T)), some (.lst ([f0, f1, f2, f3].map T)), some (.int n), some (.tup (T p :: ts)), some (.dct ks vs), none, some (.ref st.nxt), none] (st.new (.lst (T p :: ts))) = .ok (rangeW 1 ts.length) (st.new (.lst (T p :: ts))) := by
   have := ev_rng2 (r := rCon (W.int 1)) (r' := runN (runsCons (rVar 6) runsNil) opLen) (Γ := [some (.lst ([a, b, d, e, g].map T)), some (.lst ([f0, f1, f2, f3].map T)), some (.int n), some (.tup (T p :: ts)), some (.dct ks vs), none, some (.ref st.nxt), none]) (st := st.new (.lst (T p :: ts))) (i := 1) (j := ((T p :: ts).length : Int)) rfl (len_new st (T p :: ts) rfl) (by omega) (by rw [List.length_cons]; omega)
   rwa [show (((T p :: ts).length : Int) - 1).toNat = ts.length by rw [List.length_cons]; omega] at this
  obtain ⟨Γ1, s1, e1, ws, l1, w1, x7, rfl, rfl⟩ := loop_all (i := 7) (body := factBody)
   (fun Γ s => ∃ ws : List W, ws.length = ts.length + 1 ∧ (∀ w ∈ ws, At w) ∧ ∃ x7, Γ = [some (.lst ([a, b, d, e, g].map T)), some (.lst ([f0, f1, f2, f3].map T)), some (.int n), some (.tup (T p :: ts)), some (.dct ks vs), none, some (.ref st.nxt), x7] ∧ s = st.new (.lst ws))
   (rangeW 1 ts.length) _ _ ⟨T p :: ts, rfl, (fun w hw => (List.mem_cons.mp hw).elim (fun q => by rw [q]; exact atp) (hts w)), none, rfl, rfl⟩ (fun x hx Γ s ⟨ws, l, hw, x7, hΓ, hs⟩ => by
    subst hΓ hs
    obtain ⟨k, hk, rfl⟩ := mem_rangeW1 hx
    obtain ⟨ws', l', hw', ee⟩ := fact_turn a b d e g f0 f1 f2 f3 ha hb hd n (.tup (T p :: ts)) dk st ws hw (1 + k) (by omega) none
    refine ⟨_, _, ?_, ws', by omega, hw', some (.int ((1 + k : Nat) : Int)), rfl, rfl⟩
    rw [show W.int (1 + (k : Int)) = W.int ((1 + k : Nat) : Int) by first | rfl | (congr 1; omega)]
    exact ee)
  obtain ⟨d0, d1⟩ := mod_lt (n / 2) 3 (by decide)
  have ln := len_new st ws (Γ := [some (.lst ([a, b, d, e, g].map T)), some (.lst ([f0, f1, f2, f3].map T)), some (.int n), some (.tup (T p :: ts)), some (.dct ks vs), none, some (.ref st.nxt), x7]) (r := rVar 6) rfl
  have cc : runAnd (run2 (run2 (run2 (rVar 2) (rCon (W.int 2)) opDiv) (rCon (W.int 3)) opMod) (rCon (W.int 1)) opEq) (run2 (runN (runsCons (rVar 6) runsNil) opLen) (rCon (W.int 1)) opGt) [some (.lst ([a, b, d, e, g].map T)), some (.lst ([f0, f1, f2, f3].map T)), some (.int n), some (.tup (T p :: ts)), some (.dct ks vs), none, some (.ref st.nxt), x7] (st.new (.lst ws)) = .ok (.bl ((n / 2 % 3 == 1) && decide (1 < (ws.length : Int)))) (st.new (.lst ws)) := by
   rw [ev_and, ev_run2, ev_run2, ev_run2, ev_v2, ev_ok, ev_con, ev_ok, ev_divI _ _ (by decide) (by decide), ev_ok, ev_con, ev_ok, ev_modI _ _ (by decide), ev_ok, ev_con, ev_ok, ev_eqI, ev_ok, kIf_bl, ev_run2, ln, ev_ok, ev_con, ev_ok, ev_gtI]
   cases n / 2 % 3 == 1 <;> rfl
  have fin : ∀ ws' : List W, ws'.length = ws.length → (∀ w ∈ ws', At w) → (sSeq (sIf (runAnd (run2 (run2 (run2 (rVar 2) (rCon (W.int 2)) opDiv) (rCon (W.int 3)) opMod) (rCon (W.int 1)) opEq) (run2 (runN (runsCons (rVar 6) runsNil) opLen) (rCon (W.int 1)) opGt))
     (sSeq (sSetIx (rVar 6) (run2 (rCon (W.int 1)) (run2 (run2 (rVar 2) (rCon (W.int 6)) opDiv) (run2 (runN (runsCons (rVar 6) runsNil) opLen) (rCon (W.int 1)) opSub) opMod) opAdd) (runN (runsCons (rVar 0) (runsCons (run2 (rVar 2) (rCon (W.int 31)) opDiv) runsNil)) (calmOp op_l_value))) sPass) sPass)
     (sSeq (sRet (runN (runsCons (rVar 6) runsNil) opTuple)) sPass)) [some (.lst ([a, b, d, e, g].map T)), some (.lst ([f0, f1, f2, f3].map T)), some (.int n), some (.tup (T p :: ts)), some (.dct ks vs), none, some (.ref st.nxt), x7] (st.new (.lst ws)) = .ok (.rt (.tup ws')) (st.new (.lst ws')) →
    ∃ f us, At f ∧ (∀ u ∈ us, At u) ∧ us.length ≤ 4 ∧ op_l_fact [.lst ([a, b, d, e, g].map T), .lst ([f0, f1, f2, f3].map T), .int n, .tup (T p :: ts), .dct ks vs] st = .ok (.tup (f :: us)) st := by
   intro ws' l' w' ee
   cases ws' with
   | nil => rw [List.length_nil] at l'; omega
   | cons f us =>
    refine ⟨f, us, w' f List.mem_cons_self, fun u hu => w' u (List.mem_cons_of_mem _ hu), by rw [List.length_cons] at l'; omega, ?_⟩
    unfold factBody at e1
    unfold op_l_fact
    rw [ev_op5]
    unfold r_l_fact
    rw [show List.replicate (8 - 5) (none : Option W) = [none, none, none] from rfl, ev_seq, ev_if, c0, ev_ok, kIf_bl, hn, if_neg Bool.false_ne_true, ev_pass, ev_ok, kSeq_nx, ev_seq, e_set, f6, ev_ok, ks6, ev_ok, kSeq_nx, ev_seq, e_for, rg, ev_ok, kFor_, e1, ev_ok, kSeq_nx, ee, ev_rtK]
    exact keep_tup st _ _ w' (new_old st _)
  have tp : ∀ ws' : List W, ws'.length = ws.length → runN (runsCons (rVar 6) runsNil) opTuple [some (.lst ([a, b, d, e, g].map T)), some (.lst ([f0, f1, f2, f3].map T)), some (.int n), some (.tup (T p :: ts)), some (.dct ks vs), none, some (.ref st.nxt), x7] (st.new (.lst ws')) = .ok (.tup ws') (st.new (.lst ws')) := fun ws' l' => by
   rw [ev_runN, ev_cons, ev_v6, ev_ok, ev_nil, ev_ok, ev_ok]
   show (match itemsOf (st.new (.lst ws')) (.ref st.nxt) with | some xs => opTup xs _ | none => .stuck) = _
   rw [items_newL]
   exact ev_tup _ (size_small (by omega))
  cases hc : (n / 2 % 3 == 1) && decide (1 < (ws.length : Int)) with
  | false =>
   refine fin ws rfl w1 ?_
   rw [ev_seq, ev_if, cc, ev_ok, kIf_bl, hc, if_neg Bool.false_ne_true, ev_pass, ev_ok, kSeq_nx, ret_to (tp ws rfl)]
  | true =>
   rw [Bool.and_eq_true, decide_eq_true_eq] at hc
   have hl1 := hc.2
   obtain ⟨q0, q1⟩ := mod_lt (n / 6) ((ws.length : Int) - 1) (by omega)
   obtain ⟨v, hv, ev⟩ := value_ok a b d e g ha hb hd (n / 31) (st.new (.lst ws))
   have cv := callN2 (a := rVar 0) (b := run2 (rVar 2) (rCon (W.int 31)) opDiv) (Γ := [some (.lst ([a, b, d, e, g].map T)), some (.lst ([f0, f1, f2, f3].map T)), some (.int n), some (.tup (T p :: ts)), some (.dct ks vs), none, some (.ref st.nxt), x7]) (st := st.new (.lst ws)) (y := .int (n / 31)) rfl (by rw [ev_run2, ev_v2, ev_ok, ev_con, ev_ok, ev_divI _ _ (by decide) (by decide)]) ev
   have ck : run2 (rCon (W.int 1)) (run2 (run2 (rVar 2) (rCon (W.int 6)) opDiv) (run2 (runN (runsCons (rVar 6) runsNil) opLen) (rCon (W.int 1)) opSub) opMod) opAdd [some (.lst ([a, b, d, e, g].map T)), some (.lst ([f0, f1, f2, f3].map T)), some (.int n), some (.tup (T p :: ts)), some (.dct ks vs), none, some (.ref st.nxt), x7] (st.new (.lst ws)) = .ok (.int ((1 + (n / 6 % ((ws.length : Int) - 1)).toNat : Nat) : Int)) (st.new (.lst ws)) := by
    rw [ev_run2, ev_con, ev_ok, ev_run2, ev_run2, ev_v2, ev_ok, ev_con, ev_ok, ev_divI _ _ (by decide) (by decide), ev_ok, ev_run2, ln, ev_ok, ev_con, ev_ok, ev_subI, ev_ok, ev_modI _ _ (by omega), ev_ok, ev_addI]
    congr 2
    omega
   have hk : 1 + (n / 6 % ((ws.length : Int) - 1)).toNat < ws.length := by omega
   generalize 1 + (n / 6 % ((ws.length : Int) - 1)).toNat = k at ck hk
   refine fin (ws.set k v) List.length_set (fun y hy => ?_) ?_
   ·rcases List.mem_or_eq_of_mem_set hy with h | h
    ·exact w1 y h
    ·rw [h]; exact hv.at_
   ·rw [ev_seq, ev_if, cc, ev_ok, kIf_bl, hc.1, decide_eq_true hl1, if_pos (show (true && true) = true from rfl), ev_seq, ev_setIx, cv, ev_ok, ev_v6, ev_ok, ck, ev_ok, setW v st hk, ev_ok, ev_ok, kSeq_nx, ev_pass, ev_ok, kSeq_nx, ret_to (tp _ List.length_set)]
end DL.My
namespace DL.My
open PySem L2
theorem in_frees {f0 f1 f2 f3 : List Nat} (r0 : Fr f0) (r1 : Fr f1) (r2 : Fr f2) (r3 : Fr f3) {t : W} (ht : Tm f0 f1 f2 t) (st : S) : opIn t (.lst ([f0, f1, f2, f3].map T)) st = .ok (.bl (freeW t)) st := by
 obtain ⟨b, e, hb⟩ := in_words (tm_at r0 r1 r2 ht) [f0, f1, f2, f3] st
 have eb : b = freeW t := by
  have fr : ∀ {z : List Nat}, Fr z → z ∈ [f0, f1, f2, f3] → t = T z → b = freeW t := fun hz hm q => by
   rw [hb.mpr ⟨_, hm, q⟩, q, free_T hz]
  rcases ht with h | q | q | q
  ·rw [not_free h]
   cases b with
   | false => rfl
   | true =>
    obtain ⟨z, hz, q⟩ := hb.mp rfl
    have rz : Fr z := by
     simp only [List.mem_cons, List.not_mem_nil, or_false] at hz
     rcases hz with rfl | rfl | rfl | rfl
     ·exact r0
     ·exact r1
     ·exact r2
     ·exact r3
    exact absurd q (val_ne_free h rz)
  ·exact fr r0 (by simp) q
  ·exact fr r1 (by simp) q
  ·exact fr r2 (by simp) q
 rw [e, eb]
noncomputable def dueBody : RunS := (sSeq (sIf (run2 (run2 (rVar 1) (rVar 5) opIdx) (rVar 0) opIn)
  (sSeq (sIf (run2 (runM "dict" (rVar 4) (runsCons (run2 (rVar 1) (rVar 5) opIdx) (runsCons (run2 (rVar 2) (rVar 5) opIdx) runsNil)) opSetd) (run2 (rVar 2) (rVar 5) opIdx) opNe)
  (sSeq (sRet (rCon W.non))
 sPass)
  sPass)
 sPass)
  (sSeq (sIf (run2 (run2 (rVar 1) (rVar 5) opIdx) (run2 (rVar 2) (rVar 5) opIdx) opNe)
  (sSeq (sRet (rCon W.non))
 sPass)
  sPass)
 sPass))
 sPass)
theorem d_turn {f0 f1 f2 f3 : List Nat} (r0 : Fr f0) (r1 : Fr f1) (r2 : Fr f2) (r3 : Fr f3) {xs ys : List W} {x3 : Option W} {st : S} {n : Nat} {ks : List Key} {vs : List W} {t u : W} (h : DOk n ks vs) (hn : n ≤ 900) (ht : Tm f0 f1 f2 t) (hu : At u) (k : Nat) (hx : xs[k]? = some t) (hy : ys[k]? = some u) (Γ : Ga) (hΓ : Γ = [some (.lst ([f0, f1, f2, f3].map T)), some (.tup xs), some (.tup ys), x3, some (.ref st.nxt), some (.int k)]) :
  (∃ ks' vs', DOk (n + 1) ks' vs' ∧ (∀ ts us, mt (t :: ts) (u :: us) ks vs = mt ts us ks' vs') ∧ dueBody Γ (st.new (.dct ks vs)) = .ok (.nx Γ) (st.new (.dct ks' vs'))) ∨
  ((∀ ts us, mt (t :: ts) (u :: us) ks vs = none) ∧ ∃ o, dueBody Γ (st.new (.dct ks vs)) = .ok (.rt .non) (st.new o)) := by
 have at_ := tm_at r0 r1 r2 ht
 have c1 : ∀ s, run2 (rVar 1) (rVar 5) opIdx Γ s = .ok t s := fun s => by
  rw [hΓ, ev_run2, ev_v1, ev_ok, ev_v5, ev_ok]
  exact ev_idxT _ _ _ (at_nat _ _ _ hx)
 have c2 : ∀ s, run2 (rVar 2) (rVar 5) opIdx Γ s = .ok u s := fun s => by
  rw [hΓ, ev_run2, ev_v2, ev_ok, ev_v5, ev_ok]
  exact ev_idxT _ _ _ (at_nat _ _ _ hy)
 have c0 : ∀ s, run2 (run2 (rVar 1) (rVar 5) opIdx) (rVar 0) opIn Γ s = .ok (.bl (freeW t)) s := fun s => by
  have e0 : rVar 0 Γ s = .ok (.lst ([f0, f1, f2, f3].map T)) s := by rw [hΓ]; exact ev_v0 _
  rw [ev_run2, c1, ev_ok, e0, ev_ok, in_frees r0 r1 r2 r3 ht]
 have c4 : ∀ s, rVar 4 Γ s = .ok (.ref st.nxt) s := fun s => by rw [hΓ]; exact ev_v4 _ _ _ _ _
 have hd : runM "dict" (rVar 4) (runsCons (run2 (rVar 1) (rVar 5) opIdx) (runsCons (run2 (rVar 2) (rVar 5) opIdx) runsNil)) opSetd Γ (st.new (.dct ks vs)) = opSetd (.ref st.nxt) [t, u] (st.new (.dct ks vs)) := by
  have hk : kindW (st.new (.dct ks vs)) (.ref st.nxt) = some "dict" := by
   show MO.kind ((st.new (.dct ks vs)).mu st.nxt) = _
   rw [new_at]; rfl
  rw [ev_runM, c4, ev_ok, if_pos hk, ev_cons, c1, ev_ok, ev_cons, c2, ev_ok, ev_nil, ev_ok, ev_ok, ev_ok]
 unfold dueBody
 cases hf : freeW t with
 | false =>
  have e : dueBody Γ (st.new (.dct ks vs)) = if weq t u = true then .ok (.nx Γ) (st.new (.dct ks vs)) else .ok (.rt .non) (st.new (.dct ks vs)) := by
   unfold dueBody
   rw [ev_seq, ev_if, c0, ev_ok, kIf_bl, hf, if_neg Bool.false_ne_true, ev_seq, ev_if, ev_run2, c1, ev_ok, c2, ev_ok, ne_At _ at_ hu, ev_ok, kIf_bl]
   cases weq t u <;> rfl
  unfold dueBody at e
  cases hq : weq t u with
  | true =>
   rw [hq, if_pos rfl] at e
   exact .inl ⟨ks, vs, h.mono (Nat.le_succ n), fun ts us => by
    show (if freeW t = true then _ else if weq t u = true then mt ts us ks vs else none) = _
    rw [hf, hq]; rfl, e⟩
  | false =>
   rw [hq, if_neg Bool.false_ne_true] at e
   exact .inr ⟨fun ts us => by
    show (if freeW t = true then _ else if weq t u = true then mt ts us ks vs else none) = _
    rw [hf, hq]; rfl, _, e⟩
 | true =>
  have go : ∀ (w : W) (ks' : List Key) (vs' : List W), At w → opSetd (.ref st.nxt) [t, u] (st.new (.dct ks vs)) = .ok w (st.new (.dct ks' vs')) →
    dueBody Γ (st.new (.dct ks vs)) = if weq w u = true then .ok (.nx Γ) (st.new (.dct ks' vs')) else .ok (.rt .non) (st.new (.dct ks' vs')) := by
   intro w ks' vs' hw e
   unfold dueBody
   rw [ev_seq, ev_if, c0, ev_ok, kIf_bl, hf, if_pos rfl, ev_seq, ev_if, ev_run2, hd, e, ev_ok, c2, ev_ok, ne_At _ hw hu, ev_ok, kIf_bl]
   cases weq w u <;> rfl
  unfold dueBody at go
  cases hv : valW ks vs (keyOf t) with
  | some v =>
   have e := go v ks vs (h.at_ v (valW_mem hv)) (setd_old at_ hv)
   cases hq : weq v u with
   | true =>
    rw [hq, if_pos rfl] at e
    exact .inl ⟨ks, vs, h.mono (Nat.le_succ n), fun ts us => by
     show (if freeW t = true then (match valW ks vs (keyOf t) with | some v => if weq v u = true then mt ts us ks vs else none | none => _) else _) = _
     rw [hf, if_pos rfl, hv]
     show (if weq v u = true then mt ts us ks vs else none) = _
     rw [hq]; rfl, e⟩
   | false =>
    rw [hq, if_neg Bool.false_ne_true] at e
    exact .inr ⟨fun ts us => by
     show (if freeW t = true then (match valW ks vs (keyOf t) with | some v => if weq v u = true then mt ts us ks vs else none | none => _) else _) = _
     rw [hf, if_pos rfl, hv]
     show (if weq v u = true then mt ts us ks vs else none) = _
     rw [hq]; rfl, _, e⟩
  | none =>
   have e := go u (ks ++ [keyOf t]) (vs ++ [u]) hu (setd_new at_ h.len (by have := h.most; omega) hv)
   rw [weq_self, if_pos rfl] at e
   exact .inl ⟨_, _, h.put ((valW_none h.len).mp hv) hu, fun ts us => by
    show (if freeW t = true then (match valW ks vs (keyOf t) with | some v => _ | none => mt ts us (ks ++ [keyOf t]) (vs ++ [u])) else _) = _
    rw [hf, if_pos rfl, hv], e⟩
theorem rangeW_cons (i : Int) (n : Nat) : rangeW i (n + 1) = .int i :: rangeW (i + 1) n := by
 unfold rangeW
 rw [List.range_succ_eq_map, List.map_cons, List.map_map]
 congr 1
 ·congr 1; omega
 ·apply List.map_congr_left
  intro j _
  show W.int (i + ((j + 1 : Nat) : Int)) = W.int (i + 1 + (j : Int))
  congr 1; omega
theorem d_loop {f0 f1 f2 f3 : List Nat} (r0 : Fr f0) (r1 : Fr f1) (r2 : Fr f2) (r3 : Fr f3) {xs ys : List W} {x3 : Option W} {st : S} : ∀ (ts us : List W) (i n : Nat) (ks : List Key) (vs : List W) (x5 : Option W), ts.length = us.length → n + ts.length ≤ 900 → xs.drop i = ts → ys.drop i = us → (∀ t ∈ ts, Tm f0 f1 f2 t) → (∀ u ∈ us, At u) → DOk n ks vs →
  (∃ ks' vs', mt ts us ks vs = some (ks', vs') ∧ DOk (n + ts.length) ks' vs' ∧ ∃ y5, loopS 5 dueBody (rangeW (i : Int) ts.length) [some (.lst ([f0, f1, f2, f3].map T)), some (.tup xs), some (.tup ys), x3, some (.ref st.nxt), x5] (st.new (.dct ks vs)) = .ok (.nx [some (.lst ([f0, f1, f2, f3].map T)), some (.tup xs), some (.tup ys), x3, some (.ref st.nxt), y5]) (st.new (.dct ks' vs'))) ∨
  (mt ts us ks vs = none ∧ ∃ o, loopS 5 dueBody (rangeW (i : Int) ts.length) [some (.lst ([f0, f1, f2, f3].map T)), some (.tup xs), some (.tup ys), x3, some (.ref st.nxt), x5] (st.new (.dct ks vs)) = .ok (.rt .non) (st.new o))
 | [], [], i, n, ks, vs, x5, _, _, _, _, _, _, h => .inl ⟨ks, vs, by unfold mt; rfl, h, x5, rfl⟩
 | [], _ :: _, _, _, _, _, _, hl, _, _, _, _, _, _ => by simp at hl
 | _ :: _, [], _, _, _, _, _, hl, _, _, _, _, _, _ => by simp at hl
 | t :: ts, u :: us, i, n, ks, vs, x5, hl, hn, hx, hy, hts, hus, h => by
  have hl' : ts.length = us.length := by simpa using hl
  have hn' : n + (ts.length + 1) ≤ 900 := hn
  have hx0 : xs[i]? = some t := by rw [← Nat.add_zero i, ← List.getElem?_drop, hx]; rfl
  have hy0 : ys[i]? = some u := by rw [← Nat.add_zero i, ← List.getElem?_drop, hy]; rfl
  have hx1 : xs.drop (i + 1) = ts := by rw [← List.drop_drop, hx]; rfl
  have hy1 : ys.drop (i + 1) = us := by rw [← List.drop_drop, hy]; rfl
  have stp : loopS 5 dueBody (rangeW (i : Int) (t :: ts).length) [some (.lst ([f0, f1, f2, f3].map T)), some (.tup xs), some (.tup ys), x3, some (.ref st.nxt), x5] (st.new (.dct ks vs)) = (dueBody [some (.lst ([f0, f1, f2, f3].map T)), some (.tup xs), some (.tup ys), x3, some (.ref st.nxt), some (.int i)] (st.new (.dct ks vs))).bind fun fl st' => match fl with
   | .nx Γ' => loopS 5 dueBody (rangeW ((i + 1 : Nat) : Int) ts.length) Γ' st'
   | .ct Γ' => loopS 5 dueBody (rangeW ((i + 1 : Nat) : Int) ts.length) Γ' st'
   | .bk Γ' => .ok (.nx Γ') st'
   | .rt w => .ok (.rt w) st' := by
   rw [List.length_cons, rangeW_cons]; rfl
  rcases d_turn r0 r1 r2 r3 (xs := xs) (ys := ys) (x3 := x3) (st := st) h (by omega) (hts t List.mem_cons_self) (hus u List.mem_cons_self) i hx0 hy0 _ rfl with ⟨ks', vs', hk', hm, e⟩ | ⟨hm, o, e⟩
  ·rw [e, ev_ok] at stp
   rcases d_loop r0 r1 r2 r3 (xs := xs) (ys := ys) (x3 := x3) (st := st) ts us (i + 1) (n + 1) ks' vs' (some (.int i)) hl' (by omega) hx1 hy1 (fun x hx => hts x (List.mem_cons_of_mem _ hx)) (fun x hx => hus x (List.mem_cons_of_mem _ hx)) hk' with ⟨k2, v2, m2, d2, z5, e2⟩ | ⟨m2, o, e2⟩
   ·exact .inl ⟨k2, v2, by rw [hm]; exact m2, by rw [List.length_cons, show n + (ts.length + 1) = n + 1 + ts.length by omega]; exact d2, z5, stp.trans e2⟩
   ·exact .inr ⟨by rw [hm]; exact m2, o, stp.trans e2⟩
  ·rw [e, ev_ok] at stp
   exact .inr ⟨hm ts us, o, stp⟩
noncomputable def mo (p f : W) (ts us : List W) (ks : List Key) (vs : List W) : Option (List Key × List W) := if (weq p f && decide (ts.length = us.length)) = true then mt ts us ks vs else none
theorem mo_pos {p f : W} {ts us : List W} {ks : List Key} {vs : List W} (h : weq p f = true ∧ ts.length = us.length) : mo p f ts us ks vs = mt ts us ks vs := by
 unfold mo
 rw [h.1, decide_eq_true h.2]; rfl
theorem mo_neg {p f : W} {ts us : List W} {ks : List Key} {vs : List W} (h : ¬ (weq p f = true ∧ ts.length = us.length)) : mo p f ts us ks vs = none := by
 unfold mo
 rw [if_neg]
 intro e
 rw [Bool.and_eq_true, decide_eq_true_eq] at e
 exact h e
theorem matched_told {n : Nat} {ks : List Key} {vs : List W} {p f : W} {ts us : List W} (hp : At p) (hf : At f) (hts : ∀ t ∈ ts, At t) (hus : ∀ u ∈ us, At u) (h : DOk n ks vs) (hn : n + ts.length ≤ 900) :
  (∀ k v, mo p f ts us ks vs = some (k, v) → DOk (n + ts.length) k v) ∧ ∀ st, op_matched [.tup (p :: ts), .tup (f :: us), .dct ks vs] st = told st (mo p f ts us ks vs) := by
 refine ⟨fun k v q => ?_, fun st => ?_⟩
 ·rcases matched_ok st0 hp hf hts hus h hn with ⟨hc, ⟨k', v', hm, dk, _⟩ | ⟨hm, _⟩⟩ | ⟨hc, _⟩
  ·rw [mo_pos hc, hm] at q; cases q; exact dk
  ·rw [mo_pos hc, hm] at q; cases q
  ·rw [mo_neg hc] at q; cases q
 ·rcases matched_ok st hp hf hts hus h hn with ⟨hc, ⟨k', v', hm, dk, e⟩ | ⟨hm, e⟩⟩ | ⟨hc, e⟩
  ·rw [e, mo_pos hc, hm]; rfl
  ·rw [e, mo_pos hc, hm]; rfl
  ·rw [e, mo_neg hc]; rfl
theorem due_ok {f0 f1 f2 f3 : List Nat} (r0 : Fr f0) (r1 : Fr f1) (r2 : Fr f2) (r3 : Fr f3) {n : Nat} {ks : List Key} {vs : List W} {p f : W} {ts us : List W} (st : S) (hp : At p) (hf : At f) (hts : ∀ t ∈ ts, Tm f0 f1 f2 t) (hus : ∀ u ∈ us, At u) (h : DOk n ks vs) (hn : n + ts.length ≤ 900) :
  op_l_due [.lst ([f0, f1, f2, f3].map T), .tup (p :: ts), .tup (f :: us), .dct ks vs] st = due st (mo p f ts us ks vs) := by
 have c1 : runOr (run2 (run2 (rVar 1) (rCon (W.int 0)) opIdx) (run2 (rVar 2) (rCon (W.int 0)) opIdx) opNe) (run2 (runN (runsCons (rVar 1) runsNil) opLen) (runN (runsCons (rVar 2) runsNil) opLen) opNe) [some (.lst ([f0, f1, f2, f3].map T)), some (.tup (p :: ts)), some (.tup (f :: us)), some (.dct ks vs), none, none] st = .ok (.bl (!weq p f || !decide (ts.length = us.length))) st := by
  have el : ((((p :: ts).length : Nat) : Int) == (((f :: us).length : Nat) : Int)) = decide (ts.length = us.length) := by
   rw [List.length_cons, List.length_cons]
   by_cases h : ts.length = us.length
   ·rw [h]; simp
   ·rw [decide_eq_false h, beq_eq_false_iff_ne]; omega
  have e2 : run2 (runN (runsCons (rVar 1) runsNil) opLen) (runN (runsCons (rVar 2) runsNil) opLen) opNe [some (.lst ([f0, f1, f2, f3].map T)), some (.tup (p :: ts)), some (.tup (f :: us)), some (.dct ks vs), none, none] st = .ok (.bl (!decide (ts.length = us.length))) st := by
   rw [← el]
   simp only [EV, Nat.reduceSub]
  rw [ev_or, ev_run2, ev_run2, ev_v1, ev_ok, ev_con, ev_ok, idx0T, ev_ok, ev_run2, ev_v2, ev_ok, ev_con, ev_ok, idx0T, ev_ok, ne_At st hp hf, ev_ok, kIf_bl, e2]
  cases weq p f <;> rfl
 by_cases hc : weq p f = true ∧ ts.length = us.length
 ·have dc : runN (runsCons (rVar 3) runsNil) (opDictC true) [some (.lst ([f0, f1, f2, f3].map T)), some (.tup (p :: ts)), some (.tup (f :: us)), some (.dct ks vs), none, none] st = .ok (.ref st.nxt) (st.new (.dct ks vs)) := rfl
  have rg : runRng2 (rCon (W.int 1)) (runN (runsCons (rVar 1) runsNil) opLen) [some (.lst ([f0, f1, f2, f3].map T)), some (.tup (p :: ts)), some (.tup (f :: us)), some (.dct ks vs), some (.ref st.nxt), none] (st.new (.dct ks vs)) = .ok (rangeW 1 ts.length) (st.new (.dct ks vs)) := by
   have := ev_rng2 (r := rCon (W.int 1)) (r' := runN (runsCons (rVar 1) runsNil) opLen) (Γ := [some (.lst ([f0, f1, f2, f3].map T)), some (.tup (p :: ts)), some (.tup (f :: us)), some (.dct ks vs), some (.ref st.nxt), none]) (st := st.new (.dct ks vs)) (i := 1) (j := ((p :: ts).length : Int)) rfl rfl (by omega) (by rw [List.length_cons]; omega)
   rwa [show (((p :: ts).length : Int) - 1).toNat = ts.length by rw [List.length_cons]; omega] at this
  have lp := d_loop r0 r1 r2 r3 (xs := p :: ts) (ys := f :: us) (x3 := some (.dct ks vs)) (st := st) ts us 1 n ks vs none hc.2 hn rfl rfl hts hus h
  rw [mo_pos hc]
  unfold dueBody at lp
  unfold op_l_due
  rw [ev_op4]
  unfold r_l_due
  rw [show List.replicate (6 - 4) (none : Option W) = [none, none] from rfl, ev_seq, ev_if, c1, ev_ok, kIf_bl, hc.1, decide_eq_true hc.2, show (!true || !true) = false from rfl, if_neg Bool.false_ne_true, ev_pass, ev_ok, kSeq_nx, ev_seq, e_set, dc, ev_ok, ks4, ev_ok, kSeq_nx, ev_seq, e_for, rg, ev_ok, kFor_]
  rcases lp with ⟨k2, v2, m2, d2, z5, e2⟩ | ⟨m2, o, e2⟩
  ·rw [show ((1 : Nat) : Int) = 1 from rfl] at e2
   rw [e2, ev_ok, kSeq_nx, ret_to (ev_v4 _ _ _ _ _), ev_rtK, keep_newD st d2, m2]; rfl
  ·rw [show ((1 : Nat) : Int) = 1 from rfl] at e2
   rw [e2, ev_ok, kSeq_rt, ev_rtK, keep_non, m2]; rfl
 ·have hb : (!weq p f || !decide (ts.length = us.length)) = true := by
   cases hq : weq p f with
   | false => rfl
   | true => rw [decide_eq_false (fun e => hc ⟨hq, e⟩)]; rfl
  rw [mo_neg hc]
  unfold op_l_due
  rw [ev_op4]
  unfold r_l_due
  rw [show List.replicate (6 - 4) (none : Option W) = [none, none] from rfl, ev_seq, ev_if, c1, ev_ok, kIf_bl, hb, if_pos rfl]
  exact keep_non0 st
theorem mt_fills {f0 f1 f2 : List Nat} (r0 : Fr f0) (r1 : Fr f1) (r2 : Fr f2) : ∀ (ts us : List W) (n : Nat) (ks : List Key) (vs : List W) (k' : List Key) (v' : List W), ts.length = us.length → (∀ t ∈ ts, Tm f0 f1 f2 t) → (∀ u ∈ us, At u) → DOk n ks vs → (∀ j, valW ks vs j ≠ none → ∃ z, Fr z ∧ j = keyOf (T z)) → mt ts us ks vs = some (k', v') →
  (∀ j, valW k' v' j ≠ none → ∃ z, Fr z ∧ j = keyOf (T z)) ∧ (∀ j v, valW ks vs j = some v → valW k' v' j = some v) ∧ ts.map (fl k' v') = us
 | [], [], n, ks, vs, k', v', _, _, _, _, dom, e => by
  unfold mt at e
  cases e
  exact ⟨dom, fun _ _ h => h, rfl⟩
 | [], _ :: _, _, _, _, _, _, hl, _, _, _, _, _ => by simp at hl
 | _ :: _, [], _, _, _, _, _, hl, _, _, _, _, _ => by simp at hl
 | t :: ts, u :: us, n, ks, vs, k', v', hl, hts, hus, dk, dom, e => by
  have hl' : ts.length = us.length := by simpa using hl
  have ht := hts t List.mem_cons_self
  have at_ := tm_at r0 r1 r2 ht
  have ih := fun n ks vs dk dom e => mt_fills r0 r1 r2 ts us n ks vs k' v' hl' (fun x hx => hts x (List.mem_cons_of_mem _ hx)) (fun x hx => hus x (List.mem_cons_of_mem _ hx)) dk dom e
  have e : (if freeW t = true then (match valW ks vs (keyOf t) with
   | some v => if weq v u = true then mt ts us ks vs else none
   | none => mt ts us (ks ++ [keyOf t]) (vs ++ [u]))
   else if weq t u = true then mt ts us ks vs else none) = some (k', v') := e
  cases hf : freeW t with
  | false =>
   rw [hf, if_neg Bool.false_ne_true] at e
   cases hq : weq t u with
   | false => rw [hq, if_neg Bool.false_ne_true] at e; cases e
   | true =>
    rw [hq, if_pos rfl] at e
    obtain ⟨d1, m1, e1⟩ := ih n ks vs dk dom e
    refine ⟨d1, m1, ?_⟩
    have en : valW k' v' (keyOf t) = none := by
     cases q : valW k' v' (keyOf t) with
     | none => rfl
     | some v =>
      obtain ⟨z, hz, ez⟩ := d1 (keyOf t) (by rw [q]; intro z; cases z)
      rw [keyOf_inj at_ hz.at_ ez, free_T hz] at hf
      cases hf
    have ef : fl k' v' t = u := by unfold fl; rw [en]; exact weq_iff.mp hq
    rw [List.map_cons, ef, e1]
  | true =>
   have frz : ∃ z, Fr z ∧ t = T z := by
    rcases ht with hv | q | q | q
    ·rw [not_free hv] at hf; cases hf
    ·exact ⟨_, r0, q⟩
    ·exact ⟨_, r1, q⟩
    ·exact ⟨_, r2, q⟩
   rw [hf, if_pos rfl] at e
   cases hv : valW ks vs (keyOf t) with
   | some v =>
    rw [hv] at e
    have e : (if weq v u = true then mt ts us ks vs else none) = some (k', v') := e
    cases hq : weq v u with
    | false => rw [hq, if_neg Bool.false_ne_true] at e; cases e
    | true =>
     rw [hq, if_pos rfl] at e
     obtain ⟨d1, m1, e1⟩ := ih n ks vs dk dom e
     refine ⟨d1, m1, ?_⟩
     have ef : fl k' v' t = u := by unfold fl; rw [m1 _ _ hv]; exact weq_iff.mp hq
     rw [List.map_cons, ef, e1]
   | none =>
    rw [hv] at e
    have e : mt ts us (ks ++ [keyOf t]) (vs ++ [u]) = some (k', v') := e
    have nk := (valW_none dk.len).mp hv
    have va := fun j => valW_app (v := u) j dk.len nk
    obtain ⟨d1, m1, e1⟩ := ih (n + 1) _ _ (dk.put nk (hus u List.mem_cons_self)) (fun j hj => by
     rw [va] at hj
     by_cases q : j = keyOf t
     ·obtain ⟨z, hz, ez⟩ := frz
      exact ⟨z, hz, by rw [q, ez]⟩
     ·rw [if_neg q] at hj; exact dom j hj) e
    refine ⟨d1, fun j v hj => m1 j v ?_, ?_⟩
    ·rw [va, if_neg]
     ·exact hj
     ·intro q; rw [q, hv] at hj; cases hj
    ·have ef : fl k' v' t = u := by unfold fl; rw [m1 (keyOf t) u (by rw [va, if_pos rfl])]; rfl
     rw [List.map_cons, ef, e1]
theorem eqI_self {k : Nat} : ∀ {ws : List W}, (∀ w ∈ ws, At w) → eqItems (eqD (k + 1)) ws ws = some true
 | [], _ => by unfold eqItems; rfl
 | w :: ws, h => by
  unfold eqItems
  rw [eqD_At k (h w List.mem_cons_self) (h w List.mem_cons_self), weq_self, eqI_self fun x hx => h x (List.mem_cons_of_mem _ hx)]; rfl
theorem ne_tup (st : S) {ws : List W} (h : ∀ w ∈ ws, At w) : opNe (.tup ws) (.tup ws) st = .ok (.bl false) st := by
 have e : eqD 12 (.tup ws) (.tup ws) = some true := by
  show (eqItems (eqD 11) ws ws).map (fun r => r && ws.length == ws.length) = _
  rw [eqI_self h]; simp
 have e2 : eqW st (.tup ws) (.tup ws) = some true := by
  unfold eqW
  rw [show eqDct st (.tup ws) (.tup ws) = none from rfl, e]
 unfold opNe
 rw [e2]; rfl
end DL.My
namespace DL.My
open PySem L2
section
variable {a0 a1 a2 a3 a4 a5 a6 a7 a8 a9 a10 : Option W} {st : S} {w : W}
theorem v10 : rVar 10 [a0, a1, a2, a3, a4, a5, a6, a7, a8, a9, some w] st = .ok w st := Eq.trans rfl rfl
theorem ks10 : kSet 10 [a0, a1, a2, a3, a4, a5, a6, a7, a8, a9, a10] w st = .ok (.nx [a0, a1, a2, a3, a4, a5, a6, a7, a8, a9, some w]) st := Eq.trans rfl rfl
end
noncomputable def lawTail : RunS := (sSeq (sSet 7 (runN (runsCons (rVar 2) (runsCons (rVar 3) (runsCons (rVar 5) (runsCons (rVar 4) runsNil)))) (calmOp op_l_due)))
 (sSeq (sSet 8 (runN (runsCons (rVar 3) (runsCons (rVar 5) (runsCons (rVar 6) runsNil))) (calmOp op_matched)))
 (sSeq (sIf (run2 (rVar 6) (rVar 4) opNe)
  (sSeq (sRet (rCon (W.bl false)))
 sPass)
  sPass)
 (sSeq (sIf (run2 (rVar 7) (rCon W.non) opIs)
  (sSeq (sRet (run2 (rVar 8) (rCon W.non) opIs))
 sPass)
  sPass)
 (sSeq (sIf (runOr (runNot (runN (runsCons (rVar 8) (runsCons (rCon (.ty "dict")) runsNil)) opIsi)) (run2 (rVar 8) (rVar 7) opNe))
  (sSeq (sRet (rCon (W.bl false)))
 sPass)
  sPass)
 (sSeq (sSet 9 (runN (runsCons (rVar 8) runsNil) (opDictC false)))
 (sSeq (sSet 10 (runN (runsCons (rVar 3) (runsCons (rVar 9) runsNil)) (calmOp op_filled)))
 (sSeq (sIf (runOr (runNot (runN (runsCons (rVar 10) (runsCons (rCon (.ty "tuple")) runsNil)) opIsi)) (runOr (run2 (rVar 10) (rVar 5) opNe) (run2 (rVar 9) (rVar 7) opNe)))
  (sSeq (sRet (rCon (W.bl false)))
 sPass)
  sPass)
 (sSeq (sSetIx (rVar 8) (rCon (W.str "Z")) (rCon (W.int 0)))
 (sSeq (sRet (runAnd (run2 (rVar 6) (rVar 4) opEq) (run2 (runN (runsCons (rVar 3) (runsCons (rVar 5) (runsCons (rVar 6) runsNil))) (calmOp op_matched)) (rVar 7) opEq)))
 sPass))))))))))
theorem tail_law {n : Nat} {ks : List Key} {vs : List W} {p f F : W} {ts us : List W} {o : Option (List Key × List W)} {x0 x1 : Option W} (st : S) (h : DOk n ks vs) (ho : ∀ k v, o = some (k, v) → DOk 900 k v)
  (hdue : ∀ s, op_l_due [F, .tup (p :: ts), .tup (f :: us), .dct ks vs] s = due s o) (htold : ∀ s, op_matched [.tup (p :: ts), .tup (f :: us), .dct ks vs] s = told s o) (hf : At f) (hus : ∀ u ∈ us, At u)
  (hfill : ∀ k v s, o = some (k, v) → op_filled [.tup (p :: ts), .dct k v] s = .ok (.tup (f :: us)) s) :
  ∃ s', lawTail [x0, x1, some F, some (.tup (p :: ts)), some (.dct ks vs), some (.tup (f :: us)), some (.dct ks vs), none, none, none, none] st = .ok (.rt (.bl true)) s' := by
 have e7 := hdue st
 have e8 := htold st
 unfold lawTail
 cases o with
 | none =>
  have c7 := callN4 (a := rVar 2) (b := rVar 3) (c := rVar 5) (d := rVar 4) (Γ := [x0, x1, some F, some (.tup (p :: ts)), some (.dct ks vs), some (.tup (f :: us)), some (.dct ks vs), none, none, none, none]) (st := st) rfl rfl rfl rfl e7
  have c8 := callN3 (a := rVar 3) (b := rVar 5) (c := rVar 6) (Γ := [x0, x1, some F, some (.tup (p :: ts)), some (.dct ks vs), some (.tup (f :: us)), some (.dct ks vs), some .non, none, none, none]) (st := st) rfl rfl rfl e8
  refine ⟨st, ?_⟩
  rw [ev_seq, e_set, c7, ev_ok, ks7, ev_ok, kSeq_nx, ev_seq, e_set, c8, ev_ok, ks8, ev_ok, kSeq_nx, ev_seq, ev_if, ev_run2, ev_v6, ev_ok, ev_v4, ev_ok, ne_D (n := n) rfl rfl h, ev_ok, kIf_bl, if_neg Bool.false_ne_true, ev_pass, ev_ok, kSeq_nx]
  rfl
 | some q =>
  obtain ⟨k, v⟩ := q
  have dk := ho k v rfl
  have c7 := callN4 (a := rVar 2) (b := rVar 3) (c := rVar 5) (d := rVar 4) (Γ := [x0, x1, some F, some (.tup (p :: ts)), some (.dct ks vs), some (.tup (f :: us)), some (.dct ks vs), none, none, none, none]) (st := st) rfl rfl rfl rfl e7
  have c8 := callN3 (a := rVar 3) (b := rVar 5) (c := rVar 6) (Γ := [x0, x1, some F, some (.tup (p :: ts)), some (.dct ks vs), some (.tup (f :: us)), some (.dct ks vs), some (.dct k v), none, none, none]) (st := st) rfl rfl rfl e8
  have n2 := dctOf_new st k v
  have hk : kindW (st.new (.dct k v)) (.ref st.nxt) = some "dict" := by
   show MO.kind ((st.new (.dct k v)).mu st.nxt) = _
   rw [new_at]; rfl
  have sz := setD (st := st) (k := T [90]) (v := .int 0) dk (by decide) (.txt _ (by decide))
  generalize st.new (.dct (putW k v (keyOf (T [90])) (.int 0)).1 (putW k v (keyOf (T [90])) (.int 0)).2) = s3 at sz
  generalize hs1 : st.new (.dct k v) = s1 at *
  have ki : runN (runsCons (rVar 8) (runsCons (rCon (.ty "dict")) runsNil)) opIsi [x0, x1, some F, some (.tup (p :: ts)), some (.dct ks vs), some (.tup (f :: us)), some (.dct ks vs), some (.dct k v), some (.ref st.nxt), none, none] s1 = .ok (.bl true) s1 := by
   rw [ev_runN, ev_cons, ev_v8, ev_ok, ev_cons, ev_con, ev_ok, ev_nil, ev_ok, ev_ok, ev_ok, ev_isi, if_pos (by decide), hk]; rfl
  have is1 : run2 (rVar 7) (rCon W.non) opIs [x0, x1, some F, some (.tup (p :: ts)), some (.dct ks vs), some (.tup (f :: us)), some (.dct ks vs), some (.dct k v), some (.ref st.nxt), none, none] s1 = .ok (.bl false) s1 := rfl
  have c9 : runN (runsCons (rVar 8) runsNil) (opDictC false) [x0, x1, some F, some (.tup (p :: ts)), some (.dct ks vs), some (.tup (f :: us)), some (.dct ks vs), some (.dct k v), some (.ref st.nxt), none, none] s1 = .ok (.dct k v) s1 := by
   rw [ev_runN, ev_cons, ev_v8, ev_ok, ev_nil, ev_ok, ev_ok, dictF n2]
  have c10 := callN2 (a := rVar 3) (b := rVar 9) (Γ := [x0, x1, some F, some (.tup (p :: ts)), some (.dct ks vs), some (.tup (f :: us)), some (.dct ks vs), some (.dct k v), some (.ref st.nxt), some (.dct k v), none]) (st := s1) rfl rfl (hfill k v s1 rfl)
  have kt : runN (runsCons (rVar 10) (runsCons (rCon (.ty "tuple")) runsNil)) opIsi [x0, x1, some F, some (.tup (p :: ts)), some (.dct ks vs), some (.tup (f :: us)), some (.dct ks vs), some (.dct k v), some (.ref st.nxt), some (.dct k v), some (.tup (f :: us))] s1 = .ok (.bl true) s1 := by
   rw [ev_runN, ev_cons, v10, ev_ok, ev_cons, ev_con, ev_ok, ev_nil, ev_ok, ev_ok, ev_ok, ev_isi, if_pos (by decide)]; rfl
  have al : ∀ w ∈ f :: us, At w := fun w hw => (List.mem_cons.mp hw).elim (fun q => by rw [q]; exact hf) (hus w)
  have c4 := callN3 (a := rVar 3) (b := rVar 5) (c := rVar 6) (Γ := [x0, x1, some F, some (.tup (p :: ts)), some (.dct ks vs), some (.tup (f :: us)), some (.dct ks vs), some (.dct k v), some (.ref st.nxt), some (.dct k v), some (.tup (f :: us))]) (st := s3) rfl rfl rfl (htold s3)
  refine ⟨s3.new (.dct k v), ?_⟩
  have fin : runAnd (run2 (rVar 6) (rVar 4) opEq) (run2 (runN (runsCons (rVar 3) (runsCons (rVar 5) (runsCons (rVar 6) runsNil))) (calmOp op_matched)) (rVar 7) opEq) [x0, x1, some F, some (.tup (p :: ts)), some (.dct ks vs), some (.tup (f :: us)), some (.dct ks vs), some (.dct k v), some (.ref st.nxt), some (.dct k v), some (.tup (f :: us))] s3 = .ok (.bl true) (s3.new (.dct k v)) := by
   rw [ev_and, ev_run2, ev_v6, ev_ok, ev_v4, ev_ok, eq_D (n := n) rfl rfl h, ev_ok, kIf_bl, if_pos rfl, ev_run2, c4, ev_ok, ev_v7, ev_ok, eq_D (n := 900) (dctOf_new s3 k v) rfl dk]
  rw [ev_seq, e_set, c7, ev_ok, ks7, ev_ok, kSeq_nx, ev_seq, e_set, c8, ev_ok, ks8, ev_ok, kSeq_nx, ev_seq, ev_if, ev_run2, ev_v6, ev_ok, ev_v4, ev_ok, ne_D (n := n) rfl rfl h, ev_ok, kIf_bl, if_neg Bool.false_ne_true, ev_pass, ev_ok, kSeq_nx,
   ev_seq, ev_if, is1, ev_ok, kIf_bl, if_neg Bool.false_ne_true, ev_pass, ev_ok, kSeq_nx, ev_seq, ev_if, ev_or, ev_not, ki, ev_ok, kNot_bl, ev_ok, kIf_bl, if_neg (show ¬ (!true) = true from Bool.false_ne_true), ev_run2, ev_v8, ev_ok, ev_v7, ev_ok, ne_D (n := 900) n2 rfl dk, ev_ok, kIf_bl, if_neg Bool.false_ne_true, ev_pass, ev_ok, kSeq_nx,
   ev_seq, e_set, c9, ev_ok, ks9, ev_ok, kSeq_nx, ev_seq, e_set, c10, ev_ok, ks10, ev_ok, kSeq_nx,
   ev_seq, ev_if, ev_or, ev_not, kt, ev_ok, kNot_bl, ev_ok, kIf_bl, if_neg (show ¬ (!true) = true from Bool.false_ne_true), ev_or, ev_run2, v10, ev_ok, ev_v5, ev_ok, ne_tup s1 al, ev_ok, kIf_bl, if_neg Bool.false_ne_true, ev_run2, ev_v9, ev_ok, ev_v7, ev_ok, ne_D (n := 900) rfl rfl dk, ev_ok, kIf_bl, if_neg Bool.false_ne_true, ev_pass, ev_ok, kSeq_nx,
   ev_seq, ev_setIx, ev_con, ev_ok, ev_v8, ev_ok, ev_con, ev_ok, zT, sz, ev_ok, ev_ok, kSeq_nx, ret_to fin]
theorem law_true (ns : List Int) (hns : ns.length ≤ 63) : ∃ st', op_law [.lst (ns.map W.int)] st0 = .ok (.bl true) st' := by
 generalize st0 = st
 obtain ⟨zs, lz, nz, en⟩ := names_ok (ns.getD 4 0) 5 st (by decide) (by decide +kernel) (fun x hx => by
  have e : rng3W 0 3 (Builtin.Range.rangeSize 0 (((5 : Nat) : Int) - 1) 3).toNat = [.int 0, .int 3] := rfl
  rw [e] at hx
  rcases List.mem_cons.mp hx with hx | hx
  ·exact ⟨0, hx, by decide⟩
  ·exact ⟨3, List.mem_singleton.mp hx, by decide⟩)
 obtain ⟨a, b, d, e, g, rfl⟩ : ∃ a b d e g, zs = [a, b, d, e, g] := by
  match zs, lz with
  | [a, b, d, e, g], _ => exact ⟨a, b, d, e, g, rfl⟩
 have ha := nz a (by simp)
 have hb := nz b (by simp)
 have hd := nz d (by simp)
 have he := nz e (by simp)
 have hg := nz g (by simp)
 obtain ⟨f0, f1, f2, f3, r0, r1, r2, r3, n0, n1, n2, ef⟩ := frees_ok (ns.getD 5 0) st
 obtain ⟨p, ts, hp, hts, lts, ep⟩ := pattern_ok a b d e g f0 f1 f2 f3 ha hb hd he hg r0 r1 r2 (ns.getD 0 0) st
 obtain ⟨ks, vs, dk, dom, el⟩ := fill_ok a b d e g f0 f1 f2 f3 ha hb hd r0 r1 r2 r3 (ns.getD 1 0) st
 have ats : ∀ t ∈ ts, At t := fun t ht => tm_at r0 r1 r2 (hts t ht)
 have atp : At (T p) := .txt p (by have := hp.2.1; omega)
 obtain ⟨f, us, hf, hus, lus, ec⟩ := fact_ok a b d e g f0 f1 f2 f3 ha hb hd he hg (ns.getD 3 0) hp ats lts dk st
 have cn := callN2 (op := op_l_names) (b := rCon (W.int 5)) (callN2 (a := rVar 0) (b := rCon (W.int 4)) (Γ := [some (.lst (ns.map W.int)), none, none, none, none, none, none, none, none, none, none]) (st := st) rfl rfl (of_ok ns 4 st hns)) rfl en
 have cf := callN2 (op := op_l_frees) (b := rCon (W.int 4)) (callN2 (a := rVar 0) (b := rCon (W.int 5)) (Γ := [some (.lst (ns.map W.int)), some (.lst ([a, b, d, e, g].map T)), none, none, none, none, none, none, none, none, none]) (st := st) rfl rfl (of_ok ns 5 st hns)) rfl ef
 have cp := callN3 (op := op_l_pattern) (a := rVar 1) (b := rVar 2) rfl rfl (callN2 (a := rVar 0) (b := rCon (W.int 0)) (Γ := [some (.lst (ns.map W.int)), some (.lst ([a, b, d, e, g].map T)), some (.lst ([f0, f1, f2, f3].map T)), none, none, none, none, none, none, none, none]) (st := st) rfl rfl (of_ok ns 0 st hns)) ep
 have cl := callN3 (op := op_l_fill) (a := rVar 1) (b := rVar 2) rfl rfl (callN2 (a := rVar 0) (b := rCon (W.int 1)) (Γ := [some (.lst (ns.map W.int)), some (.lst ([a, b, d, e, g].map T)), some (.lst ([f0, f1, f2, f3].map T)), some (.tup (T p :: ts)), none, none, none, none, none, none, none]) (st := st) rfl rfl (of_ok ns 1 st hns)) el
 have cc := callN5 (op := op_l_fact) (a := rVar 1) (b := rVar 2) (d := rVar 3) (e := rVar 4) rfl rfl (callN2 (a := rVar 0) (b := rCon (W.int 3)) (Γ := [some (.lst (ns.map W.int)), some (.lst ([a, b, d, e, g].map T)), some (.lst ([f0, f1, f2, f3].map T)), some (.tup (T p :: ts)), some (.dct ks vs), none, none, none, none, none, none]) (st := st) rfl rfl (of_ok ns 3 st hns)) rfl rfl ec
 have c6 : runN (runsCons (rVar 4) runsNil) (opDictC false) [some (.lst (ns.map W.int)), some (.lst ([a, b, d, e, g].map T)), some (.lst ([f0, f1, f2, f3].map T)), some (.tup (T p :: ts)), some (.dct ks vs), some (.tup (f :: us)), none, none, none, none, none] st = .ok (.dct ks vs) st := rfl
 have mtd := matched_told atp hf ats hus dk (show 4 + ts.length ≤ 900 by omega)
 obtain ⟨s', es⟩ := tail_law (F := .lst ([f0, f1, f2, f3].map T)) (p := T p) (f := f) (ts := ts) (us := us) (o := mo (T p) f ts us ks vs) (x0 := some (.lst (ns.map W.int))) (x1 := some (.lst ([a, b, d, e, g].map T))) st dk
  (fun k v q => (mtd.1 k v q).mono (by omega)) (fun s => due_ok r0 r1 r2 r3 s atp hf hts hus dk (by omega)) mtd.2 hf hus (fun k v s q => by
   by_cases hc : weq (T p) f = true ∧ ts.length = us.length
   ·have hm := q
    rw [mo_pos hc] at hm
    obtain ⟨_, _, em⟩ := mt_fills r0 r1 r2 ts us 4 ks vs k v hc.2 hts hus dk dom hm
    rw [filled_ok s ats (by omega) (mtd.1 k v q) rfl, em, weq_iff.mp hc.1]
   ·rw [mo_neg hc] at q; cases q)
 refine ⟨s', ?_⟩
 unfold lawTail at es
 unfold op_law
 rw [ev_op1]
 unfold r_law
 rw [show List.replicate (11 - 1) (none : Option W) = [none, none, none, none, none, none, none, none, none, none] from rfl, ev_seq, e_set, cn, ev_ok, ks1, ev_ok, kSeq_nx, ev_seq, e_set, cf, ev_ok, ks2, ev_ok, kSeq_nx, ev_seq, e_set, cp, ev_ok, ks3, ev_ok, kSeq_nx, ev_seq, e_set, cl, ev_ok, ks4, ev_ok, kSeq_nx, ev_seq, e_set, cc, ev_ok, ks5, ev_ok, kSeq_nx, ev_seq, e_set, c6, ev_ok, ks6, ev_ok, kSeq_nx, es]
 rfl
end DL.My
open PySem PySem.W PyProof.Rows
set_option maxRecDepth 100000 in
set_option maxHeartbeats 0 in
theorem PySem.Challenge.cw_whyfacts_k08_matching_holds : PySem.Challenge.rw_whyfacts_k08_matching.Holds := by
 w_on; o_law; k_head; (case hw => w_witness2)
 k_fill
 refine DL.walkD (l := PySem.Challenge.rw_whyfacts_k08_matching) (op := DL.My.op_law) (k := 12) (x := "_law_script") rfl rfl ⟨rfl, by decide, by decide⟩ (fun w h Y => PySem.W.kIn_of Y) DL.My.law_true ?F
 case F =>
  intro w mg fa h KX G hmg
  refine' DL.My.all_mk KX G hmg ?k1_MOST_SIGNS ?k1_SMALL_LETTERS ?k1_GREAT_LETTERS ?b_all ?b_dict ?b_isinstance ?b_len ?b_list ?b_range ?b_str ?b_tuple ?b_zip ?d_is_short_text ?d_all_small ?d_is_free ?d_matched ?d_filled ?d_l_of ?d_l_names ?d_l_frees ?d_l_value ?d_l_pattern ?d_l_fill ?d_l_fact ?d_l_due ?d_law
  (case k1_MOST_SIGNS => k_is)
  (case k1_SMALL_LETTERS => k_is)
  (case k1_GREAT_LETTERS => k_is)
  (case b_all => k_is)
  (case b_dict => k_is)
  (case b_isinstance => k_is)
  (case b_len => k_is)
  (case b_list => k_is)
  (case b_range => k_is)
  (case b_str => k_is)
  (case b_tuple => k_is)
  (case b_zip => k_is)
  (case d_is_short_text => refine' DL.DIn.mk' ?z1a ?z1b ?z1c ?z1d; (case z1a => k_is); (case z1b => k_is); (case z1c => k_is); (case z1d => k_is))
  (case d_all_small => refine' DL.DIn.mk' ?z2a ?z2b ?z2c ?z2d; (case z2a => k_is); (case z2b => k_is); (case z2c => k_is); (case z2d => k_is))
  (case d_is_free => refine' DL.DIn.mk' ?z3a ?z3b ?z3c ?z3d; (case z3a => k_is); (case z3b => k_is); (case z3c => k_is); (case z3d => k_is))
  (case d_matched => refine' DL.DIn.mk' ?z4a ?z4b ?z4c ?z4d; (case z4a => k_is); (case z4b => k_is); (case z4c => k_is); (case z4d => k_is))
  (case d_filled => refine' DL.DIn.mk' ?z5a ?z5b ?z5c ?z5d; (case z5a => k_is); (case z5b => k_is); (case z5c => k_is); (case z5d => k_is))
  (case d_l_of => refine' DL.DIn.mk' ?z6a ?z6b ?z6c ?z6d; (case z6a => k_is); (case z6b => k_is); (case z6c => k_is); (case z6d => k_is))
  (case d_l_names => refine' DL.DIn.mk' ?z7a ?z7b ?z7c ?z7d; (case z7a => k_is); (case z7b => k_is); (case z7c => k_is); (case z7d => k_is))
  (case d_l_frees => refine' DL.DIn.mk' ?z8a ?z8b ?z8c ?z8d; (case z8a => k_is); (case z8b => k_is); (case z8c => k_is); (case z8d => k_is))
  (case d_l_value => refine' DL.DIn.mk' ?z9a ?z9b ?z9c ?z9d; (case z9a => k_is); (case z9b => k_is); (case z9c => k_is); (case z9d => k_is))
  (case d_l_pattern => refine' DL.DIn.mk' ?z10a ?z10b ?z10c ?z10d; (case z10a => k_is); (case z10b => k_is); (case z10c => k_is); (case z10d => k_is))
  (case d_l_fill => refine' DL.DIn.mk' ?z11a ?z11b ?z11c ?z11d; (case z11a => k_is); (case z11b => k_is); (case z11c => k_is); (case z11d => k_is))
  (case d_l_fact => refine' DL.DIn.mk' ?z12a ?z12b ?z12c ?z12d; (case z12a => k_is); (case z12b => k_is); (case z12c => k_is); (case z12d => k_is))
  (case d_l_due => refine' DL.DIn.mk' ?z13a ?z13b ?z13c ?z13d; (case z13a => k_is); (case z13b => k_is); (case z13c => k_is); (case z13d => k_is))
  (case d_law => refine' DL.DIn.mk' ?z14a ?z14b ?z14c ?z14d; (case z14a => k_is); (case z14b => k_is); (case z14c => k_is); (case z14d => k_is))
