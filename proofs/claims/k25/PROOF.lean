import PyProof.Rows.All
import Wide.All
import OpenK.AllK
import Wide.FinOn
import Lean
import PyProof.EqAt
import PyProof.EqKinds
import PyProof.TupleCall
import PySem.Challenge.RW_whyfacts_k25_drawn
set_option Elab.async false
set_option linter.all false
set_option maxRecDepth 100000
namespace L2
open PySem PySem.Spec PyProof.Rows
abbrev Key := Sum Int Str
def keyIs : Key → Value → Bool
 | .inl k, v => Value.isInt k v
 | .inr x, v => Value.isStrOf x v
def keyH (w : World) : Key → Int
 | .inl k => hashInt k
 | .inr x => hashStr w x
theorem keyIs_shape : ∀ {k : Key} {v : Value}, keyIs k v = true → (∃ i t, k = Sum.inl i ∧ v = Value.int i t) ∨ (∃ x t, k = Sum.inr x ∧ v = Value.str x t)
 | .inl i, v, h => by
  obtain ⟨t, e⟩ := Value.isInt_shape (k := i) (v := v) h
  exact .inl ⟨i, t, rfl, e⟩
 | .inr x, v, h => by
  obtain ⟨t, e⟩ := Value.isStrOf_shape (x := x) (v := v) h
  exact .inr ⟨x, t, rfl, e⟩
theorem keyIs_int (i : Int) (t : Tok) : keyIs (.inl i) (.int i t) = true := by simp [keyIs, Value.isInt]
theorem keyIs_str (x : Str) (t : Tok) : keyIs (.inr x) (.str x t) = true := by simp [keyIs, Value.isStrOf]
theorem key_ll (a b : Int) : decide ((Sum.inl a : Key) = Sum.inl b) = (a == b) := by
 by_cases e : a = b
 ·subst e; simp
 ·have h : ¬ (Sum.inl a : Key) = Sum.inl b := fun q => e (Sum.inl.inj q)
  rw [decide_eq_false h]
  exact (beq_eq_false_iff_ne.mpr e).symm
theorem key_rr (a b : Str) : decide ((Sum.inr a : Key) = Sum.inr b) = decide (a = b) := by
 by_cases e : a = b
 ·subst e; simp
 ·have h : ¬ (Sum.inr a : Key) = Sum.inr b := fun q => e (Sum.inr.inj q)
  rw [decide_eq_false h, decide_eq_false e]
theorem key_lr (a : Int) (b : Str) : decide ((Sum.inl a : Key) = Sum.inr b) = false := decide_eq_false (fun q => nomatch q)
theorem key_rl (a : Str) (b : Int) : decide ((Sum.inr a : Key) = Sum.inl b) = false := decide_eq_false (fun q => nomatch q)
def mixKind (prog : Program) (w : World) : PySem.KeyKind prog w Key where
 is := keyIs
 hash := keyH w
 inj := fun v a b ha hb => by
  rcases keyIs_shape ha with ⟨i, t, rfl, rfl⟩ | ⟨x, t, rfl, rfl⟩
  ·rcases keyIs_shape hb with ⟨j, u, rfl, e⟩ | ⟨y, u, rfl, e⟩
   ·injection e with e1 _; rw [e1]
   ·exact nomatch e
  ·rcases keyIs_shape hb with ⟨j, u, rfl, e⟩ | ⟨y, u, rfl, e⟩
   ·exact nomatch e
   ·injection e with e1 _; rw [e1]
 byValue := fun k v h => by
  rcases keyIs_shape h with ⟨i, t, rfl, rfl⟩ | ⟨x, t, rfl, rfl⟩ <;> rfl
 pyHash := fun hv h => by
  rcases keyIs_shape hv with ⟨i, t, rfl, rfl⟩ | ⟨x, t, rfl, rfl⟩
  ·exact wpAny_pyHash_int h
  ·exact wpAny_pyHash_str h
 eqBool := fun hu hv h => by
  rcases keyIs_shape hu with ⟨i, t, rfl, rfl⟩ | ⟨x, t, rfl, rfl⟩
  ·rcases keyIs_shape hv with ⟨j, u, rfl, rfl⟩ | ⟨y, u, rfl, rfl⟩
   ·rw [key_ll] at h; exact wpAny_eqBool_int h
   ·rw [key_lr] at h; exact SeqAt.EqAt.int_str i t y u _ _ _ _ h
  ·rcases keyIs_shape hv with ⟨j, u, rfl, rfl⟩ | ⟨y, u, rfl, rfl⟩
   ·rw [key_rl] at h; exact SeqAt.EqAt.str_int x t j u _ _ _ _ h
   ·rw [key_rr] at h; exact wpAny_eqBool_str h
 «strs» := fun k x t v h => by
  rcases keyIs_shape h with ⟨i, u, rfl, e⟩ | ⟨y, u, rfl, e⟩
  ·exact nomatch e
  ·injection e with e1 _
   subst e1
   cases v <;> rfl
theorem mixKind_int (prog : Program) (w : World) (i : Int) (t : Tok) : (mixKind prog w).is (.inl i) (.int i t) = true := keyIs_int i t
theorem mixKind_str (prog : Program) (w : World) (x : Str) (t : Tok) : (mixKind prog w).is (.inr x) (.str x t) = true := keyIs_str x t
end L2
namespace L2
open PySem PySem.Spec PyProof.Rows
inductive V where
 | non | bl (b : Bool) | int (i : Int) | str (x : Str) | byt (b : Array UInt8) | flt (b : UInt64) | ref (a : Addr) | ty (n : String)
 deriving DecidableEq
def RelV : V → Value → Prop
 | .non, u => u = Value.none
 | .bl b, u => u = Value.bool b
 | .int i, u => ∃ t, u = Value.int i t
 | .str x, u => ∃ t, u = Value.str x t
 | .byt b, u => ∃ t, u = Value.bytes b t
 | .flt b, u => ∃ t, u = Value.float b t
 | .ref a, u => u = Value.ref a
 | .ty n, u => u = Value.type n
abbrev Vals : List V → List Value → Prop := Paired RelV
theorem Vals.length {xs : List V} {us : List Value} (r : Vals xs us) : xs.length = us.length := Paired.length r
theorem Vals.get : ∀ {xs : List V} {us : List Value} {i : Nat} {x : V}, Vals xs us → xs[i]? = some x → ∃ u, us[i]? = some u ∧ RelV x u
 | _, _, _, _, .nil, e => by simp at e
 | _, _, 0, _, .cons r _, e => by simp at e; subst e; exact ⟨_, rfl, r⟩
 | _, _, i + 1, x, .cons _ t, e => by
  obtain ⟨u, h1, h2⟩ := Vals.get (i := i) (x := x) t (by simpa using e)
  exact ⟨u, by simpa using h1, h2⟩
theorem Vals.set {x : V} {u : Value} (r : RelV x u) : ∀ {xs : List V} {us : List Value} (i : Nat), Vals xs us → Vals (xs.set i x) (us.set i u)
 | _, _, _, .nil => .nil
 | _, _, 0, .cons _ t => .cons r t
 | _, _, i + 1, .cons q t => .cons q (Vals.set r i t)
theorem Vals.append : ∀ {xs ys : List V} {us ws : List Value}, Vals xs us → Vals ys ws → Vals (xs ++ ys) (us ++ ws)
 | _, _, _, _, .nil, s => s
 | _, _, _, _, .cons r t, s => .cons r (Vals.append t s)
theorem Vals.take : ∀ {xs : List V} {us : List Value} (n : Nat), Vals xs us → Vals (xs.take n) (us.take n)
 | _, _, 0, _ => .nil
 | _, _, _ + 1, .nil => .nil
 | _, _, n + 1, .cons r t => .cons r (Vals.take n t)
theorem Vals.drop : ∀ {xs : List V} {us : List Value} (n : Nat), Vals xs us → Vals (xs.drop n) (us.drop n)
 | _, _, 0, r => r
 | _, _, _ + 1, .nil => .nil
 | _, _, n + 1, .cons _ t => Vals.drop n t
def RelO : Option V → Option Value → Prop
 | some v, some u => RelV v u
 | none, none => True
 | _, _ => False
def KV {κ : Type} : List (κ × V) → List (κ × Value) → Prop := Paired fun (p : κ × V) (q : κ × Value) => p.1 = q.1 ∧ RelV p.2 q.2
def kV : Key → V
 | .inl i => .int i
 | .inr x => .str x
inductive HO where
 | lst (xs : List V)
 | tup (xs : List V)
 | dK (kvs : List (Key × V)) | dT (kvs : List (List Key × V))
 | set (S : Int → Bool) (n : Nat)
 | ins (C dx : Addr) (fs : List (Str × V))
 | own (x : Addr)
 | xd (fs : List (Str × V))
 | met (f x : Addr)
 | rng (lo hi : Int)
 | frz (o : Obj) (u : HO)
 | tbl (ps : Array Value)
 | ext (φ : Heap → Prop)
abbrev Hp := Addr → Option HO
def upd (H : Hp) (a : Addr) (o : HO) : Hp := fun b => if b = a then some o else H b
theorem upd_same {H : Hp} {a : Addr} {o : HO} : upd H a o a = some o := by unfold upd; rw [if_pos rfl]
theorem upd_ne {H : Hp} {a b : Addr} {o : HO} (h : b ≠ a) : upd H a o b = H b := by unfold upd; rw [if_neg h]
theorem ne_of {H : Hp} {a b : Addr} {o u : HO} (h : H a = some o) (h' : H b = some u) (d : o ≠ u) : a ≠ b := by
 intro e; subst e; rw [h] at h'; exact d (Option.some.inj h')
theorem ne_of_none {H : Hp} {a b : Addr} {o : HO} (h : H a = some o) (h' : H b = none) : a ≠ b := by
 intro e; subst e; rw [h] at h'; cases h'
section
variable (P : Program) (w : World)
def ObjOk (H : Hp) (h : Heap) (a : Addr) : HO → Prop
 | .lst xs => xs.length ≤ sizeLine ∧ ∃ (its : List Value) (n : Nat), Vals xs its ∧ h.get? a = some { cls := .type "list", data := .seq its.toArray n }
 | .tup xs => xs.length ≤ sizeLine ∧ ∃ its : List Value, Vals xs its ∧ IsTup h a its.toArray
 | .dK kvs => kvs.length ≤ sizeLine ∧ (a == sysModules) = false ∧ ∃ vs, KV kvs vs ∧ h.DictOf (mixKind P w) a vs
 | .dT kvs => kvs.length ≤ sizeLine ∧ (a == sysModules) = false ∧ ∃ xs : List (List Key × Addr × Value),
   Paired (fun (p : List Key × V) (q : List Key × Addr × Value) => p.1 = q.1 ∧ H q.2.1 = some (.tup (p.1.map kV)) ∧ RelV p.2 q.2.2) kvs xs ∧
   ∃ o es ep, h.get? a = some o ∧ o.ExactDict ∧ o.data = .dict es ep ∧ es.toList = xs.map (entryOfKey (tupleKind (mixKind P w))) ∧ (xs.map (·.1)).Nodup
 | .set S n => h.SetOf (intKind P w) a S n
 | .ins C dx fs => H dx = some (.own a) ∧ fs.length ≤ 1000 ∧ dx ≠ a ∧ h.get? a = some (PySem.W.instObj C dx) ∧
   ∃ mA, h.Ns1 dx mA ∧ (∀ f, RelO (fs.lookup f) (mA f)) ∧ PySem.Within mA (fs.map (·.1))
 | .own _ => ∃ o, h.get? a = some o
 | .xd fs => ∃ mA, h.Ns1 a mA ∧ ∀ f, RelO (fs.lookup f) (mA f)
 | .rng lo hi => ∃ t u v, h.get? a = some { cls := .type "range", data := .fields #[.int lo t, .int hi u, .int 1 v] }
 | .frz o u => h.get? a = some o ∧ ObjOk H h a u
 | .tbl ps => h.get? a = some { cls := .none, data := .fields ps }
 | .met f x => h.get? a = some (PySem.W.methodObj (.ref f) (.ref x))
 | .ext φ => φ h ∧ (∃ o, h.get? a = some o) ∧ ∀ h1 h2 : Heap, φ h1 → (∀ o, h1.get? a = some o → h2.get? a = some o) → φ h2
def HOk (H : Hp) (h : Heap) : Prop := ∀ a o, H a = some o → ObjOk P w H h a o
end
section
variable {P : Program} {w : World} {H H' : Hp} {h h' : Heap} {a : Addr} {o : HO}
theorem ObjOk.lt (x : ObjOk P w H h a o) : a < h.objs.size := by
 cases o with
 | lst xs => obtain ⟨_, _, _, _, e⟩ := x; exact Heap.lt_size e
 | tup xs => obtain ⟨_, _, _, p⟩ := x; exact p.lt
 | dK kvs => obtain ⟨_, _, _, _, o, _, _, e, _⟩ := x; exact Heap.lt_size e
 | dT kvs => obtain ⟨_, _, _, _, o, _, _, e, _⟩ := x; exact Heap.lt_size e
 | set S n => obtain ⟨o, _, _, _, e, _⟩ := x; exact Heap.lt_size e
 | ins C dx fs => obtain ⟨_, _, _, e, _⟩ := x; exact Heap.lt_size e
 | own y => obtain ⟨_, e⟩ := x; exact Heap.lt_size e
 | xd fs => obtain ⟨_, ⟨_, _, _, e, _⟩, _⟩ := x; exact Heap.lt_size e
 | rng lo hi => obtain ⟨_, _, _, e⟩ := x; exact Heap.lt_size e
 | frz ob u => obtain ⟨e, _⟩ := x; exact Heap.lt_size e
 | tbl ps => exact Heap.lt_size (show h.get? a = some _ from x)
 | met f y => exact Heap.lt_size (show h.get? a = some _ from x)
 | ext φ => obtain ⟨_, ⟨_, e⟩, _⟩ := x; exact Heap.lt_size e
theorem Paired.mapP {α β : Type} {F G : α → β → Prop} : ∀ {l₁ : List α} {l₂ : List β}, Paired F l₁ l₂ → (∀ a b, F a b → G a b) → Paired G l₁ l₂
 | _, _, .nil, _ => .nil
 | _, _, .cons r t, f => .cons (f _ _ r) (Paired.mapP t f)
theorem ObjOk.stay (x : ObjOk P w H h a o) (k : ∀ b u, (b = a ∨ H b = some (.own a)) → h.get? b = some u → h'.get? b = some u)
  (ho : ∀ b, H b = some (.own a) → H' b = some (.own a)) (ht : ∀ b xs, H b = some (.tup xs) → H' b = some (.tup xs)) : ObjOk P w H' h' a o := by
 induction o with
 | lst xs => obtain ⟨z, its, n, r, e⟩ := x; exact ⟨z, its, n, r, k _ _ (.inl rfl) e⟩
 | tup xs => obtain ⟨z, its, r, ob, e, c⟩ := x; exact ⟨z, its, r, ob, k _ _ (.inl rfl) e, c⟩
 | dK kvs => obtain ⟨z, y, vs, r, ob, es, ep, e, c⟩ := x; exact ⟨z, y, vs, r, ob, es, ep, k _ _ (.inl rfl) e, c⟩
 | dT kvs =>
  obtain ⟨z, y, xs, r, ob, es, ep, e, c⟩ := x
  exact ⟨z, y, xs, Paired.mapP r fun p q z => ⟨z.1, ht _ _ z.2.1, z.2.2⟩, ob, es, ep, k _ _ (.inl rfl) e, c⟩
 | set S n => obtain ⟨ob, es, ep, t, e, c⟩ := x; exact ⟨ob, es, ep, t, k _ _ (.inl rfl) e, c⟩
 | ins C dx fs =>
  obtain ⟨d, z, ne, e, mA, ⟨od, es, ep, e2, c⟩, r⟩ := x
  exact ⟨ho _ d, z, ne, k _ _ (.inl rfl) e, mA, ⟨od, es, ep, k _ _ (.inr d) e2, c⟩, r⟩
 | own y => obtain ⟨ob, e⟩ := x; exact ⟨ob, k _ _ (.inl rfl) e⟩
 | xd fs => obtain ⟨mA, ⟨od, es, ep, e, c⟩, r⟩ := x; exact ⟨mA, ⟨od, es, ep, k _ _ (.inl rfl) e, c⟩, r⟩
 | rng lo hi => obtain ⟨t, u, v, e⟩ := x; exact ⟨t, u, v, k _ _ (.inl rfl) e⟩
 | frz ob u ih => obtain ⟨e, q⟩ := x; exact ⟨k _ _ (.inl rfl) e, ih q⟩
 | tbl ps =>
  have e : h.get? a = some { cls := .none, data := .fields ps } := x
  show h'.get? a = some { cls := .none, data := .fields ps }
  exact k a _ (.inl rfl) e
 | met f y =>
  have e : h.get? a = some (PySem.W.methodObj (.ref f) (.ref y)) := x
  show h'.get? a = some (PySem.W.methodObj (.ref f) (.ref y))
  exact k a _ (.inl rfl) e
 | ext φ => obtain ⟨p, ⟨o, e⟩, st⟩ := x; exact ⟨st _ _ p fun o q => k _ _ (.inl rfl) q, ⟨o, k _ _ (.inl rfl) e⟩, st⟩
theorem HOk.lt (x : HOk P w H h) (e : H a = some o) : a < h.objs.size := (x a o e).lt
theorem HOk.fresh (x : HOk P w H h) (e : h.objs.size ≤ a) : H a = none := by
 cases q : H a with
 | none => rfl
 | some u => exact absurd (Nat.lt_of_lt_of_le (x.lt q) e) (Nat.lt_irrefl _)
theorem HOk.kept (x : HOk P w H h) (k : ∀ b u, h.get? b = some u → h'.get? b = some u) : HOk P w H h' := fun a o e =>
 (x a o e).stay (fun b u _ q => k b u q) (fun _ q => q) fun _ _ q => q
theorem HOk.laid (x : HOk P w H h) (k : ∀ b u, h.get? b = some u → h'.get? b = some u) (hp : h.objs.size ≤ a) (new : ObjOk P w (upd H a o) h' a o) : HOk P w (upd H a o) h' := fun b u e => by
 have hn := x.fresh hp
 by_cases hb : b = a
 ·subst hb; rw [upd_same] at e; cases e; exact new
 ·rw [upd_ne hb] at e
  exact (x b u e).stay (fun c v _ q => k c v q) (fun c q => by rw [upd_ne (ne_of_none q hn)]; exact q) fun c xs q => by rw [upd_ne (ne_of_none q hn)]; exact q
end
def Rd (H : Hp) (a : Addr) (u : HO) : Prop := H a = some u ∨ ∃ o, H a = some (.frz o u)
theorem Rd.ok {P : Program} {w : World} {H : Hp} {h : Heap} {a : Addr} {u : HO} (r : Rd H a u) (x : HOk P w H h) : ObjOk P w H h a u := by
 rcases r with r | ⟨o, r⟩
 ·exact x a u r
 ·obtain ⟨_, q⟩ := x a _ r
  exact q
def Mut : Option HO → Prop
 | some (.lst _) => True
 | some (.dK _) => True
 | some (.dT _) => True
 | some (.set _ _) => True
 | some (.ins _ _ _) => True
 | some (.ext _) => True
 | _ => False
section
variable {P : Program} {w : World} {H : Hp} {h h' : Heap} {x e : Addr} {o' : HO}
theorem HOk.write (ok : HOk P w H h) (mu : Mut (H x)) (he : e = x ∨ H e = some (.own x)) (k : ∀ b u, b ≠ e → h.get? b = some u → h'.get? b = some u) (heo : ∃ u, h'.get? e = some u)
  (new : ObjOk P w (upd H x o') h' x o') : HOk P w (upd H x o') h' := fun b u q => by
 have nown : ∀ c y, H c = some (.own y) → c ≠ x := fun c y r z => by subst z; rw [r] at mu; exact mu
 have ntup : ∀ c xs, H c = some (.tup xs) → c ≠ x := fun c xs r z => by subst z; rw [r] at mu; exact mu
 by_cases hb : b = x
 ·subst hb; rw [upd_same] at q; cases q; exact new
 ·rw [upd_ne hb] at q
  by_cases hbe : b = e
  ·have q' : H b = some (.own x) := by
    rcases he with z | z
    ·exact absurd (hbe.trans z) hb
    ·rw [hbe]; exact z
   rw [q] at q'; cases q'
   obtain ⟨v, hv⟩ := heo
   exact ⟨v, by rw [hbe]; exact hv⟩
  ·refine (ok b u q).stay (fun c v hc r => k c v ?_ r) (fun c r => by rw [upd_ne (nown c b r)]; exact r) fun c xs r => by rw [upd_ne (ntup c xs r)]; exact r
   rcases hc with rfl | hc
   ·exact hbe
   ·rintro rfl
    rcases he with z | z
    ·exact nown c b hc z
    ·rw [hc] at z; cases z; exact hb rfl
end
structure Un (fs ex : List Addr) (H H' : Hp) (h h' : Heap) : Prop where
 keep : ∀ b o, h.get? b = some o → H b = none → b ∉ fs → b ∉ ex → h'.get? b = some o
 slot : ∀ b o, h.get? b = some o → H b = none → b ∈ fs → b ∉ ex → ∃ sl, h'.get? b = some { o with slots := sl }
 free : ∀ b o, h.get? b = some o → H b = none → b ∉ ex → H' b = none
 there : ∀ b o, h.get? b = some o → b ∉ ex → ∃ o', h'.get? b = some o'
 tups : ∀ b xs, H b = some (.tup xs) → H' b = some (.tup xs)
 frzs : ∀ b o u, H b = some (.frz o u) → H' b = some (.frz o u)
 tbls : ∀ b ps, H b = some (.tbl ps) → ∃ more, H' b = some (.tbl (ps ++ more))
section
variable {fs fs' ex ex' : List Addr} {H H1 H2 : Hp} {h h1 h2 h' : Heap} {a x e : Addr} {o : HO}
theorem Un.any (u : Un fs ex H H1 h h1) {b : Addr} {ob : Obj} (q : h.get? b = some ob) (n : H b = none) (hx : b ∉ ex) : ∃ sl, h1.get? b = some { ob with slots := sl } := by
 by_cases hb : b ∈ fs
 ·exact u.slot b ob q n hb hx
 ·exact ⟨ob.slots, u.keep b ob q n hb hx⟩
theorem Un.kept (k : ∀ b u, h.get? b = some u → h'.get? b = some u) : Un fs ex H H h h' :=
 ⟨fun b ob q _ _ _ => k b ob q, fun b ob q _ _ _ => ⟨ob.slots, k b ob q⟩, fun _ _ _ n _ => n, fun b ob q _ => ⟨ob, k b ob q⟩, fun _ _ q => q, fun _ _ _ q => q, fun _ ps q => ⟨#[], by rw [q]; simp⟩⟩
theorem Un.refl : Un fs ex H H h h := Un.kept fun _ _ q => q
theorem Un.laid (k : ∀ b u, h.get? b = some u → h'.get? b = some u) (hp : h.objs.size ≤ a) (hn : H a = none) : Un fs ex H (upd H a o) h h' where
 keep := fun b u q _ _ _ => k b u q
 slot := fun b u q _ _ _ => ⟨u.slots, k b u q⟩
 free := fun b u q n _ => by rw [upd_ne (Nat.ne_of_lt (Nat.lt_of_lt_of_le (Heap.lt_size q) hp))]; exact n
 there := fun b u q _ => ⟨u, k b u q⟩
 tups := fun b xs q => by rw [upd_ne (ne_of_none q hn)]; exact q
 frzs := fun b u xs q => by rw [upd_ne (ne_of_none q hn)]; exact q
 tbls := fun b ps q => ⟨#[], by rw [upd_ne (ne_of_none q hn), q]; simp⟩
theorem Un.write (mu : Mut (H x)) (he : e = x ∨ H e = some (.own x)) (k : ∀ b u, b ≠ e → h.get? b = some u → h'.get? b = some u) (heo : ∃ u, h'.get? e = some u) : Un fs ex H (upd H x o) h h' := by
 have hx : ∀ b, H b = none → b ≠ x := fun b n z => by subst z; rw [n] at mu; exact mu
 have hb : ∀ b, H b = none → b ≠ e := fun b n z => by
  subst z
  rcases he with r | r
  ·exact hx b n r
  ·rw [n] at r; cases r
 have hm : ∀ b u, H b = some u → ¬ Mut (some u) → b ≠ x := fun b u q nm z => by subst z; rw [q] at mu; exact nm mu
 refine ⟨fun b u q n _ _ => k b u (hb b n) q, fun b u q n _ _ => ⟨u.slots, k b u (hb b n) q⟩, fun b u q n _ => by rw [upd_ne (hx b n)]; exact n, fun b u q _ => ?_,
  fun b xs q => by rw [upd_ne (hm b _ q fun z => z)]; exact q, fun b u xs q => by rw [upd_ne (hm b _ q fun z => z)]; exact q, fun b ps q => ⟨#[], by rw [upd_ne (hm b _ q fun z => z), q]; simp⟩⟩
 by_cases hbe : b = e
 ·subst hbe; exact heo
 ·exact ⟨u, k b u hbe q⟩
end
def trk (h : Heap) (H : Hp) : List Addr := (List.range h.objs.size).filter fun a => (H a).isSome
def hidT (h : Heap) (H : Hp) : Heap := PySem.W.hideAll h (trk h H)
theorem hidT_size (h : Heap) (H : Hp) : (hidT h H).objs.size = h.objs.size := PySem.W.hideAll_size _ _
theorem hidT_get {h : Heap} {H : Hp} {b : Addr} {o : Obj} (e : h.get? b = some o) (n : H b = none) : (hidT h H).get? b = some o :=
 PySem.W.hideAll_get _ e fun hm => by
  have q : (H b).isSome = true := (List.mem_filter.mp hm).2
  rw [n] at q; simp at q
theorem of_hidT {h : Heap} {H : Hp} {b : Addr} {o : Obj} (e : (hidT h H).get? b = some o) : h.get? b = some o ∧ H b = none := by
 have e' : h.get? b = some o := PySem.W.of_hideAll (trk h H) e
 refine ⟨e', ?_⟩
 cases q : H b with
 | none => rfl
 | some x =>
  have hm : b ∈ trk h H := List.mem_filter.mpr ⟨List.mem_range.mpr (Heap.lt_size e'), by simp [q]⟩
  have z : (hidT h H).get? b = none := PySem.W.hideAll_none (trk h H) hm
  rw [z] at e; cases e
end L2
namespace L2
open PySem PySem.Spec PyProof.Rows
structure Mod (K : PySem.W.Frag) (mg : Str → Option Value) (base : Heap) : Prop where
 kin : K.In base
 glob : base.Ns mainGlobals mg
 blt : ∃ mb, base.Ns builtinsNs mb ∧ ∀ x : Str, x ≠ "__name__" → mb x = bootBuiltins x
 nolimit : base.NoLimit
structure Cx where
 prog : Program
 w : World
 K : PySem.W.Frag
 mg : Str → Option Value
 base : Heap
 A : Around
 N : List Str
 s₀ : Shared
 H₀ : Hp
 env : Env
 outer : List Env
 stack : List Env
 ex : List Addr
 fn : Str → Bool
 calm : Bool
 pn : List (Addr × Obj)
 xe : Value → Shared → Prop
def frs (l : List Env) : List Addr := l.filterMap (·.frame)
abbrev Cx.fs (X : Cx) : List Addr := frs X.outer
def Vis (sc : Scope) (x : Str) : Prop := sc.names.lookup x = some .local ∨ sc.names.lookup x = some .cell ∨ sc.names.lookup x = some .free
def Loc (sc : Scope) (x : Str) : Prop := sc.names.lookup x = some .local ∨ sc.names.lookup x = some .cell
def Look (env : Env) (h : Heap) (m : Str → Option Value) (x : Str) (u : Value) : Prop :=
 (env.kindOf x = some .local ∧ m x = some u) ∨ ((env.kindOf x = some .cell ∨ env.kindOf x = some .free) ∧ ∃ c, env.cells.lookup x = some c ∧ h.IsCell c (some u))
structure Cx.Ok (X : Cx) : Prop where
 mod : Mod X.K X.mg X.base
 kind : X.env.scope.kind = .function
 glob : X.env.globals = mainGlobals
 blt : X.env.builtins = builtinsNs
 above : X.s₀.heap.objs.size ≤ X.env.locals
 inj : ∀ x y c, X.env.cells.lookup x = some c → X.env.cells.lookup y = some c → x = y
 has : ∀ x, (X.env.kindOf x = some .cell ∨ X.env.kindOf x = some .free) → ∃ c, X.env.cells.lookup x = some c
 cab : ∀ x c, X.fn x = true → X.env.cells.lookup x = some c → X.s₀.heap.objs.size ≤ c
 hd : X.calm = true → X.A.handled = none
 frames : X.A.frames = some X.stack
 stk : X.stack = X.outer ∨ (X.stack = X.env :: X.outer ∧ X.env.frame = some X.env.locals)
 exf : ∀ b ∈ X.ex, b ≠ X.env.locals ∧ ∀ x c, X.env.cells.lookup x = some c → c ≠ b
 bs : ∀ b o, X.base.get? b = some o → X.s₀.heap.get? b = some o ∧ X.H₀ b = none
 bsz : X.base.objs.size ≤ X.s₀.heap.objs.size
 noex : ∀ b o, X.base.get? b = some o → b ∉ X.ex
 exfs : ∀ b ∈ X.ex, b ∉ X.fs
 funs : X.s₀.heap.FunFrames X.base X.outer
 frf : ∀ b ∈ X.fs, X.H₀ b = none
structure Inv (X : Cx) (pins : List (Addr × Obj)) (σ : List (Option V)) (H : Hp) (s : Shared) : Prop where
 ok : X.Ok
 os : s.os = X.s₀.os
 bare : AllBare s.gens
 base : Un X.fs X.ex X.H₀ H X.s₀.heap s.heap
 loc : ∃ m, s.heap.Ns X.env.locals m ∧ ∀ (i : Nat) (x : Str) (v : V), X.N[i]? = some x → σ[i]? = some (some v) → Vis X.env.scope x → ∃ u, RelV v u ∧ Look X.env s.heap m x u
 cell : ∀ x c, X.env.cells.lookup x = some c → ∃ v, s.heap.IsCell c v
 free : H X.env.locals = none
 freeC : ∀ x c, X.env.cells.lookup x = some c → H c = none
 pin : ∀ p ∈ X.pn ++ pins, s.heap.get? p.1 = some p.2 ∧ H p.1 = none ∧ p.1 ≠ X.env.locals ∧ p.1 ∉ X.fs ∧ ∀ v, p.2.data ≠ .cell v
 hok : HOk X.prog X.w H s.heap
 len : σ.length = X.N.length
section
variable {X : Cx} {pins : List (Addr × Obj)} {σ : List (Option V)} {H H' : Hp} {s : Shared} {h' : Heap}
theorem Cx.Ok.nofr (ok : X.Ok) {b : Addr} {o : Obj} (e : X.base.get? b = some o) : b ∉ X.fs := fun hb => by
 have := (ok.funs.mem hb).1
 rw [e] at this; cases this
theorem Inv.bs (I : Inv X pins σ H s) : ∀ b o, X.base.get? b = some o → s.heap.get? b = some o ∧ H b = none := fun b o e =>
 ⟨I.base.keep b o (I.ok.bs b o e).1 (I.ok.bs b o e).2 (I.ok.nofr e) (I.ok.noex b o e), I.base.free b o (I.ok.bs b o e).1 (I.ok.bs b o e).2 (I.ok.noex b o e)⟩
theorem Inv.bk (I : Inv X pins σ H s) : ∀ b o, X.base.get? b = some o → s.heap.get? b = some o := fun b o e => (I.bs b o e).1
theorem Inv.mod (I : Inv X pins σ H s) : Mod X.K X.mg X.base := I.ok.mod
theorem Inv.kIn (I : Inv X pins σ H s) : X.K.In s.heap := I.ok.mod.kin.keeps I.bk
theorem Inv.lt (I : Inv X pins σ H s) : X.env.locals < s.heap.objs.size := let ⟨_, hn, _⟩ := I.loc; hn.lt
theorem Inv.sz (I : Inv X pins σ H s) : X.s₀.heap.objs.size ≤ s.heap.objs.size := Nat.le_trans I.ok.above (Nat.le_of_lt I.lt)
theorem Inv.nofs (I : Inv X pins σ H s) {a : Addr} (h : s.heap.objs.size ≤ a) : a ∉ X.fs := fun hb => by
 obtain ⟨_, o, ho, _⟩ := I.ok.funs.mem hb
 exact absurd (Nat.lt_of_lt_of_le (Heap.lt_size ho) (Nat.le_trans I.sz h)) (Nat.lt_irrefl _)
theorem Inv.cne (I : Inv X pins σ H s) : ∀ x c, X.env.cells.lookup x = some c → c ≠ X.env.locals := fun x c e z => by
 obtain ⟨v, o, ho, hd⟩ := I.cell x c e
 obtain ⟨m, ⟨o', es, ep, ho', hd', _⟩, _⟩ := I.loc
 rw [z, ho'] at ho; cases ho; rw [hd'] at hd; cases hd
theorem Inv.funs (I : Inv X pins σ H s) : s.heap.FunFrames X.base X.outer := by
 have all : ∀ (l : List Env), (∀ b ∈ frs l, b ∈ X.fs) → X.s₀.heap.FunFrames X.base l → s.heap.FunFrames X.base l := by
  intro l
  induction l with
  | nil => intro _ _; trivial
  | cons env r ih =>
   intro hs hl
   obtain ⟨hk, ⟨L, o, hf, hn, ho, hd⟩, hr⟩ := hl
   have hL : L ∈ X.fs := hs L (by unfold frs; rw [List.filterMap_cons, hf]; exact List.mem_cons_self)
   obtain ⟨sl, e⟩ := I.base.slot L o ho (I.ok.frf L hL) hL fun z => I.ok.exfs L z hL
   exact ⟨hk, ⟨L, _, hf, hn, e, hd⟩, ih (fun b hb => hs b (by unfold frs; rw [List.filterMap_cons, hf]; exact List.mem_cons_of_mem _ hb)) hr⟩
 exact all X.outer (fun _ hb => hb) I.ok.funs
theorem Inv.stack (I : Inv X pins σ H s) : s.heap.FunFrames X.base X.stack := by
 rcases I.ok.stk with e | ⟨e, hf⟩
 ·rw [e]; exact I.funs
 ·rw [e]
  obtain ⟨m, hn, _⟩ := I.loc
  refine .cons (by rw [I.ok.kind]; decide) hf hn ?_ I.funs
  exact Heap.get?_none_of_le (Nat.le_trans I.ok.bsz I.ok.above)
theorem Inv.stkSub (I : Inv X pins σ H s) : ∀ b ∈ frs X.stack, b ∈ X.env.locals :: X.fs := fun b hb => by
 rcases I.ok.stk with e | ⟨e, hf⟩
 ·rw [e] at hb; exact List.mem_cons_of_mem _ hb
 ·rw [e] at hb
  unfold frs at hb
  rw [List.filterMap_cons, hf] at hb
  exact hb
theorem Inv.stkFree (I : Inv X pins σ H s) : ∀ b ∈ frs X.stack, H b = none := fun b hb => by
 rcases List.mem_cons.mp (I.stkSub b hb) with e | hb
 ·rw [e]; exact I.free
 ·obtain ⟨_, o, ho, _⟩ := I.ok.funs.mem hb
  exact I.base.free b o ho (I.ok.frf b hb) fun z => I.ok.exfs b z hb
theorem Inv.step {g' : Array GenState} {t' : Nat} {d' : Drawn} {ch : List Addr} (I : Inv X pins σ H s)
  (hch : ∀ b ∈ ch, (b ∈ X.ex ∨ X.s₀.heap.objs.size ≤ b) ∧ b ≠ X.env.locals ∧ (∀ x c, X.env.cells.lookup x = some c → c ≠ b) ∧ ∀ p ∈ X.pn ++ pins, p.1 ≠ b)
  (keep : ∀ b o, b ≠ X.env.locals → b ∉ X.fs → b ∉ ch → s.heap.get? b = some o → H b = none → h'.get? b = some o)
  (slot : ∀ b o, b ≠ X.env.locals → b ∈ X.fs → b ∉ ch → s.heap.get? b = some o → H b = none → ∃ sl, h'.get? b = some { o with slots := sl }) (free : ∀ b o, b ∉ ch → s.heap.get? b = some o → H b = none → H' b = none)
  (there : ∀ b o, b ∉ ch → s.heap.get? b = some o → ∃ o', h'.get? b = some o')
  (tups : ∀ b xs, H b = some (.tup xs) → H' b = some (.tup xs)) (frzs : ∀ b o u, H b = some (.frz o u) → H' b = some (.frz o u)) (tbls : ∀ b ps, H b = some (.tbl ps) → ∃ more, H' b = some (.tbl (ps ++ more)))
  (ns : ∀ m, s.heap.Ns X.env.locals m → h'.Ns X.env.locals m) (hok : HOk X.prog X.w H' h') (hg : AllBare g') :
  Inv X pins σ H' { s with heap := h', gens := g', drawn := d', toks := t' } := by
 have neL : ∀ b o, X.s₀.heap.get? b = some o → b ≠ X.env.locals := fun b o e => Nat.ne_of_lt (Nat.lt_of_lt_of_le (Heap.lt_size e) I.ok.above)
 have neC : ∀ b o, X.s₀.heap.get? b = some o → b ∉ X.ex → b ∉ ch := fun b o e hx hb => by
  rcases (hch b hb).1 with z | z
  ·exact hx z
  ·exact absurd (Nat.lt_of_lt_of_le (Heap.lt_size e) z) (Nat.lt_irrefl _)
 have cellK : ∀ x c, X.env.cells.lookup x = some c → ∀ v, s.heap.IsCell c v → h'.IsCell c v := fun x c e v ⟨o, ho, hd⟩ => by
  have nch : c ∉ ch := fun z => (hch c z).2.2.1 x c e rfl
  by_cases hc : c ∈ X.fs
  ·obtain ⟨sl, q⟩ := slot c o (I.cne x c e) hc nch ho (I.freeC x c e)
   exact ⟨_, q, hd⟩
  ·exact ⟨o, keep c o (I.cne x c e) hc nch ho (I.freeC x c e), hd⟩
 refine ⟨I.ok, I.os, hg, ⟨fun b o e n hb hx => ?_, fun b o e n hb hx => ?_, fun b o e n hx => ?_, fun b o e hx => ?_, fun b xs e => tups b xs (I.base.tups b xs e), fun b o xs e => frzs b o xs (I.base.frzs b o xs e), fun b ps e => ?_⟩, ?_, fun x c e => ?_, ?_, fun x c e => ?_, fun p hp => ?_, hok, I.len⟩
 ·exact keep b o (neL b o e) hb (neC b o e hx) (I.base.keep b o e n hb hx) (I.base.free b o e n hx)
 ·obtain ⟨sl, e1⟩ := I.base.slot b o e n hb hx
  obtain ⟨sl', e2⟩ := slot b _ (neL b o e) hb (neC b o e hx) e1 (I.base.free b o e n hx)
  exact ⟨sl', e2⟩
 ·obtain ⟨o', e1⟩ := I.base.there b o e hx
  exact free b o' (neC b o e hx) e1 (I.base.free b o e n hx)
 ·obtain ⟨o', e1⟩ := I.base.there b o e hx
  exact there b o' (neC b o e hx) e1
 ·obtain ⟨m1, e1⟩ := I.base.tbls b ps e
  obtain ⟨m2, e2⟩ := tbls b _ e1
  exact ⟨m1 ++ m2, by rw [e2, Array.append_assoc]⟩
 ·obtain ⟨m, hn, hl⟩ := I.loc
  refine ⟨m, ns m hn, fun i x v e1 e2 e3 => ?_⟩
  obtain ⟨u, r, l⟩ := hl i x v e1 e2 e3
  refine ⟨u, r, ?_⟩
  rcases l with l | ⟨k, c, e, z⟩
  ·exact .inl l
  ·exact .inr ⟨k, c, e, cellK x c e _ z⟩
 ·obtain ⟨v, z⟩ := I.cell x c e
  exact ⟨v, cellK x c e v z⟩
 ·obtain ⟨m, ⟨o, _, _, ho, _⟩, _⟩ := I.loc
  exact free _ o (fun z => (hch _ z).2.1 rfl) ho I.free
 ·obtain ⟨v, o, ho, hd⟩ := I.cell x c e
  exact free c o (fun z => (hch c z).2.2.1 x c e rfl) ho (I.freeC x c e)
 ·obtain ⟨e, n, ne, nf, d⟩ := I.pin p hp
  have nch : p.1 ∉ ch := fun z => (hch p.1 z).2.2.2 p hp rfl
  exact ⟨keep p.1 p.2 ne nf nch e n, free p.1 p.2 nch e n, ne, nf, d⟩
theorem Inv.un {t' : Nat} (I : Inv X pins σ H s) (u : Un X.fs [] H H' s.heap h') (hok : HOk X.prog X.w H' h') : Inv X pins σ H' { s with heap := h', toks := t' } := by
 obtain ⟨m, ⟨o, es, ep, ho, r⟩, _⟩ := id I.loc
 obtain ⟨sl, hL⟩ := u.any ho I.free (by simp)
 exact I.step (g' := s.gens) (d' := s.drawn) (ch := []) (fun _ z => nomatch z) (fun b o _ hb _ e n => u.keep b o e n hb (by simp)) (fun b o _ hb _ e n => u.slot b o e n hb (by simp)) (fun b o _ e n => u.free b o e n (by simp)) (fun b o _ e => u.there b o e (by simp)) u.tups u.frzs u.tbls (fun m' hm => by
  obtain ⟨o', es', ep', ho', r'⟩ := hm
  rw [ho] at ho'; cases ho'
  exact ⟨_, es', ep', hL, r'⟩) hok I.bare
theorem Inv.call {g' : Array GenState} {t' : Nat} {d' : Drawn} {ch : List Addr} (I : Inv X pins σ H s) (u : Un (frs X.stack) ch H H' s.heap h') (hok : HOk X.prog X.w H' h') (hg : AllBare g')
  (hch : ∀ b ∈ ch, (b ∈ X.ex ∨ X.s₀.heap.objs.size ≤ b) ∧ b ≠ X.env.locals ∧ (∀ x c, X.env.cells.lookup x = some c → c ≠ b) ∧ ∀ p ∈ X.pn ++ pins, p.1 ≠ b) :
  Inv X pins σ H' { s with heap := h', gens := g', drawn := d', toks := t' } := by
 obtain ⟨m, ⟨o, es, ep, ho, r⟩, _⟩ := id I.loc
 obtain ⟨sl, hL⟩ := u.any ho I.free fun z => (hch _ z).2.1 rfl
 exact I.step (ch := ch) hch (fun b o hL hb hc e n => u.keep b o e n (fun z => (List.mem_cons.mp (I.stkSub b z)).elim hL hb) hc) (fun b o _ _ hc e n => u.any e n hc) (fun b o hc e n => u.free b o e n hc) (fun b o hc e => u.there b o e hc) u.tups u.frzs u.tbls (fun m' hm => by
  obtain ⟨o', es', ep', ho', r'⟩ := hm
  rw [ho] at ho'; cases ho'
  exact ⟨_, es', ep', hL, r'⟩) hok hg
theorem Inv.turned {t' : Nat} {it : Addr} (I : Inv X pins σ H s) (k : ∀ b o, b ≠ it → s.heap.get? b = some o → h'.get? b = some o) (hn : H it = none) (hL : it ≠ X.env.locals)
  (h1 : it ∈ X.ex ∨ X.s₀.heap.objs.size ≤ it) (h2 : ∀ x c, X.env.cells.lookup x = some c → c ≠ it) (h3 : ∀ p ∈ X.pn ++ pins, p.1 ≠ it) : Inv X pins σ H { s with heap := h', toks := t' } := by
 have nit : ∀ b u, H b = some u → b ≠ it := fun b u e z => by rw [z, hn] at e; cases e
 refine I.step (g' := s.gens) (d' := s.drawn) (ch := [it]) (fun b hb => ?_) (fun b o _ _ hc e _ => k b o (fun z => hc (by simp [z])) e) (fun b o _ _ hc e _ => ⟨o.slots, k b o (fun z => hc (by simp [z])) e⟩) (fun _ _ _ _ n => n)
  (fun b o hc e => ⟨o, k b o (fun z => hc (by simp [z])) e⟩) (fun _ _ e => e) (fun _ _ _ e => e) (fun b ps e => ⟨#[], by rw [e]; simp⟩) (fun m hm => ?_) (fun b u e => ?_) I.bare
 ·have e : b = it := by simpa using hb
  subst e
  exact ⟨h1, hL, h2, h3⟩
 ·obtain ⟨o, es, ep, ho, r⟩ := hm
  exact ⟨o, es, ep, k _ o (Ne.symm hL) ho, r⟩
 ·refine (I.hok b u e).stay (fun c v hc q => k c v ?_ q) (fun _ q => q) fun _ _ q => q
  rcases hc with z | z
  ·rw [z]; exact nit b u e
  ·exact nit c _ z
theorem Inv.tok (I : Inv X pins σ H s) (t : Nat) : Inv X pins σ H { s with toks := t } := I.un (h' := s.heap) (t' := t) Un.refl I.hok
theorem Inv.kept {t' : Nat} (I : Inv X pins σ H s) (k : ∀ b u, s.heap.get? b = some u → h'.get? b = some u) : Inv X pins σ H { s with heap := h', toks := t' } := I.un (Un.kept k) (I.hok.kept k)
theorem Inv.laid {a : Addr} {o : HO} {t' : Nat} (I : Inv X pins σ H s) (k : ∀ b u, s.heap.get? b = some u → h'.get? b = some u) (hp : s.heap.objs.size ≤ a) (new : ObjOk X.prog X.w (upd H a o) h' a o) :
  Inv X pins σ (upd H a o) { s with heap := h', toks := t' } := I.un (Un.laid k hp (I.hok.fresh hp)) (I.hok.laid k hp new)
theorem Inv.write {x e : Addr} {o : HO} {t' : Nat} (I : Inv X pins σ H s) (mu : Mut (H x)) (he : e = x ∨ H e = some (.own x)) (k : ∀ b u, b ≠ e → s.heap.get? b = some u → h'.get? b = some u) (heo : ∃ u, h'.get? e = some u)
  (new : ObjOk X.prog X.w (upd H x o) h' x o) : Inv X pins σ (upd H x o) { s with heap := h', toks := t' } := I.un (Un.write mu he k heo) (I.hok.write mu he k heo new)
theorem Inv.pins_of {pins' : List (Addr × Obj)} (I : Inv X pins σ H s) (h : ∀ p ∈ pins', s.heap.get? p.1 = some p.2 ∧ H p.1 = none ∧ p.1 ≠ X.env.locals ∧ p.1 ∉ X.fs ∧ ∀ v, p.2.data ≠ .cell v) : Inv X pins' σ H s :=
 ⟨I.ok, I.os, I.bare, I.base, I.loc, I.cell, I.free, I.freeC, fun p hp => (List.mem_append.mp hp).elim (fun z => I.pin p (List.mem_append_left _ z)) (h p), I.hok, I.len⟩
theorem nodup_ix {N : List Str} (hN : N.Nodup) {i j : Nat} {x : Str} (a : N[i]? = some x) (b : N[j]? = some x) : i = j := by
 obtain ⟨h1, e1⟩ := List.getElem?_eq_some_iff.mp a
 obtain ⟨h2, e2⟩ := List.getElem?_eq_some_iff.mp b
 exact (List.getElem_inj hN).mp (e1.trans e2.symm)
theorem store_ok2 {M : Model} {A : Around} {E : Value → Shared → Prop} {i : Nat} {x : Str} {v : V} {u : Value} {Q : Unit → Shared → Prop} (I : Inv X pins σ H s) (hN : X.N.Nodup) (hi : X.N[i]? = some x) (hx : Loc X.env.scope x) (r : RelV v u)
  (h : ∀ s', Inv X pins (σ.set i (some v)) H s' → (∃ a, Heap.SameBut a s.heap s'.heap ∧ (a = X.env.locals ∨ X.env.cells.lookup x = some a)) → Q () s') (hf : X.fn x = true ∨ X.env.scope.names.lookup x = some .local := by first | exact .inl rfl | exact .inr rfl | assumption) : wpAny M A (storeName X.env x u) Q E s := by
 obtain ⟨m, hn, hl⟩ := id I.loc
 have hcls : (X.env.scope.kind == .class || (X.env.scope.kind == .module && X.env.locals != X.env.globals)) = false := by rw [I.ok.kind]; rfl
 have hiσ : i < σ.length := by rw [I.len]; exact (List.getElem?_eq_some_iff.mp hi).1
 have cne := I.cne
 have tracked : ∀ {a : Addr} {h' : Heap}, (∃ o, s.heap.get? a = some o ∧ H a = none) → Heap.SameBut a s.heap h' → HOk X.prog X.w H h' := fun {a h'} ha hs b ob e => by
  obtain ⟨_, _, hfree⟩ := ha
  refine (I.hok b ob e).stay (fun c w' hc q => (hs.2 c ?_).trans q) (fun _ q => q) fun _ _ q => q
  rintro rfl
  rcases hc with rfl | hc
  ·rw [hfree] at e; cases e
  ·rw [hfree] at hc; cases hc
 rcases hx with hk | hk
 ·refine wpAny_storeName_local hk hn (fun h' hn' hs => ?_) hcls
  obtain ⟨oL, _, _, hoL, _⟩ := id hn
  refine h _ ⟨I.ok, I.os, I.bare, ⟨fun b o e n hb hx => ?_, fun b o e n hb hx => ?_, I.base.free, fun b o e hx => ?_, I.base.tups, I.base.frzs, I.base.tbls⟩, ⟨_, hn', fun j y v' e1 e2 e3 => ?_⟩, fun y c e => ?_, I.free, I.freeC, fun p hp => ?_, tracked ⟨oL, hoL, I.free⟩ hs, by simpa using I.len⟩ ⟨_, hs, .inl rfl⟩
  ·exact (hs.2 b (Nat.ne_of_lt (Nat.lt_of_lt_of_le (Heap.lt_size e) I.ok.above))).trans (I.base.keep b o e n hb hx)
  ·obtain ⟨sl, e1⟩ := I.base.slot b o e n hb hx
   exact ⟨sl, (hs.2 b (Nat.ne_of_lt (Nat.lt_of_lt_of_le (Heap.lt_size e) I.ok.above))).trans e1⟩
  ·obtain ⟨o', e1⟩ := I.base.there b o e hx
   exact ⟨o', (hs.2 b (Nat.ne_of_lt (Nat.lt_of_lt_of_le (Heap.lt_size e) I.ok.above))).trans e1⟩
  ·by_cases hj : j = i
   ·subst hj
    rw [hi] at e1; cases e1
    rw [List.getElem?_set_self hiσ] at e2
    cases e2
    exact ⟨u, r, .inl ⟨hk, by simp⟩⟩
   ·rw [List.getElem?_set_ne (Ne.symm hj)] at e2
    obtain ⟨u', r', q⟩ := hl j y v' e1 e2 e3
    refine ⟨u', r', ?_⟩
    rcases q with ⟨k, e⟩ | ⟨k, c, e, z⟩
    ·refine .inl ⟨k, ?_⟩
     have : y ≠ x := fun e => hj (nodup_ix hN e1 (e ▸ hi))
     simp [this, e]
    ·exact .inr ⟨k, c, e, z.sameBut hs (cne y c e)⟩
  ·obtain ⟨w', z⟩ := I.cell y c e
   exact ⟨w', z.sameBut hs (cne y c e)⟩
  ·obtain ⟨e, n, ne, nf, d⟩ := I.pin p hp
   exact ⟨(hs.2 p.1 ne).trans e, n, ne, nf, d⟩
 ·have hfn : X.fn x = true := by
   rcases hf with z | z
   ·exact z
   ·rw [z] at hk; cases hk
  obtain ⟨c, hc⟩ := I.ok.has x (.inl hk)
  obtain ⟨w', z⟩ := I.cell x c hc
  refine wpAny_storeName_cell I.ok.kind hk hc z (fun h' hc' hs => ?_)
  obtain ⟨oc, hoc, hocd⟩ := id z
  refine h { s with heap := h' } ⟨I.ok, I.os, I.bare, ⟨fun b o e n hb hx => ?_, fun b o e n hb hx => ?_, I.base.free, fun b o e hx => ?_, I.base.tups, I.base.frzs, I.base.tbls⟩, ⟨m, hn.sameBut hs (Ne.symm (cne x c hc)), fun j y v' e1 e2 e3 => ?_⟩, fun y c' e => ?_, I.free, I.freeC, fun p hp => ?_, tracked ⟨oc, hoc, I.freeC x c hc⟩ hs, by simpa using I.len⟩ ⟨c, hs, .inr hc⟩
  ·exact (hs.2 b (Nat.ne_of_lt (Nat.lt_of_lt_of_le (Heap.lt_size e) (I.ok.cab x c hfn hc)))).trans (I.base.keep b o e n hb hx)
  ·obtain ⟨sl, e1⟩ := I.base.slot b o e n hb hx
   exact ⟨sl, (hs.2 b (Nat.ne_of_lt (Nat.lt_of_lt_of_le (Heap.lt_size e) (I.ok.cab x c hfn hc)))).trans e1⟩
  ·obtain ⟨o', e1⟩ := I.base.there b o e hx
   exact ⟨o', (hs.2 b (Nat.ne_of_lt (Nat.lt_of_lt_of_le (Heap.lt_size e) (I.ok.cab x c hfn hc)))).trans e1⟩
  ·by_cases hj : j = i
   ·subst hj
    rw [hi] at e1; cases e1
    rw [List.getElem?_set_self hiσ] at e2
    cases e2
    exact ⟨u, r, .inr ⟨.inl hk, c, hc, hc'⟩⟩
   ·rw [List.getElem?_set_ne (Ne.symm hj)] at e2
    obtain ⟨u', r', q⟩ := hl j y v' e1 e2 e3
    refine ⟨u', r', ?_⟩
    rcases q with q | ⟨k, c', e, z'⟩
    ·exact .inl q
    ·refine .inr ⟨k, c', e, z'.sameBut hs ?_⟩
     rintro rfl
     exact hj (nodup_ix hN e1 (I.ok.inj _ _ _ e hc ▸ hi))
  ·by_cases hcc : c' = c
   ·subst hcc; exact ⟨_, hc'⟩
   ·obtain ⟨w2, z2⟩ := I.cell y c' e
    exact ⟨w2, z2.sameBut hs hcc⟩
  ·obtain ⟨e, n, ne, nf, d⟩ := I.pin p hp
   refine ⟨(hs.2 p.1 ?_).trans e, n, ne, nf, d⟩
   intro q
   rw [q, hoc] at e
   have q' : oc = p.2 := Option.some.inj e
   exact d w' (by rw [← q']; exact hocd)
theorem store_ok {M : Model} {A : Around} {E : Value → Shared → Prop} {i : Nat} {x : Str} {v : V} {u : Value} {Q : Unit → Shared → Prop} (I : Inv X pins σ H s) (hN : X.N.Nodup) (hi : X.N[i]? = some x) (hx : Loc X.env.scope x) (r : RelV v u)
  (h : ∀ s', Inv X pins (σ.set i (some v)) H s' → Q () s') (hf : X.fn x = true ∨ X.env.scope.names.lookup x = some .local := by first | exact .inl rfl | exact .inr rfl | assumption) : wpAny M A (storeName X.env x u) Q E s :=
 store_ok2 I hN hi hx r (fun s' I' _ => h s' I') hf
theorem Inv.call' {s' : Shared} {ch : List Addr} (I : Inv X pins σ H s) (ho : s'.os = s.os) (u : Un (frs X.stack) ch H H' s.heap s'.heap) (hok : HOk X.prog X.w H' s'.heap) (hg : AllBare s'.gens)
  (hch : ∀ b ∈ ch, (b ∈ X.ex ∨ X.s₀.heap.objs.size ≤ b) ∧ b ≠ X.env.locals ∧ (∀ x c, X.env.cells.lookup x = some c → c ≠ b) ∧ ∀ p ∈ X.pn ++ pins, p.1 ≠ b) : Inv X pins σ H' s' := by
 obtain ⟨h', g', d', t', o'⟩ := s'
 have e : o' = s.os := ho
 subst e
 exact I.call (g' := g') (t' := t') (d' := d') u hok hg hch
end
abbrev XK := Value → Option Addr → Hp → Prop
abbrev St := List (Option V)
abbrev VK := V → Hp → Prop
abbrev TE := St → Hp → VK → Prop
abbrev TT := St → Hp → (Bool → Hp → Prop) → Prop
abbrev TA := St → Hp → (List V → Hp → Prop) → Prop
structure Ends where
 nx : St → Hp → Prop
 rt : VK
 bk : St → Hp → Prop := fun _ _ => False
 ct : St → Hp → Prop := fun _ _ => False
abbrev TS := Ends → St → Hp → Prop
def EP (X : Cx) (pins : List (Addr × Obj)) (σ : St) (Q : VK) (u : Value) (s' : Shared) : Prop := ∃ v H', Inv X pins σ H' s' ∧ RelV v u ∧ Q v H'
def TP (X : Cx) (pins : List (Addr × Obj)) (σ : St) (Q : Bool → Hp → Prop) (b : Bool) (s' : Shared) : Prop := ∃ H', Inv X pins σ H' s' ∧ Q b H'
def AP (X : Cx) (pins : List (Addr × Obj)) (σ : St) (Q : List V → Hp → Prop) (us : List Value) (s' : Shared) : Prop := ∃ vs H', Inv X pins σ H' s' ∧ Vals vs us ∧ Q vs H'
def SP (X : Cx) (pins : List (Addr × Obj)) (D : Ends) (f : Flow) (s' : Shared) : Prop :=
 match f with
 | .next => ∃ σ' H', Inv X pins σ' H' s' ∧ D.nx σ' H'
 | .brk => ∃ σ' H', Inv X pins σ' H' s' ∧ D.bk σ' H'
 | .cont => ∃ σ' H', Inv X pins σ' H' s' ∧ D.ct σ' H'
 | .ret u => ∃ v σ' H', Inv X pins σ' H' s' ∧ RelV v u ∧ D.rt v H'
def PE (X : Cx) (e : Expr) (t : TE) : Prop :=
 ∀ (pins : List (Addr × Obj)) (s : Shared) (σ : St) (H : Hp) (Q : VK), Inv X pins σ H s → t σ H Q → wpAny (model X.prog X.w) X.A (eval e X.env) (EP X pins σ Q) X.xe s
def PT (X : Cx) (e : Expr) (t : TT) : Prop :=
 ∀ (pins : List (Addr × Obj)) (s : Shared) (σ : St) (H : Hp) (Q : Bool → Hp → Prop), Inv X pins σ H s → t σ H Q → wpAny (model X.prog X.w) X.A (isTrue e X.env (eval e X.env)) (TP X pins σ Q) X.xe s
def PW (X : Cx) (e : Expr) (t : TT) : Prop :=
 ∀ (whole : Sem Value) (pins : List (Addr × Obj)) (s : Shared) (σ : St) (H : Hp) (Q : Bool → Hp → Prop), Inv X pins σ H s → t σ H Q → wpAny (model X.prog X.w) X.A (isTrue e X.env whole) (TP X pins σ Q) X.xe s
theorem PW.pt {X : Cx} {e : Expr} {t : TT} (h : PW X e t) : PT X e t := h _
def PA (X : Cx) (es : List Expr) (t : TA) : Prop :=
 ∀ (pos : Pos) (pins : List (Addr × Obj)) (s : Shared) (σ : St) (H : Hp) (Q : List V → Hp → Prop), Inv X pins σ H s → t σ H Q → wpAny (model X.prog X.w) X.A (spliced (backTo pos (starEach es X.env))) (AP X pins σ Q) X.xe s
def PS (X : Cx) (st : Stmt) (t : TS) : Prop :=
 ∀ (pins : List (Addr × Obj)) (s : Shared) (σ : St) (H : Hp) (D : Ends), Inv X pins σ H s → t D σ H → wpAny (model X.prog X.w) X.A (exec st X.env) (SP X pins D) X.xe s
def PSs (X : Cx) (st : List Stmt) (t : TS) : Prop :=
 ∀ (pins : List (Addr × Obj)) (s : Shared) (σ : St) (H : Hp) (D : Ends), Inv X pins σ H s → t D σ H → wpAny (model X.prog X.w) X.A (execs st X.env) (SP X pins D) X.xe s
theorem thn {α : Type} {t : Sem α} {Q Q' : α → Shared → Prop} {M : Model} {A : Around} {E : Value → Shared → Prop} {s : Shared} (h : wpAny M A t Q E s) (hQ : ∀ a s, Q a s → Q' a s) : wpAny M A t Q' E s := wpAny_mono h hQ fun _ _ x => x
end L2
namespace L2
open PySem PySem.Spec PyProof.Rows
section
variable {X : Cx}
def tVar (i : Nat) : TE := fun σ H Q => ∃ v, σ[i]? = some (some v) ∧ Q v H
def tC (v : V) : TE := fun _ H Q => Q v H
theorem pe_var {i : Nat} {x : Str} {pos : Pos} (hN : X.N[i]? = some x) (hv : Vis X.env.scope x) (hd : (x == ("__debug__" : Str)) = false := by decide) (hcd : (x == ("__classdict__" : Str)) = false := by decide) : PE X (.Name x pos) (tVar i) := by
 intro pins s σ H Q I h
 obtain ⟨v, e, h⟩ := h
 obtain ⟨m, hn, hl⟩ := I.loc
 obtain ⟨u, r, l⟩ := hl i x v hN e hv
 have fin : EP X pins σ Q u s := ⟨v, H, I, r, h⟩
 rcases l with ⟨hk, hm⟩ | ⟨hk, c, hc, hcell⟩
 ·exact wpAny_Name (wpAny_loadName_local I.ok.kind hk hn hm fin) hd
 ·rcases hk with hk | hk
  ·exact wpAny_Name (wpAny_loadName_cell I.ok.kind hk hc hcell fin) hd
  ·exact wpAny_Name (wpAny_loadName_free I.ok.kind hk hc hcell fin hcd) hd
theorem pe_int {i j pos} : PE X (.Constant (.int i) j pos) (tC (.int i)) := fun _ _ _ H _ I h => wpAny_Constant_int ⟨.int i, H, I.tok _, ⟨_, rfl⟩, h⟩
theorem pe_bl {b j pos} : PE X (.Constant (.bool b) j pos) (tC (.bl b)) := fun _ _ _ H _ I h => Constant_bool ⟨.bl b, H, I, rfl, h⟩
theorem pe_non {j pos} : PE X (.Constant .none j pos) (tC .non) := fun _ _ _ H _ I h => Constant_none ⟨.non, H, I, rfl, h⟩
theorem pe_str {x j pos} : PE X (.Constant (.str x) j pos) (tC (.str x)) := fun _ _ _ H _ I h => Calls.Constant_str ⟨.str x, H, I.tok _, ⟨_, rfl⟩, h⟩
def Gl (X : Cx) (x : Str) : Prop := X.env.kindOf x = some .globalImplicit
theorem ld_glob {E : Value → Shared → Prop} {pins : List (Addr × Obj)} {s : Shared} {σ : St} {H : Hp} {x : Str} {u : Value} {pos : Pos} {Q : Value → Shared → Prop} (I : Inv X pins σ H s) (hg : Gl X x) (hm : X.mg x = some u) (h : Q u s)
  (hd : (x == ("__debug__" : Str)) = false := by decide) : wpAny (model X.prog X.w) X.A (eval (.Name x pos) X.env) Q E s :=
 Calls.Name_function_global I.ok.kind hg (Calls.loadGlobal_global (by rw [I.ok.glob]; exact I.mod.glob.keeps I.bk) hm h) hd
theorem ld_blt {E : Value → Shared → Prop} {pins : List (Addr × Obj)} {s : Shared} {σ : St} {H : Hp} {x : Str} {u : Value} {pos : Pos} {Q : Value → Shared → Prop} (I : Inv X pins σ H s) (hg : Gl X x) (hm : X.mg x = none) (hv : bootBuiltins x = some u) (h : Q u s)
  (hn : x ≠ "__name__" := by decide) (hd : (x == ("__debug__" : Str)) = false := by decide) : wpAny (model X.prog X.w) X.A (eval (.Name x pos) X.env) Q E s := by
 obtain ⟨mb, h1, h2⟩ := I.mod.blt
 exact Calls.Name_function_global I.ok.kind hg (Calls.loadGlobal_builtin (by rw [I.ok.glob]; exact I.mod.glob.keeps I.bk) hm (by rw [I.ok.blt]; exact h1.keeps I.bk) ((h2 x hn).trans hv) h) hd
theorem pe_glob {x : Str} {v : V} {u : Value} {pos : Pos} (hg : Gl X x) (hm : X.mg x = some u) (r : RelV v u) (hd : (x == ("__debug__" : Str)) = false := by decide) : PE X (.Name x pos) (tC v) :=
 fun _ _ _ H _ I h => ld_glob I hg hm ⟨v, H, I, r, h⟩ hd
theorem pe_bltn {x : Str} {v : V} {u : Value} {pos : Pos} (hg : Gl X x) (hm : X.mg x = none) (hv : bootBuiltins x = some u) (r : RelV v u) (hn : x ≠ "__name__" := by decide) (hd : (x == ("__debug__" : Str)) = false := by decide) : PE X (.Name x pos) (tC v) :=
 fun _ _ _ H _ I h => ld_blt I hg hm hv ⟨v, H, I, r, h⟩ hn hd
variable {a b : Expr} {ta tb : TE} {pos : Pos}
def tB (t : TE) : TT := fun σ H Q => t σ H fun x H1 => ∃ c, x = .bl c ∧ Q c H1
theorem pt_val {e : Expr} {t : TE} (h : PE X e t) (he : ∀ whole, isTrue e X.env whole = (do let v ← whole; standAt e.pos; holding [v] (truthy v)) := by intro _; rfl) : PT X e (tB t) := by
 intro pins s σ H Q I hw
 refine isTrue_plain (thn (h pins s σ H _ I hw) fun v s1 ⟨x, H1, I1, r1, q1⟩ => ?_) (he _)
 obtain ⟨d, rfl, q⟩ := q1
 cases r1
 exact wpAny_truthy_bool ⟨H1, I1, q⟩
variable {tA tB' : TT} {rest : List Expr}
def tAnd (t u : TT) : TT := fun σ H Q => t σ H fun c H1 => if c = true then u σ H1 Q else Q false H1
def tOr (t u : TT) : TT := fun σ H Q => t σ H fun c H1 => if c = true then Q true H1 else u σ H1 Q
def tNot (t : TT) : TT := fun σ H Q => t σ H fun c H1 => Q (!c) H1
theorem pw_and1 (ha : PT X a tA) : PW X (.BoolOp .And [a] pos) tA := by
 intro wh pins s σ H Q I h
 refine isTrue_and (thn (ha pins s σ H Q I h) fun c s1 e => ?_)
 cases c with
 | true => exact isTrue_and_nil e
 | false => exact e
theorem pw_or1 (ha : PT X a tA) : PW X (.BoolOp .Or [a] pos) tA := by
 intro wh pins s σ H Q I h
 refine isTrue_or (thn (ha pins s σ H Q I h) fun c s1 e => ?_)
 cases c with
 | false => exact isTrue_or_nil e
 | true => exact e
theorem pw_and (ha : PT X a tA) (hb : PW X (.BoolOp .And (b :: rest) pos) tB') : PW X (.BoolOp .And (a :: b :: rest) pos) (tAnd tA tB') := by
 intro wh pins s σ H Q I h
 refine isTrue_and (thn (ha pins s σ H _ I h) fun c s1 ⟨H1, I1, q1⟩ => ?_)
 cases c with
 | true => exact hb wh pins s1 σ H1 Q I1 q1
 | false => exact ⟨H1, I1, q1⟩
theorem pw_or (ha : PT X a tA) (hb : PW X (.BoolOp .Or (b :: rest) pos) tB') : PW X (.BoolOp .Or (a :: b :: rest) pos) (tOr tA tB') := by
 intro wh pins s σ H Q I h
 refine isTrue_or (thn (ha pins s σ H _ I h) fun c s1 ⟨H1, I1, q1⟩ => ?_)
 cases c with
 | true => exact ⟨H1, I1, q1⟩
 | false => exact hb wh pins s1 σ H1 Q I1 q1
theorem pt_not (ha : PT X a tA) : PT X (.UnaryOp .Not a pos) (tNot tA) := by
 intro pins s σ H Q I h
 exact isTrue_not (ha pins s σ H (fun c H1 => Q (!c) H1) I h)
def tAndV (ta tb : TE) : TE := fun σ H Q => ta σ H fun x H1 => ∃ c, x = .bl c ∧ if c = true then tb σ H1 Q else Q (.bl false) H1
def tOrV (ta tb : TE) : TE := fun σ H Q => ta σ H fun x H1 => ∃ c, x = .bl c ∧ if c = true then Q (.bl true) H1 else tb σ H1 Q
def tNotV (ta : TE) : TE := fun σ H Q => ta σ H fun x H1 => ∃ c, x = .bl c ∧ Q (.bl (!c)) H1
theorem pe_one {op} {t : TE} (h : PE X a t) : PE X (.BoolOp op [a] pos) t := fun pins s σ H Q I hw => BoolOp_one (h pins s σ H Q I hw)
theorem pe_and (ha : PE X a ta) (hb : PE X (.BoolOp .And (b :: rest) pos) tb) : PE X (.BoolOp .And (a :: b :: rest) pos) (tAndV ta tb) := by
 intro pins s σ H Q I h
 refine BoolOp_and (thn (ha pins s σ H _ I h) fun v s1 ⟨x, H1, I1, r1, q1⟩ => ?_)
 obtain ⟨c, rfl, q1⟩ := q1
 cases r1
 refine wpAny_truthy_bool ?_
 cases c with
 | true => exact hb pins s1 σ H1 Q I1 q1
 | false => exact ⟨.bl false, H1, I1, rfl, q1⟩
theorem pe_or (ha : PE X a ta) (hb : PE X (.BoolOp .Or (b :: rest) pos) tb) : PE X (.BoolOp .Or (a :: b :: rest) pos) (tOrV ta tb) := by
 intro pins s σ H Q I h
 refine BoolOp_or (thn (ha pins s σ H _ I h) fun v s1 ⟨x, H1, I1, r1, q1⟩ => ?_)
 obtain ⟨c, rfl, q1⟩ := q1
 cases r1
 refine wpAny_truthy_bool ?_
 cases c with
 | false => exact hb pins s1 σ H1 Q I1 q1
 | true => exact ⟨.bl true, H1, I1, rfl, q1⟩
theorem pe_not (ha : PE X a ta) : PE X (.UnaryOp .Not a pos) (tNotV ta) := by
 intro pins s σ H Q I h
 refine UnaryOp_ (thn (ha pins s σ H _ I h) fun v s1 ⟨x, H1, I1, r1, q1⟩ => ?_)
 obtain ⟨c, rfl, q1⟩ := q1
 cases r1
 exact not_of (wpAny_truthy_bool ⟨.bl (!c), H1, I1, rfl, q1⟩)
def tIf (t : TT) (ta tb : TE) : TE := fun σ H Q => t σ H fun c H1 => if c = true then ta σ H1 Q else tb σ H1 Q
theorem pe_ifExp {c : Expr} (hc : PT X c tA) (ha : PE X a ta) (hb : PE X b tb) : PE X (.IfExp c a b pos) (tIf tA ta tb) := by
 intro pins s σ H Q I h
 refine wpAny_IfExp (thn (hc pins s σ H _ I h) fun d s1 ⟨H1, I1, q1⟩ => ?_)
 cases d with
 | true => exact ha pins s1 σ H1 Q I1 q1
 | false => exact hb pins s1 σ H1 Q I1 q1
end
end L2
namespace L2
open PySem PySem.Spec PyProof.Rows
def SqL (K : PySem.W.Frag) (H : Hp) (a : Addr) (xs : List V) : Prop :=
 Rd H a (.lst xs) ∨
  ∃ (o : Obj) (its : Array Value) (n : Nat), K.lookup a = some o ∧ o.cls = .type "list" ∧ o.dict = none ∧ o.data = .seq its n ∧ its.size ≤ sizeLine ∧ Vals xs its.toList
def SqT (K : PySem.W.Frag) (H : Hp) (a : Addr) (xs : List V) : Prop :=
 Rd H a (.tup xs) ∨
  ∃ (o : Obj) (its : Array Value) (n : Nat), K.lookup a = some o ∧ o.cls = .type "tuple" ∧ o.data = .seq its n ∧ its.size ≤ sizeLine ∧ Vals xs its.toList
def absV : Value → Option V
 | .none => some .non
 | .bool b => some (.bl b)
 | .int i _ => some (.int i)
 | .str x _ => some (.str x)
 | .bytes b _ => some (.byt b)
 | .float b _ => some (.flt b)
 | .ref a => some (.ref a)
 | .type n => some (.ty n)
 | _ => none
theorem RelV.abs {x : V} {u : Value} (r : RelV x u) : absV u = some x := by
 cases x with
 | non => cases r; rfl
 | bl _ => cases r; rfl
 | int _ => obtain ⟨t, rfl⟩ := r; rfl
 | str _ => obtain ⟨t, rfl⟩ := r; rfl
 | byt _ => obtain ⟨t, rfl⟩ := r; rfl
 | flt _ => obtain ⟨t, rfl⟩ := r; rfl
 | ref _ => cases r; rfl
 | ty _ => cases r; rfl
theorem RelV.inj {x y : V} {u : Value} (r : RelV x u) (q : RelV y u) : x = y := Option.some.inj (r.abs.symm.trans q.abs)
theorem Vals.inj : ∀ {xs ys : List V} {us : List Value}, Vals xs us → Vals ys us → xs = ys
 | _, _, _, .nil, .nil => rfl
 | _, _, _, .cons r t, .cons r' t' => by rw [r.inj r', Vals.inj t t']
section
variable {X : Cx} {pins : List (Addr × Obj)} {σ : St} {H : Hp} {s : Shared} {a : Addr} {xs ys : List V}
theorem SqL.of {K : PySem.W.Frag} (h : H a = some (.lst xs)) : SqL K H a xs := .inl (.inl h)
theorem Inv.list (I : Inv X pins σ H s) (h : SqL X.K H a xs) : ∃ its : List Value, Vals xs its ∧ PlainL s.heap a its.toArray ∧ xs.length ≤ sizeLine := by
 rcases h with h | ⟨o, its, n, hk, hc, hd, hs, hz, r⟩
 ·obtain ⟨z, its, n, r, e⟩ := h.ok I.hok
  exact ⟨its, r, ⟨_, n, e, rfl, rfl, rfl⟩, z⟩
 ·refine ⟨its.toList, r, ⟨o, n, I.kIn a o hk, hc, hd, by simpa using hs⟩, ?_⟩
  have e := r.length
  simp only [Array.length_toList] at e
  omega
theorem Inv.tuple (I : Inv X pins σ H s) (h : SqT X.K H a xs) : ∃ its : List Value, Vals xs its ∧ IsTup s.heap a its.toArray ∧ xs.length ≤ sizeLine := by
 rcases h with h | ⟨o, its, n, hk, hc, hs, hz, r⟩
 ·obtain ⟨z, its, r, p⟩ := h.ok I.hok
  exact ⟨its, r, p, z⟩
 ·refine ⟨its.toList, r, ⟨o, I.kIn a o hk, hc, n, by simpa using hs⟩, ?_⟩
  have e := r.length
  simp only [Array.length_toList] at e
  omega
theorem Inv.list_inj (I : Inv X pins σ H s) (h : SqL X.K H a xs) (h' : SqL X.K H a ys) : xs = ys := by
 obtain ⟨its, r, ⟨o, n, e, _, _, d⟩, _⟩ := I.list h
 obtain ⟨its', r', ⟨o', n', e', _, _, d'⟩, _⟩ := I.list h'
 rw [e] at e'; cases e'
 rw [d] at d'
 injection d' with d1 _
 have : its = its' := by simpa using congrArg Array.toList d1
 subst this
 exact r.inj r'
theorem Inv.tuple_inj (I : Inv X pins σ H s) (h : SqT X.K H a xs) (h' : SqT X.K H a ys) : xs = ys := by
 obtain ⟨its, r, ⟨o, e, _, n, d⟩, _⟩ := I.tuple h
 obtain ⟨its', r', ⟨o', e', _, n', d'⟩, _⟩ := I.tuple h'
 rw [e] at e'; cases e'
 rw [d] at d'
 injection d' with d1 _
 have : its = its' := by simpa using congrArg Array.toList d1
 subst this
 exact r.inj r'
end
abbrev Cx.wish (X : Cx) (E : Value → Shared → Prop) : Cx := { X with xe := E }
abbrev Cx.nox (X : Cx) : Cx := X.wish fun _ _ => False
theorem Cx.Ok.wish {X : Cx} (ok : X.Ok) (E : Value → Shared → Prop) : (X.wish E).Ok :=
 ⟨ok.mod, ok.kind, ok.glob, ok.blt, ok.above, ok.inj, ok.has, ok.cab, ok.hd, ok.frames, ok.stk, ok.exf, ok.bs, ok.bsz, ok.noex, ok.exfs, ok.funs, ok.frf⟩
theorem Cx.Ok.unwish {X : Cx} {E : Value → Shared → Prop} (ok : (X.wish E).Ok) : X.Ok :=
 ⟨ok.mod, ok.kind, ok.glob, ok.blt, ok.above, ok.inj, ok.has, ok.cab, ok.hd, ok.frames, ok.stk, ok.exf, ok.bs, ok.bsz, ok.noex, ok.exfs, ok.funs, ok.frf⟩
section
variable {X : Cx} {pins : List (Addr × Obj)} {σ : St} {H : Hp} {s : Shared} {E : Value → Shared → Prop}
theorem Inv.wish (I : Inv X pins σ H s) (E : Value → Shared → Prop) : Inv (X.wish E) pins σ H s := ⟨I.ok.wish E, I.os, I.bare, I.base, I.loc, I.cell, I.free, I.freeC, I.pin, I.hok, I.len⟩
theorem Inv.unwish (I : Inv (X.wish E) pins σ H s) : Inv X pins σ H s := ⟨I.ok.unwish, I.os, I.bare, I.base, I.loc, I.cell, I.free, I.freeC, I.pin, I.hok, I.len⟩
theorem SP.unwish {D : Ends} {f : Flow} {s' : Shared} (h : SP (X.wish E) pins D f s') : SP X pins D f s' := by
 cases f with
 | next => obtain ⟨σ', H', I, q⟩ := h; exact ⟨σ', H', I.unwish, q⟩
 | brk => obtain ⟨σ', H', I, q⟩ := h; exact ⟨σ', H', I.unwish, q⟩
 | cont => obtain ⟨σ', H', I, q⟩ := h; exact ⟨σ', H', I.unwish, q⟩
 | ret u => obtain ⟨v, σ', H', I, r, q⟩ := h; exact ⟨v, σ', H', I.unwish, r, q⟩
theorem PSs.nox {st : List Stmt} {t : TS} (h : PSs X.nox st t) : PSs X st t := fun pins s σ H D I hw =>
 wpAny_mono (h pins s σ H D (I.wish _) hw) (fun _ _ q => q.unwish) fun _ _ z => False.elim z
end
section
variable {X : Cx} {st : Stmt} {rest : List Stmt} {t u : TS} {e : Expr} {te : TE} {pos : Pos}
def tNext : TS := fun D σ H => D.nx σ H
def tSeq (t u : TS) : TS := fun D σ H => t { D with nx := u D } σ H
theorem pss_nil : PSs X [] tNext := fun _ _ σ H _ I h => wpAny_execs_nil ⟨σ, H, I, h⟩
theorem pss_cons (h1 : PS X st t) (h2 : PSs X rest u) : PSs X (st :: rest) (tSeq t u) := by
 intro pins s σ H D I h
 refine wpAny_execs_cons (thn (h1 pins s σ H { D with nx := u D } I h) fun f s1 q => ?_)
 cases f with
 | next =>
  obtain ⟨σ', H', I', q⟩ := q
  exact h2 pins s1 σ' H' D I' q
 | ret v => exact q
 | brk => exact q
 | cont => exact q
def tBreak : TS := fun D σ H => D.bk σ H
def tCont : TS := fun D σ H => D.ct σ H
theorem ps_pass : PS X (.Pass pos) tNext := fun _ _ σ H _ I h => wpAny_Pass ⟨σ, H, I, h⟩
theorem ps_break : PS X (.Break pos) tBreak := fun _ _ σ H _ I h => wpAny_Break ⟨σ, H, I, h⟩
theorem ps_continue : PS X (.Continue pos) tCont := fun _ _ σ H _ I h => wpAny_Continue ⟨σ, H, I, h⟩
theorem Inv.quiet {pins : List (Addr × Obj)} {σ : St} {H : Hp} {s : Shared} (I : Inv X pins σ H s) : interactive X.env = false := by simp [interactive, I.ok.kind]
def tDrop (te : TE) : TS := fun D σ H => te σ H fun _ H1 => D.nx σ H1
theorem ps_expr (he : PE X e te) (hs : swapsWith e none pos.line X.env = pure false := by rfl) : PS X (.Expr e pos) (tDrop te) := by
 intro pins s σ H D I h
 exact wpAny_Expr_any (thn (he pins s σ H _ I h) fun v s1 ⟨x, H1, I1, r1, q1⟩ => ⟨σ, H1, I1, q1⟩) I.quiet hs
def tRet (te : TE) : TS := fun D σ H => te σ H D.rt
theorem ps_ret (he : PE X e te) : PS X (.Return (some e) pos) (tRet te) := by
 intro pins s σ H D I h
 exact wpAny_Return_some (thn (he pins s σ H _ I h) fun v s1 ⟨x, H1, I1, r1, q1⟩ => ⟨x, σ, H1, I1, r1, q1⟩)
def tRetN : TS := fun D _ H => D.rt .non H
theorem ps_retN : PS X (.Return none pos) tRetN := fun _ _ σ H _ I h => wpAny_Return_none ⟨.non, σ, H, I, rfl, h⟩
def tIfS (c : TT) (t u : TS) : TS := fun D σ H => c σ H fun b H1 => if b = true then t D σ H1 else u D σ H1
theorem ps_if {c : Expr} {a b : List Stmt} {tc : TT} (hc : PT X c tc) (ha : PSs X a t) (hb : PSs X b u) : PS X (.If c a b pos) (tIfS tc t u) := by
 intro pins s σ H D I h
 refine wpAny_If (thn (hc pins s σ H _ I h) fun d s1 ⟨H1, I1, q1⟩ => ?_)
 cases d with
 | true => exact ha pins s1 σ H1 D I1 q1
 | false => exact hb pins s1 σ H1 D I1 q1
end
abbrev TG := V → St → Hp → (St → Hp → Prop) → Prop
abbrev TGs := List V → St → Hp → (St → Hp → Prop) → Prop
def PG (X : Cx) (target : Expr) (t : TG) : Prop :=
 ∀ (pins : List (Addr × Obj)) (s : Shared) (σ : St) (H : Hp) (v : V) (u : Value) (Q : St → Hp → Prop), Inv X pins σ H s → RelV v u → t v σ H Q →
  wpAny (model X.prog X.w) X.A (assign target X.env u) (fun _ s' => ∃ σ' H', Inv X pins σ' H' s' ∧ Q σ' H') X.xe s
def PGs (X : Cx) (ts : List Expr) (t : TGs) : Prop :=
 ∀ (pins : List (Addr × Obj)) (s : Shared) (σ : St) (H : Hp) (vs : List V) (us : List Value) (Q : St → Hp → Prop), Inv X pins σ H s → Vals vs us → t vs σ H Q →
  wpAny (model X.prog X.w) X.A (assignInOrder ((assignEach ts X.env).map (·.2)) us) (fun _ s' => ∃ σ' H', Inv X pins σ' H' s' ∧ Q σ' H') X.xe s
abbrev TSet := V → V → V → Hp → (Hp → Prop) → Prop
def PSet (X : Cx) (t : TSet) : Prop :=
 ∀ (pins : List (Addr × Obj)) (s : Shared) (σ : St) (H : Hp) (o i v : V) (ov iv u : Value) (Q : Hp → Prop), Inv X pins σ H s → RelV o ov → RelV i iv → RelV v u → t o i v H Q →
  wpAny (model X.prog X.w) X.A (setItem ov iv u) (fun _ s' => ∃ H', Inv X pins σ H' s' ∧ Q H') X.xe s
section
variable {X : Cx} {pos : Pos}
def gName (i : Nat) : TG := fun v σ H Q => Q (σ.set i (some v)) H
theorem pg_name {i : Nat} {x : Str} (hN : X.N.Nodup) (hi : X.N[i]? = some x) (hx : Loc X.env.scope x) (hf : X.fn x = true ∨ X.env.scope.names.lookup x = some .local := by first | exact .inl rfl | exact .inr rfl | assumption) : PG X (.Name x pos) (gName i) := by
 intro pins s σ H v u Q I r h
 exact wpAny_assign_Name (store_ok I hN hi hx r (fun s' I' => ⟨_, H, I', h⟩) hf)
def gNil : TGs := fun vs σ H Q => vs = [] ∧ Q σ H
def gCons (t : TG) (u : TGs) : TGs := fun vs σ H Q => ∃ v r, vs = v :: r ∧ t v σ H fun σ' H' => u r σ' H' Q
theorem pgs_nil : PGs X [] gNil := by
 intro pins s σ H vs us Q I r h
 obtain ⟨e, h⟩ := h
 subst e
 cases r
 exact assignInOrder_nil ⟨σ, H, I, h⟩
theorem pgs_cons {e : Expr} {es : List Expr} {t : TG} {u : TGs} (h1 : PG X e t) (h2 : PGs X es u)
  (hs : (assignEach (e :: es) X.env).map (·.2) = assign e X.env :: (assignEach es X.env).map (·.2) := by rfl) : PGs X (e :: es) (gCons t u) := by
 intro pins s σ H vs us Q I r h
 obtain ⟨v, vr, e1, h⟩ := h
 subst e1
 cases r with
 | cons r rr =>
  rw [hs]
  refine assignInOrder_cons (thn (h1 pins s σ H _ _ _ I r h) fun _ s1 ⟨σ1, H1, I1, q1⟩ => ?_)
  exact h2 pins s1 σ1 H1 _ _ Q I1 rr q1
def gTup (K : PySem.W.Frag) (n : Nat) (t : TGs) : TG := fun v σ H Q => ∃ a xs, v = .ref a ∧ SqT K H a xs ∧ xs.length = n ∧ t xs σ H Q
theorem pg_tup {es : List Expr} {k : Nat} {t : TGs} {n : Nat} (hc : X.calm = true) (h : PGs X es t)
  (hn : (assignEach es X.env).length = n := by rfl) (hst : (assignEach es X.env).findIdx? (·.1) = none := by rfl) : PG X (.Tuple es k pos) (gTup X.K n t) := by
 intro pins s σ H v u Q I r hw
 obtain ⟨a, xs, e1, hq, hl, hw⟩ := hw
 subst e1
 cases r
 obtain ⟨its, rv, ht, hz⟩ := I.tuple hq
 refine assign_Tuple_tuple (I.ok.hd hc) ht (by simp [hn, ← hl, rv.length]) hst fun h' hx => ?_
 have I1 : Inv X pins σ H { s with heap := h' } := I.kept (t' := s.toks) fun b o e => hx b o (Nat.ne_of_lt (Heap.lt_size e)) e
 exact h pins _ σ H xs _ Q I1 (by simpa using rv) hw
def gSub (to ti : TE) (t : TSet) : TG := fun v σ H Q => to σ H fun o H1 => ti σ H1 fun i H2 => t o i v H2 fun H3 => Q σ H3
theorem pg_sub {o i : Expr} {to ti : TE} {t : TSet} (ho : PE X o to) (hi : PE X i ti) (hs : PSet X t)
  (ha : ∀ v, assign (.Subscript o i pos) X.env v = (do
   let ov ← holding [v] (eval o X.env)
   let iv ← holding [v, ov] (eval i X.env)
   standAt pos
   holding [v, ov, iv] (setItem ov iv v)
   release [v, ov, iv] []) := by intro _; rfl) : PG X (.Subscript o i pos) (gSub to ti t) := by
 intro pins s σ H v u Q I r h
 rw [ha]
 refine wpAny_bind (wpAny_holding (thn (ho pins s σ H _ I h) fun ov s1 ⟨x, H1, I1, r1, q1⟩ => ?_))
 refine wpAny_bind (wpAny_holding (thn (hi pins s1 σ H1 _ I1 q1) fun iv s2 ⟨y, H2, I2, r2, q2⟩ => ?_))
 refine wpAny_bind (wpAny_standAt (wpAny_bind (wpAny_holding (thn (hs pins s2 σ H2 x y v ov iv u _ I2 r1 r2 r q2) fun _ s3 ⟨H3, I3, q3⟩ => ?_))))
 exact wpAny_release ⟨σ, H3, I3, q3⟩
def tAsg (te : TE) (g : TG) : TS := fun D σ H => te σ H fun x H1 => g x σ H1 D.nx
theorem ps_asg {tg e : Expr} {te : TE} {g : TG} (he : PE X e te) (hg : PG X tg g) (hs : swapsWithSole [tg] e pos.line X.env = pure false := by rfl) (hw : swappedStores [tg] e X.env = pure none := by rfl)
  (h1 : (assignEach [tg] X.env).map (·.2) = [assign tg X.env] := by rfl) : PS X (.Assign [tg] e pos) (tAsg te g) := by
 intro pins s σ H D I h
 refine wpAny_Assign_stores (thn (he pins s σ H _ I h) fun v s1 ⟨x, H1, I1, r1, q1⟩ => ?_) hs hw
 rw [h1]
 exact thn (hg pins s1 σ H1 x v _ I1 r1 q1) fun _ s2 q => q
theorem ps_set {i : Nat} {x : Str} {e : Expr} {te : TE} {pos' : Pos} (hN : X.N.Nodup) (hi : X.N[i]? = some x) (hx : Loc X.env.scope x) (he : PE X e te) (hs : swapsWith e (some (.Name x pos')) pos.line X.env = pure false := by rfl) (hf : X.fn x = true ∨ X.env.scope.names.lookup x = some .local := by first | exact .inl rfl | exact .inr rfl | assumption) :
  PS X (.Assign [.Name x pos'] e pos) (tAsg te (gName i)) := by
 intro pins s σ H D I h
 refine wpAny_Assign_Name (thn (he pins s σ H _ I h) fun v s1 ⟨y, H1, I1, r1, q1⟩ => ?_) hs
 exact store_ok I1 hN hi hx r1 (fun s2 I2 => ⟨_, H1, I2, q1⟩) hf
end
section
variable {X : Cx} {pos : Pos}
end
structure It where
 go : Nat → Hp → Prop
 yld : Nat → Hp → V → Hp → Prop
 stop : Nat → Hp → Prop
def FpOk (X : Cx) (pins : List (Addr × Obj)) (H : Hp) (b : Addr) : Prop :=
 H b = none ∧ b ≠ X.env.locals ∧ b ∉ X.fs ∧ (b ∈ X.ex ∨ X.s₀.heap.objs.size ≤ b) ∧ (∀ x c, X.env.cells.lookup x = some c → c ≠ b) ∧ ∀ p ∈ X.pn ++ pins, p.1 ≠ b
theorem Inv.fpOk {X : Cx} {pins : List (Addr × Obj)} {σ : St} {H H' : Hp} {s : Shared} {b : Addr} (I : Inv X pins σ H s) (hb : s.heap.objs.size ≤ b) (hn : H' b = none) : FpOk X pins H' b := by
 refine ⟨hn, Nat.ne_of_gt (Nat.lt_of_lt_of_le I.lt hb), I.nofs hb, .inr (Nat.le_trans I.sz hb), fun x c e z => ?_, fun p hp z => ?_⟩
 ·obtain ⟨v, q⟩ := I.cell x c e
  exact absurd (Nat.lt_of_lt_of_le q.lt (by rw [z]; exact hb)) (Nat.lt_irrefl _)
 ·exact absurd (Nat.lt_of_lt_of_le (Heap.lt_size (I.pin p hp).1) (by rw [z]; exact hb)) (Nat.lt_irrefl _)
structure Turn (P : Program) (w : World) (K : PySem.W.Frag) (tg : Expr) (J : It) (fp : List Addr) (it : Addr) (tn : Nat → Heap → Prop) : Prop where
 mem : it ∈ fp
 obj : ∀ i h, tn i h → ∀ b ∈ fp, ∃ o, h.get? b = some o ∧ ∀ v, o.data ≠ .cell v
 keep : ∀ i h h', tn i h → (∀ b ∈ fp, ∀ o, h.get? b = some o → h'.get? b = some o) → tn i h'
 item : ∀ (X : Cx), X.prog = P → X.w = w → X.K = K → X.calm = true → ∀ (i : Nat) (pins : List (Addr × Obj)) (s : Shared) (σ : St) (H : Hp) (E : Value → Shared → Prop), Inv X pins σ H s → (∀ b ∈ fp, FpOk X pins H b) → tn i s.heap → J.go i H →
  wpAny (model P w) X.A (pyNext (.ref it)) (fun r s1 => ∃ u, r = some u ∧
   wpAny (model P w) X.A (letOwnedTupleGo tg (.ref it) u) (fun _ s2 => ∃ x H', Inv X pins σ H' s2 ∧ RelV x u ∧ J.yld i H x H' ∧ tn (i + 1) s2.heap ∧ ∀ b ∈ fp, H' b = none) E s1) E s
 done : ∀ (X : Cx), X.prog = P → X.w = w → X.K = K → X.calm = true → ∀ (i : Nat) (pins : List (Addr × Obj)) (s : Shared) (σ : St) (H : Hp) (E : Value → Shared → Prop), Inv X pins σ H s → (∀ b ∈ fp, FpOk X pins H b) → tn i s.heap → J.stop i H →
  wpAny (model P w) X.A (pyNext (.ref it)) (fun r s1 => r = none ∧ Inv X pins σ H s1) E s
 self : ∀ (A : Around) (i : Nat) (s : Shared) (Q : Value → Shared → Prop) (E : Value → Shared → Prop), tn i s.heap → Q (.ref it) s → wpAny (model P w) A (pyIter (.ref it)) Q E s
abbrev TI := St → Hp → (It → Hp → Prop) → Prop
def PIE (X : Cx) (pins : List (Addr × Obj)) (σ : St) (tg : Expr) (R : It → Hp → Prop) (itv : Value) (s2 : Shared) : Prop :=
 ∃ (it : Addr) (fp : List Addr) (tn : Nat → Heap → Prop) (J : It) (H' : Hp), itv = .ref it ∧ Inv X pins σ H' s2 ∧ Turn X.prog X.w X.K tg J fp it tn ∧ tn 0 s2.heap ∧ (∀ b ∈ fp, FpOk X pins H' b) ∧ R J H'
def PI (X : Cx) (tg iter : Expr) (wi : TI) : Prop :=
 ∀ (pins : List (Addr × Obj)) (s : Shared) (σ : St) (H : Hp) (R : It → Hp → Prop), Inv X pins σ H s → wi σ H R →
  wpAny (model X.prog X.w) X.A (eval iter X.env) (fun v s1 => wpAny (model X.prog X.w) X.A (pyIter v) (PIE X pins σ tg R) X.xe s1) X.xe s
theorem go_of {M : Model} {A : Around} {E : Value → Shared → Prop} {s : Shared} {tg : Expr} {it : Addr} {u : Value} {o : Obj} {n : String} {vs : Array Value} {Q : Unit → Shared → Prop} (ho : s.heap.get? it = some o) (hc : o.cls = .type n) (hd : o.data = .fields vs)
    (hn : ["enumerate", "zip", "dict_itemiterator", "dict_reverseitemiterator", "odict_iterator", "itertools.zip_longest", "itertools.pairwise"].contains n = false) (hQ : Q () s) : wpAny M A (letOwnedTupleGo tg (.ref it) u) Q E s := by
  unfold letOwnedTupleGo
  cases tg <;> first
    | exact wpAny_pure hQ
    | (cases u <;> first
        | exact wpAny_pure hQ
        | (refine wpAny_bind (wpAny_load ho ?_)
           rw [hc, hd]
           show wpAny M A (if (["enumerate", "zip", "dict_itemiterator", "dict_reverseitemiterator", "odict_iterator", "itertools.zip_longest", "itertools.pairwise"].contains n && vs[0]? == some (rawInt _)) = true then _ else _) Q E s
           rw [if_neg (by intro h; rw [hn, Bool.false_and] at h; cases h)]
           exact wpAny_pure hQ))
def Itl (K : PySem.W.Frag) (a : Addr) : It :=
 ⟨fun i H => ∃ xs x, SqL K H a xs ∧ xs[i]? = some x, fun i H x H' => H' = H ∧ ∀ xs, SqL K H a xs → xs[i]? = some x, fun i H => ∃ xs, SqL K H a xs ∧ xs.length ≤ i⟩
def Itt (K : PySem.W.Frag) (a : Addr) : It :=
 ⟨fun i H => ∃ xs x, SqT K H a xs ∧ xs[i]? = some x, fun i H x H' => H' = H ∧ ∀ xs, SqT K H a xs → xs[i]? = some x, fun i H => ∃ xs, SqT K H a xs ∧ xs.length ≤ i⟩
def Itr (lo : Int) (n : Nat) : It := ⟨fun i _ => i < n, fun i H x H' => H' = H ∧ x = .int (lo + i), fun i _ => n ≤ i⟩
theorem turn_list {P : Program} {w : World} {K : PySem.W.Frag} {tg : Expr} (a it : Addr) : Turn P w K tg (Itl K a) [it] it (fun i h => h.IsListIter it a i) where
 mem := by simp
 obj := fun i h st b hb => by
  have e : b = it := by simpa using hb
  subst e
  obtain ⟨o, e, c, d⟩ := st
  exact ⟨o, e, fun v z => by rw [d] at z; cases z⟩
 keep := fun i h h' st k => st.at fun o e => k it (by simp) o e
 item := by
  intro X hP hw hK hc i pins s σ H E I hf st hg
  subst hP hw hK
  obtain ⟨xs, x, hq, hx⟩ := hg
  obtain ⟨its, rv, p, hz⟩ := I.list hq
  obtain ⟨u, hu, ru⟩ := rv.get hx
  obtain ⟨f0, f1, f2, f3, f4, f5⟩ := hf it (by simp)
  refine wpAny_pyNext_list_item st p.isList (x := u) (by simpa using hu) fun h' st' sb => ?_
  have I1 : Inv X pins σ H { s with heap := h' } := I.turned (t' := s.toks) (fun b o hb e => (sb.2 b hb).trans e) f0 f1 f3 f4 f5
  obtain ⟨o, e, c, d⟩ := id st'
  exact ⟨u, rfl, go_of (s := { s with heap := h' }) e c d (by decide) ⟨x, H, I1, ru, ⟨rfl, fun ys hy => by rw [I.list_inj hy hq]; exact hx⟩, st', fun b hb => (hf b hb).1⟩⟩
 done := by
  intro X hP hw hK hc i pins s σ H E I hf st hg
  subst hP hw hK
  obtain ⟨xs, hq, hx⟩ := hg
  obtain ⟨its, rv, p, hz⟩ := I.list hq
  obtain ⟨f0, f1, f2, f3, f4, f5⟩ := hf it (by simp)
  have hl := rv.length
  exact wpAny_pyNext_list_end (I.ok.hd hc) st p.isList (by simp; omega) fun h' eb => ⟨rfl, I.turned (t' := s.toks) (fun b o hb e => eb b o hb e) f0 f1 f3 f4 f5⟩
 self := fun _ _ _ _ _ st h => wpAny_pyIter_listiter st h
theorem turn_tuple {P : Program} {w : World} {K : PySem.W.Frag} {tg : Expr} (a it : Addr) : Turn P w K tg (Itt K a) [it] it (fun i h => h.IsTupleIter it a i) where
 mem := by simp
 obj := fun i h st b hb => by
  have e : b = it := by simpa using hb
  subst e
  obtain ⟨o, e, c, d⟩ := st
  exact ⟨o, e, fun v z => by rw [d] at z; cases z⟩
 keep := fun i h h' st k => st.at fun o e => k it (by simp) o e
 item := by
  intro X hP hw hK hc i pins s σ H E I hf st hg
  subst hP hw hK
  obtain ⟨xs, x, hq, hx⟩ := hg
  obtain ⟨its, rv, p, hz⟩ := I.tuple hq
  obtain ⟨u, hu, ru⟩ := rv.get hx
  obtain ⟨f0, f1, f2, f3, f4, f5⟩ := hf it (by simp)
  refine wpAny_pyNext_tuple_item st (show s.heap.IsTuple a its.toArray from p) (x := u) (by simpa using hu) fun h' st' sb => ?_
  have I1 : Inv X pins σ H { s with heap := h' } := I.turned (t' := s.toks) (fun b o hb e => (sb.2 b hb).trans e) f0 f1 f3 f4 f5
  obtain ⟨o, e, c, d⟩ := id st'
  exact ⟨u, rfl, go_of (s := { s with heap := h' }) e c d (by decide) ⟨x, H, I1, ru, ⟨rfl, fun ys hy => by rw [I.tuple_inj hy hq]; exact hx⟩, st', fun b hb => (hf b hb).1⟩⟩
 done := by
  intro X hP hw hK hc i pins s σ H E I hf st hg
  subst hP hw hK
  obtain ⟨xs, hq, hx⟩ := hg
  obtain ⟨its, rv, p, hz⟩ := I.tuple hq
  obtain ⟨f0, f1, f2, f3, f4, f5⟩ := hf it (by simp)
  have hl := rv.length
  exact wpAny_pyNext_tuple_end (I.ok.hd hc) st (show s.heap.IsTuple a its.toArray from p) (by simp; omega) fun h' eb => ⟨rfl, I.turned (t' := s.toks) (fun b o hb e => eb b o hb e) f0 f1 f3 f4 f5⟩
 self := fun _ _ _ _ _ st h => wpAny_pyIter_tupleiter st h
theorem turn_range {P : Program} {w : World} {K : PySem.W.Frag} {tg : Expr} (it : Addr) (lo : Int) (n : Nat) : Turn P w K tg (Itr lo n) [it] it (fun i h => IsRangeIter h it (lo + (i : Nat) * 1) ((n : Int) - (i : Nat)) 1) where
 mem := by simp
 obj := fun i h st b hb => by
  have e : b = it := by simpa using hb
  subst e
  exact ⟨_, st, fun v z => by
   have z' : Data.fields _ = Data.cell v := z
   cases z'⟩
 keep := fun i h h' st k => k it (by simp) _ st
 item := by
  intro X hP hw hK hc i pins s σ H E I hf st hg
  subst hP hw hK
  obtain ⟨f0, f1, f2, f3, f4, f5⟩ := hf it (by simp)
  have W := Walks.range (prog := X.prog) (w := X.w) (I.ok.hd hc) it lo 1 n
  refine W.item i s _ _ hg st fun v h' tk hv st' kk => ?_
  obtain ⟨t, rfl⟩ := hv
  have I1 : Inv X pins σ H { s with heap := h', toks := tk } := I.turned (fun b o hb e => kk b o (by simpa using hb) e) f0 f1 f3 f4 f5
  refine ⟨_, rfl, go_of (s := { s with heap := h', toks := tk }) (n := "range_iterator") st' rfl rfl (by decide) ⟨.int (lo + i), H, I1, ⟨t, ?_⟩, ⟨rfl, rfl⟩, st', fun b hb => (hf b hb).1⟩⟩
  rw [Int.mul_one]
 done := by
  intro X hP hw hK hc i pins s σ H E I hf st hg
  subst hP hw hK
  obtain ⟨f0, f1, f2, f3, f4, f5⟩ := hf it (by simp)
  exact wpAny_pyNext_range_end (I.ok.hd hc) st (by have : n ≤ i := hg; omega) fun h' eb => ⟨rfl, I.turned (t' := s.toks) (fun b o hb e => eb b o hb e) f0 f1 f3 f4 f5⟩
 self := fun _ _ _ _ _ st h => wpAny_pyIter_rangeiter st h
end L2
namespace L2
open PySem PySem.Spec PyProof.Rows
section
variable {X : Cx} {tg : Expr}
theorem range_it {pins : List (Addr × Obj)} {σ : St} {H : Hp} {s : Shared} {R : It → Hp → Prop} {E : Value → Shared → Prop} {lo hi : Int} {t u v : Tok} {tk : Nat} (I : Inv X pins σ H s) (h1 : -(2 ^ 62) ≤ lo) (h2 : lo < 2 ^ 62) (h3 : -(2 ^ 62) ≤ hi) (h4 : hi < 2 ^ 62)
  (q : R (Itr lo (hi - lo).toNat) H) : wpAny (model X.prog X.w) X.A (pyIter (.ref s.heap.objs.size)) (PIE X pins σ tg R) E { s with heap := s.heap.push { cls := .type "range", data := .fields #[.int lo t, .int hi u, .int 1 v] }, toks := tk } := by
 refine wpAny_pyIter_range (IsRange.new ..) (small_one h1 h2 h3 h4) ?_
 have I1 : Inv X pins σ H { s with heap := s.heap.push { cls := .type "range", data := .fields #[.int lo t, .int hi u, .int 1 v] }, toks := tk } := I.kept fun b o e => Heap.get?_push_of_some _ e
 refine ⟨(s.heap.push { cls := .type "range", data := .fields #[.int lo t, .int hi u, .int 1 v] }).objs.size, [(s.heap.push { cls := .type "range", data := .fields #[.int lo t, .int hi u, .int 1 v] }).objs.size], _, _, H, rfl,
  I1.kept (t' := tk) fun b o e => Heap.get?_push_of_some _ e, turn_range _ lo (hi - lo).toNat, ?_, fun b hb => ?_, q⟩
 ·have e1 : lo + ((0 : Nat) : Int) * 1 = lo := by simp
  have e2 : (((hi - lo).toNat : Nat) : Int) - ((0 : Nat) : Int) = Builtin.Range.rangeSize lo hi 1 := by rw [rangeSize_one]; split <;> omega
  show IsRangeIter _ _ (lo + ((0 : Nat) : Int) * 1) ((((hi - lo).toNat : Nat) : Int) - ((0 : Nat) : Int)) 1
  rw [e1, e2]
  exact Heap.get?_push_size _ rfl
 ·have e : b = (s.heap.push { cls := .type "range", data := .fields #[.int lo t, .int hi u, .int 1 v] }).objs.size := by simpa using hb
  subst e
  exact I1.fpOk (Nat.le_refl _) (I1.hok.fresh (Nat.le_refl _))
def iRng1 (ta : TA) : TI := fun σ H R => ta σ H fun vs H1 => ∃ j : Int, vs = [.int j] ∧ -(2 ^ 62) ≤ j ∧ j < 2 ^ 62 ∧ R (Itr 0 j.toNat) H1
theorem pi_range1 {a : Expr} {ta : TA} {p pos : Pos} (hg : Gl X "range") (hm : X.mg "range" = none) (ha : PA X [a] ta) (hs : starEach [a] X.env = [(false, eval a X.env)] := by rfl) : PI X tg (.Call (.Name "range" p) [a] [] pos) (iRng1 ta) := by
 intro pins s σ H R I h
 refine Call_ (ld_blt I hg hm boot_range (PyProof.Rows.callWith_type1 (thn (ha pos pins s σ H _ I h) fun us s1 ⟨vs, H1, I1, r1, q1⟩ => ?_) hs rfl))
 obtain ⟨j, e, q1, q2, q⟩ := q1
 subst e
 cases r1 with
 | cons r rr =>
  cases rr
  obtain ⟨t, rfl⟩ := r
  exact call_range_1 (range_it I1 (by omega) (by omega) q1 q2 (by simpa using q))
def tFor (wi : TI) (g : TG) (tb : TS) : TS := fun D σ H => wi σ H fun J H1 => ∃ W : Nat → Nat → St → Hp → Prop, (∃ m, W 0 m σ H1) ∧ ∀ i m σ H, W i m σ H →
 (J.stop i H ∧ D.nx σ H) ∨ (J.go i H ∧ ∃ N : St → Hp → Prop, (∀ σ' H', N σ' H' → ∃ m', m' < m ∧ W (i + 1) m' σ' H') ∧ ∀ x H', J.yld i H x H' → g x σ H' fun σ2 H2 => tb { D with nx := N, ct := N, bk := D.nx } σ2 H2)
def pinsAt (fp : List Addr) (h : Heap) : List (Addr × Obj) := fp.filterMap fun b => (h.get? b).map fun o => (b, o)
theorem mem_pinsAt {fp : List Addr} {h : Heap} {b : Addr} {o : Obj} (hb : b ∈ fp) (e : h.get? b = some o) : (b, o) ∈ pinsAt fp h := List.mem_filterMap.mpr ⟨b, hb, by rw [e]; rfl⟩
theorem of_pinsAt {fp : List Addr} {h : Heap} {p : Addr × Obj} (hp : p ∈ pinsAt fp h) : p.1 ∈ fp ∧ h.get? p.1 = some p.2 := by
 obtain ⟨b, hb, e⟩ := List.mem_filterMap.mp hp
 cases q : h.get? b with
 | none => rw [q] at e; cases e
 | some o =>
  rw [q] at e
  have e' : (b, o) = p := Option.some.inj e
  subst e'
  exact ⟨hb, q⟩
theorem Inv.pinned {pins : List (Addr × Obj)} {σ : St} {H : Hp} {s : Shared} {fp : List Addr} (I : Inv X pins σ H s) (hf : ∀ b ∈ fp, FpOk X pins H b) (ho : ∀ b ∈ fp, ∃ o, s.heap.get? b = some o ∧ ∀ v, o.data ≠ .cell v) : Inv X (pins ++ pinsAt fp s.heap) σ H s :=
 I.pins_of fun p hp => (List.mem_append.mp hp).elim (fun z => I.pin p (List.mem_append_right _ z)) fun z => by
  obtain ⟨hb, e⟩ := of_pinsAt z
  obtain ⟨f0, f1, f2, _⟩ := hf p.1 hb
  obtain ⟨o, e', d⟩ := ho p.1 hb
  rw [e] at e'; cases e'
  exact ⟨e, f0, f1, f2, d⟩
theorem Inv.unpinned {pins pl : List (Addr × Obj)} {σ : St} {H : Hp} {s : Shared} (I : Inv X (pins ++ pl) σ H s) : Inv X pins σ H s := I.pins_of fun p hp => I.pin p (List.mem_append_right _ (List.mem_append_left _ hp))
theorem ps_for {iter : Expr} {body : List Stmt} {wi : TI} {g : TG} {tb : TS} {pos : Pos} (hp : PassesOwn (model X.prog X.w) X.A X.env X.xe) (hc : X.calm = true) (hi : PI X tg iter wi) (hg : PG X tg g) (hb : PSs X body tb)
  (hs : ∀ x, foldedSetIterable iter X.env x = pure x := by intro _; rfl) : PS X (.For tg iter body [] pos) (tFor wi g tb) := by
 intro pins s σ H D I h
 refine wpAny_For (thn (hi pins s σ H _ I h) fun v s1 h1 => thn h1 fun itv s2 h2 => ?_) hs
 obtain ⟨it, fp, tn, J, H2, e, I2, T, st2, f2, W, ⟨m0, w0⟩, turn⟩ := h2
 subst e
 have stat : ∀ {H' : Hp}, (∀ b ∈ fp, H' b = none) → ∀ b ∈ fp, FpOk X pins H' b := fun hn b hb => ⟨hn b hb, (f2 b hb).2⟩
 refine codeAny_forLoop_any (fun n s' => ∃ i σ' H', Inv X pins σ' H' s' ∧ tn i s'.heap ∧ (∀ b ∈ fp, H' b = none) ∧ W i n σ' H') ?_ m0 ⟨0, σ, H2, I2, st2, fun b hb => (f2 b hb).1, w0⟩
 rintro n s3 ⟨i, σ3, H3, I3, st3, fr3, w3⟩
 rcases turn i n σ3 H3 w3 with ⟨stop, qn⟩ | ⟨go, N, hN, step⟩
 ·refine wpAny_passesOwn hp (thn (T.done X rfl rfl rfl hc i pins s3 σ3 H3 X.xe I3 (stat fr3) st3 stop) fun r s4 ⟨hr, I4⟩ => ?_)
  subst hr
  exact wpAny_execs_nil ⟨σ3, H3, I4, qn⟩
 ·refine wpAny_passesOwn hp (thn (T.item X rfl rfl rfl hc i pins s3 σ3 H3 X.xe I3 (stat fr3) st3 go) fun r s4 ⟨u, hr, h4⟩ => ?_)
  subst hr
  refine wpAny_passesOwn hp (thn h4 fun _ s5 ⟨x, H5, I5, r5, y5, st5, fr5⟩ => ?_)
  have I5' := I5.pinned (stat fr5) (T.obj _ _ st5)
  refine wpAny_passesOwn hp (thn (hg _ s5 σ3 H5 x u _ I5' r5 (step x H5 y5)) fun _ s6 ⟨σ6, H6, I6, q6⟩ => ?_)
  refine wpAny_passesOwn hp (thn (hb _ s6 σ6 H6 _ I6 q6) fun f s7 q7 => ?_)
  have again : ∀ {σ7 : St} {H7 : Hp}, Inv X (pins ++ pinsAt fp s5.heap) σ7 H7 s7 → N σ7 H7 → ∃ m, m < n ∧ ∃ i σ' H', Inv X pins σ' H' s7 ∧ tn i s7.heap ∧ (∀ b ∈ fp, H' b = none) ∧ W i m σ' H' := fun {σ7 H7} I7 n7 => by
   obtain ⟨m', hm, w7⟩ := hN σ7 H7 n7
   refine ⟨m', hm, i + 1, σ7, H7, I7.unpinned, T.keep _ _ _ st5 fun b hb o e => (I7.pin (b, o) (List.mem_append_right _ (List.mem_append_right _ (mem_pinsAt hb e)))).1, fun b hb => ?_, w7⟩
   obtain ⟨o, e, d⟩ := T.obj _ _ st5 b hb
   exact (I7.pin (b, o) (List.mem_append_right _ (List.mem_append_right _ (mem_pinsAt hb e)))).2.1
  cases f with
  | next => obtain ⟨σ7, H7, I7, n7⟩ := q7; exact again I7 n7
  | cont => obtain ⟨σ7, H7, I7, n7⟩ := q7; exact again I7 n7
  | brk => obtain ⟨σ7, H7, I7, q7⟩ := q7; exact ⟨σ7, H7, I7.unpinned, q7⟩
  | ret v => obtain ⟨x7, σ7, H7, I7, r7, q7⟩ := q7; exact ⟨x7, σ7, H7, I7.unpinned, r7, q7⟩
end
end L2
namespace L2
open PySem PySem.Spec PyProof.Rows
abbrev R2 := V → V → Hp → VK → Prop
def OpR (X : Cx) (f : Value → Value → Sem Value) (r : R2) : Prop :=
 ∀ (pins : List (Addr × Obj)) (s : Shared) (σ : St) (H : Hp) (x y : V) (v u : Value) (Q : VK), Inv X pins σ H s → RelV x v → RelV y u → r x y H Q →
  wpAny (model X.prog X.w) X.A (f v u) (EP X pins σ Q) X.xe s
def UnR (X : Cx) (f : Value → Sem Value) (r : V → Hp → VK → Prop) : Prop :=
 ∀ (pins : List (Addr × Obj)) (s : Shared) (σ : St) (H : Hp) (x : V) (v : Value) (Q : VK), Inv X pins σ H s → RelV x v → r x H Q →
  wpAny (model X.prog X.w) X.A (f v) (EP X pins σ Q) X.xe s
def CallR (X : Cx) (f : Value) (r : List V → Hp → VK → Prop) : Prop :=
 ∀ (pins : List (Addr × Obj)) (s : Shared) (σ : St) (H : Hp) (xs : List V) (us : List Value) (Q : VK), Inv X pins σ H s → Vals xs us → r xs H Q →
  wpAny (model X.prog X.w) X.A (call f us) (EP X pins σ Q) X.xe s
def tOp (r : R2) (ta tb : TE) : TE := fun σ H Q => ta σ H fun x H1 => tb σ H1 fun y H2 => r x y H2 Q
def tUn (r : V → Hp → VK → Prop) (ta : TE) : TE := fun σ H Q => ta σ H fun x H1 => r x H1 Q
def rI (C : Int → Int → Prop) (g : Int → Int → V) : R2 := fun x y H Q => ∃ i j, x = .int i ∧ y = .int j ∧ C i j ∧ Q (g i j) H
def rI0 (g : Int → Int → V) : R2 := fun x y H Q => ∃ i j, x = .int i ∧ y = .int j ∧ Q (g i j) H
def rU (g : Int → V) : V → Hp → VK → Prop := fun x H Q => ∃ i, x = .int i ∧ Q (g i) H
section
variable {X : Cx} {a b c : Expr} {ta tb tc : TE} {pos : Pos}
theorem binT (ha : PE X a ta) (hb : PE X b tb) {pins : List (Addr × Obj)} {s : Shared} {σ : St} {H : Hp} {R : V → V → Hp → Prop} (I : Inv X pins σ H s)
  (h : ta σ H fun x H1 => tb σ H1 fun y H2 => R x y H2) {Q : Value → Shared → Prop} {f : Value → Value → Sem Value}
  (hf : ∀ v u s2 x y H2, Inv X pins σ H2 s2 → RelV x v → RelV y u → R x y H2 → wpAny (model X.prog X.w) X.A (f v u) Q X.xe s2) :
  wpAny (model X.prog X.w) X.A (eval a X.env) (fun v s₁ => wpAny (model X.prog X.w) X.A (eval b X.env) (fun u s₂ => wpAny (model X.prog X.w) X.A (f v u) Q X.xe s₂) X.xe s₁) X.xe s := by
 refine thn (ha pins s σ H _ I h) fun v s1 ⟨x, H1, I1, r1, q1⟩ => ?_
 refine thn (hb pins s1 σ H1 _ I1 q1) fun u s2 ⟨y, H2, I2, r2, q2⟩ => ?_
 exact hf v u s2 x y H2 I2 r1 r2 q2
theorem pe_op {op : Operator} {r : R2} (ho : OpR X (binaryOp op) r) (ha : PE X a ta) (hb : PE X b tb) : PE X (.BinOp a op b pos) (tOp r ta tb) := by
 intro pins s σ H Q I h
 exact wpAny_BinOp (binT ha hb I h fun v u s2 x y H2 I2 rx ry q => ho pins s2 σ H2 x y v u Q I2 rx ry q)
theorem pe_un {op : UnaryOp} {r : V → Hp → VK → Prop} (ho : UnR X (unaryOp op) r) (ha : PE X a ta) : PE X (.UnaryOp op a pos) (tUn r ta) := by
 intro pins s σ H Q I h
 exact UnaryOp_ (thn (ha pins s σ H _ I h) fun v s1 ⟨x, H1, I1, r1, q1⟩ => ho pins s1 σ H1 x v Q I1 r1 q1)
theorem opI {f : Value → Value → Sem Value} {C : Int → Int → Prop} {g : Int → Int → Int}
  (rule : ∀ (i j : Int) (t u : Tok) (s : Shared) (Q : Value → Shared → Prop) (E : Value → Shared → Prop), C i j → Q (.int (g i j) s.toks) { s with toks := s.toks + 1 } → wpAny (model X.prog X.w) X.A (f (.int i t) (.int j u)) Q E s) :
  OpR X f (rI C fun i j => .int (g i j)) := by
 intro pins s σ H x y v u Q I rx ry h
 obtain ⟨i, j, rfl, rfl, hc, q⟩ := h
 obtain ⟨t, rfl⟩ := rx
 obtain ⟨t', rfl⟩ := ry
 exact rule i j t t' s _ _ hc ⟨.int (g i j), H, I.tok _, ⟨_, rfl⟩, q⟩
theorem opI0 {f : Value → Value → Sem Value} {g : Int → Int → Int}
  (rule : ∀ (i j : Int) (t u : Tok) (s : Shared) (Q : Value → Shared → Prop) (E : Value → Shared → Prop), Q (.int (g i j) s.toks) { s with toks := s.toks + 1 } → wpAny (model X.prog X.w) X.A (f (.int i t) (.int j u)) Q E s) :
  OpR X f (rI0 fun i j => .int (g i j)) := by
 intro pins s σ H x y v u Q I rx ry h
 obtain ⟨i, j, rfl, rfl, q⟩ := h
 obtain ⟨t, rfl⟩ := rx
 obtain ⟨t', rfl⟩ := ry
 exact rule i j t t' s _ _ ⟨.int (g i j), H, I.tok _, ⟨_, rfl⟩, q⟩
theorem opB0 {f : Value → Value → Sem Value} {g : Int → Int → Bool}
  (rule : ∀ (i j : Int) (t u : Tok) (s : Shared) (Q : Value → Shared → Prop) (E : Value → Shared → Prop), Q (.bool (g i j)) s → wpAny (model X.prog X.w) X.A (f (.int i t) (.int j u)) Q E s) :
  OpR X f (rI0 fun i j => .bl (g i j)) := by
 intro pins s σ H x y v u Q I rx ry h
 obtain ⟨i, j, rfl, rfl, q⟩ := h
 obtain ⟨t, rfl⟩ := rx
 obtain ⟨t', rfl⟩ := ry
 exact rule i j t t' s _ _ ⟨.bl (g i j), H, I, rfl, q⟩
def CDiv (i j : Int) : Prop := 0 < j ∧ j < 1073741824
def CMul (i j : Int) : Prop := (-(2 ^ 64) < i ∧ i < 2 ^ 64) ∨ (-(2 ^ 64) < j ∧ j < 2 ^ 64)
theorem CMul.ok {i j : Int} (h : CMul i j) : IntMulOk i j := by
 rcases h with ⟨h1, h2⟩ | ⟨h1, h2⟩
 ·exact .of_left (intBits_le_64 h1 h2)
 ·exact .of_right (intBits_le_64 h1 h2)
theorem op_add : OpR X (binaryOp .Add) (rI0 fun i j => .int (i + j)) := opI0 fun _ _ _ _ _ _ _ q => add_int q
theorem op_sub : OpR X (binaryOp .Sub) (rI0 fun i j => .int (i - j)) := opI0 fun _ _ _ _ _ _ _ q => sub_int q
theorem op_mul : OpR X (binaryOp .Mult) (rI CMul fun i j => .int (i * j)) := opI fun _ _ _ _ _ _ _ hc q => mul_int q hc.ok
theorem op_fdiv : OpR X (binaryOp .FloorDiv) (rI CDiv fun i j => .int (i / j)) := opI fun i j _ _ _ _ _ hc q => by
 have h1 : (0 : Int) < j := hc.1
 have h2 : j < 1073741824 := hc.2
 exact floordiv_int (by omega) (by rw [Int.fdiv_eq_ediv_of_nonneg i (by omega)]; exact q) (.inl (PyProof.noPylong_small (by omega)))
theorem op_mod : OpR X (binaryOp .Mod) (rI (fun _ j => 0 < j) fun i j => .int (i % j)) := opI fun i j _ _ _ _ _ hc q => by
 have h1 : (0 : Int) < j := hc
 exact mod_int' (by omega) (by rw [Int.fmod_eq_emod_of_nonneg i (by omega)]; exact q)
theorem unI {f : Value → Sem Value} {g : Int → Int}
  (rule : ∀ (i : Int) (t : Tok) (s : Shared) (Q : Value → Shared → Prop) (E : Value → Shared → Prop), Q (.int (g i) s.toks) { s with toks := s.toks + 1 } → wpAny (model X.prog X.w) X.A (f (.int i t)) Q E s) :
  UnR X f (rU fun i => .int (g i)) := by
 intro pins s σ H x v Q I rx h
 obtain ⟨i, rfl, q⟩ := h
 obtain ⟨t, rfl⟩ := rx
 exact rule i t s _ _ ⟨.int (g i), H, I.tok _, ⟨_, rfl⟩, q⟩
theorem un_neg : UnR X (unaryOp .USub) (rU fun i => .int (-i)) := unI fun _ _ _ _ _ q => neg_int q
end
section
variable {X : Cx} {a b c : Expr} {ta tb tc : TE} {pos : Pos}
theorem fin_bl {pins : List (Addr × Obj)} {σ : St} {H : Hp} {s : Shared} {Q : VK} {k k' : Bool} (I : Inv X pins σ H s) (q : Q (.bl k) H) (e : k = k') : EP X pins σ Q (.bool k') s := by
 subst e
 exact ⟨.bl k, H, I, rfl, q⟩
theorem op_lt : OpR X (compareOp .Lt) (rI0 fun i j => .bl (decide (i < j))) := opB0 fun _ _ _ _ _ _ _ q => lt_int q
theorem op_le : OpR X (compareOp .LtE) (rI0 fun i j => .bl (decide (i ≤ j))) := opB0 fun _ _ _ _ _ _ _ q => le_int q
theorem op_gt : OpR X (compareOp .Gt) (rI0 fun i j => .bl (decide (j < i))) := opB0 fun _ _ _ _ _ _ _ q => gt_int q
theorem op_lt_str : OpR X (compareOp .Lt) (fun x y H Q => ∃ i j, x = .str i ∧ y = .str j ∧ Q (.bl (decide (i.cps.toList < j.cps.toList))) H) := by
 intro pins s σ H x y v u Q I rx ry h
 obtain ⟨i, j, rfl, rfl, q⟩ := h
 obtain ⟨t, rfl⟩ := rx
 obtain ⟨t', rfl⟩ := ry
 exact lt_str (fin_bl I q rfl)
theorem op_in_str : OpR X (compareOp .In) (fun x y H Q => ∃ i j, x = .str i ∧ y = .str j ∧ Q (.bl (!(Builtin.Str.occurrences j i 0 j.length 1).isEmpty)) H) := by
 intro pins s σ H x y v u Q I rx ry h
 obtain ⟨i, j, rfl, rfl, q⟩ := h
 obtain ⟨t, rfl⟩ := rx
 obtain ⟨t', rfl⟩ := ry
 exact in_str (fin_bl I q rfl)
theorem pe_cmpR {op : CmpOp} {r : R2} (ho : OpR X (compareOp op) r) (ha : PE X a ta) (hb : PE X b tb) (hm : behindInMarks op b = false) : PE X (.Compare a [op] [b] pos) (tOp r ta tb) := by
 intro pins s σ H Q I h
 exact wpAny_Compare1 (binT ha hb I h fun v u s2 x y H2 I2 rx ry q => ho pins s2 σ H2 x y v u Q I2 rx ry q) hm
def tTest (t : TE) : TT := fun σ H Q => t σ H fun x H' => ∃ k, x = .bl k ∧ Q k H'
theorem pt_cmpR {op : CmpOp} {r : R2} (ho : OpR X (compareOp op) r) (ha : PE X a ta) (hb : PE X b tb) (hm : behindInMarks op b = false) : PT X (.Compare a [op] [b] pos) (tTest (tOp r ta tb)) := by
 intro pins s σ H Q I h
 refine wpAny_isTrue_Compare1 (thn (ha pins s σ H _ I h) fun v s1 ⟨x, H1, I1, r1, q1⟩ => thn (hb pins s1 σ H1 _ I1 q1) fun u s2 ⟨y, H2, I2, r2, q2⟩ =>
  thn (ho pins s2 σ H2 x y v u _ I2 r1 r2 q2) fun c s3 ⟨z, H3, I3, r3, k, e, q3⟩ => ?_) hm
 subst e
 cases r3
 exact wpAny_truthy_bool ⟨H3, I3, q3⟩
def tChain (r r' : R2) (ta tb tc : TE) : TE := fun σ H Q => ta σ H fun x H1 => tb σ H1 fun y H2 => r x y H2 fun z H3 => ∃ k, z = .bl k ∧
 (if k = true then tc σ H3 fun w' H4 => r' y w' H4 Q else Q (.bl false) H3)
theorem pe_chain {op op' : CmpOp} {r r' : R2} (ho : OpR X (compareOp op) r) (ho' : OpR X (compareOp op') r') (ha : PE X a ta) (hb : PE X b tb) (hc : PE X c tc)
  (hm : lastMarks [op, op'] [b, c] = false := by with_unfolding_all rfl) : PE X (.Compare a [op, op'] [b, c] pos) (tChain r r' ta tb tc) := by
 intro pins s σ H Q I h
 refine Compare_chain (thn (ha pins s σ H _ I h) fun v s1 ⟨x, H1, I1, r1, q1⟩ => chain_link (thn (hb pins s1 σ H1 _ I1 q1) fun u s2 ⟨y, H2, I2, r2, q2⟩ =>
  thn (ho pins s2 σ H2 x y v u _ I2 r1 r2 q2) fun d s3 ⟨z, H3, I3, r3, k, e, q3⟩ => ?_)) hm
 subst e
 cases r3
 refine wpAny_truthy_bool ?_
 cases k with
 | false => exact ite_ff ⟨.bl false, H3, I3, rfl, q3⟩
 | true => exact ite_tt (chain_last (thn (hc pins s3 σ H3 _ I3 q3) fun w' s4 ⟨z', H4, I4, r4, q4⟩ => ho' pins s4 σ H4 y z' u w' Q I4 r2 r4 q4))
theorem pt_chain {op op' : CmpOp} {r r' : R2} (ho : OpR X (compareOp op) r) (ho' : OpR X (compareOp op') r') (ha : PE X a ta) (hb : PE X b tb) (hc : PE X c tc)
  (hm : lastMarks [op, op'] [b, c] = false := by with_unfolding_all rfl) : PT X (.Compare a [op, op'] [b, c] pos) (tTest (tChain r r' ta tb tc)) := by
 intro pins s σ H Q I h
 refine isTrue_chain (thn (ha pins s σ H _ I h) fun v s1 ⟨x, H1, I1, r1, q1⟩ => test_link (thn (hb pins s1 σ H1 _ I1 q1) fun u s2 ⟨y, H2, I2, r2, q2⟩ =>
  thn (ho pins s2 σ H2 x y v u _ I2 r1 r2 q2) fun d s3 ⟨z, H3, I3, r3, k, e, q3⟩ => ?_)) hm
 subst e
 cases r3
 refine wpAny_truthy_bool ?_
 cases k with
 | false =>
  obtain ⟨k', e', q'⟩ := q3
  cases e'
  exact ite_ff ⟨H3, I3, q'⟩
 | true =>
  refine ite_tt (test_last (thn (hc pins s3 σ H3 _ I3 q3) fun w' s4 ⟨z', H4, I4, r4, q4⟩ => thn (ho' pins s4 σ H4 y z' u w' _ I4 r2 r4 q4) fun d' s5 ⟨z2, H5, I5, r5, k2, e2, q5⟩ => ?_))
  subst e2
  cases r5
  exact wpAny_truthy_bool ⟨H5, I5, q5⟩
theorem line63 : (sizeLine : Nat) < 2 ^ 63 := by rw [sizeLine_eq]; decide
theorem op_add_str : OpR X (binaryOp .Add) (fun x y H Q => ∃ i j, x = .str i ∧ y = .str j ∧ i.length + j.length ≤ sizeLine ∧ Q (.str (i ++ j)) H) := by
 intro pins s σ H x y v u Q I rx ry h
 obtain ⟨i, j, rfl, rfl, hz, q⟩ := h
 obtain ⟨t, rfl⟩ := rx
 obtain ⟨t', rfl⟩ := ry
 exact add_str (fun t' tk => ⟨.str (i ++ j), H, I.tok _, ⟨_, rfl⟩, q⟩) hz
theorem vals1 {x : V} {us : List Value} (r : Vals [x] us) : ∃ u, us = [u] ∧ RelV x u := by
 cases r with
 | cons r1 r2 => cases r2; exact ⟨_, rfl, r1⟩
end
end L2
namespace L2
open PySem PySem.Spec PyProof.Rows
section
variable {prog : Program} {w : World} {A : Around} {E : Value → Shared → Prop} {s : Shared} {K : PySem.W.Frag} {x dx C f : Addr} {mA : Str → Option Value} {name : Str} {v : Value}
end
theorem RelO.some_of {v : V} {o : Option Value} (r : RelO (some v) o) : ∃ u, o = some u ∧ RelV v u := by
 cases o with
 | none => exact (show False from r).elim
 | some u => exact ⟨u, rfl, r⟩
section
variable {P : Program} {w : World} {H H' : Hp} {h h' : Heap} {a C dx : Addr} {fs fs' : List (Str × V)}
end
section
variable {X : Cx} {pins : List (Addr × Obj)} {σ : St} {H : Hp} {s : Shared} {a C dx : Addr} {fs : List (Str × V)} {f : Str} {v : V} {A : Around} {E : Value → Shared → Prop}
end
section
variable {X : Cx} {o e value : Expr} {f : Str} {pos pos' tpos : Pos} {ta tv : TE}
end
section
variable {X : Cx} {pins : List (Addr × Obj)} {σ : St} {H : Hp} {s : Shared} {A : Around} {E : Value → Shared → Prop} {Q : Value → Shared → Prop} {c : Value} {b : Bool}
end
end L2
namespace L2
open PySem PySem.Spec PyProof.Rows
structure Room (k : Nat) (A : Around) : Prop where
 hd : A.handled = none
 dp : A.depth + 3 * k + 5 < recursionLimit
 un : A.units + 16 * k + 200 < cLine
theorem Room.mono {j k : Nat} {A : Around} (r : Room k A) (h : j ≤ k) : Room j A := ⟨r.hd, by have := r.dp; omega, by have := r.un; omega⟩
theorem Room.deeper {k : Nat} {A : Around} (r : Room (k + 1) A) (env : Env) : Room k (A.deeper env) :=
 ⟨r.hd, by have := r.dp; show A.depth + 1 + 3 * k + 5 < _; omega, by have := r.un; show A.units + 3 + 16 * k + 200 < _; omega⟩
theorem Room.depth {k : Nat} {A : Around} (r : Room k A) : A.depth < recursionLimit := by have := r.dp; omega
def tNil : TA := fun _ H Q => Q [] H
def tCons (ta : TE) (tr : TA) : TA := fun σ H Q => ta σ H fun x H1 => tr σ H1 fun xs H2 => Q (x :: xs) H2
section
variable {X : Cx} {e : Expr} {es : List Expr} {te : TE} {t : TA} {pos : Pos}
theorem pa_nil : PA X [] tNil := fun _ _ _ _ H Q I h => Calls.spliced_nil ⟨[], H, I, .nil, h⟩
theorem pa_cons (ha : PE X e te) (hr : PA X es t) (hs : starEach (e :: es) X.env = (false, eval e X.env) :: starEach es X.env := by rfl) : PA X (e :: es) (tCons te t) := by
 intro pos pins s σ H Q I h
 rw [hs]
 show wpAny _ _ (spliced ((false, eval e X.env) :: backTo pos (starEach es X.env))) _ _ s
 refine Calls.spliced_cons (thn (ha pins s σ H _ I h) fun u s1 ⟨x, H1, I1, r1, q1⟩ => ?_)
 exact thn (hr pos pins s1 σ H1 _ I1 q1) fun us s2 ⟨xs, H2, I2, r2, q2⟩ => ⟨x :: xs, H2, I2, .cons r1 r2, q2⟩
def tTup (t : TA) : TE := fun σ H Q => t σ H fun xs H1 => xs.length ≤ sizeLine ∧ ∀ p, H1 p = none → Q (.ref p) (upd H1 p (.tup xs))
def tLst (t : TA) : TE := fun σ H Q => t σ H fun xs H1 => xs.length ≤ sizeLine ∧ ∀ p, H1 p = none → Q (.ref p) (upd H1 p (.lst xs))
theorem pe_tup {x1} (h : PA X es t) : PE X (.Tuple es x1 pos) (tTup t) := by
 intro pins s σ H Q I hq
 refine wpAny_Tuple_spliced (thn (h pos pins s σ H _ I hq) fun us s1 ⟨xs, H1, I1, r, z, q⟩ => ⟨by rw [← r.length]; exact z, ?_⟩)
 have hf : H1 s1.heap.objs.size = none := I1.hok.fresh (Nat.le_refl _)
 refine ⟨.ref s1.heap.objs.size, upd H1 s1.heap.objs.size (.tup xs), I1.laid (t' := s1.toks) (fun b u e => Heap.get?_push_of_some _ e) (Nat.le_refl _) ?_, rfl, q _ hf⟩
 exact ⟨z, us, r, ⟨_, Heap.get?_push_size _ rfl, rfl, _, rfl⟩⟩
theorem pe_lst (h : PA X es t) : PE X (.List es pos) (tLst t) := by
 intro pins s σ H Q I hq
 refine wpAny_List_spliced (thn (h pos pins s σ H _ I hq) fun us s1 ⟨xs, H1, I1, r, z, q⟩ => ⟨by rw [← r.length]; exact z, ?_⟩)
 have hf : H1 s1.heap.objs.size = none := I1.hok.fresh (Nat.le_refl _)
 refine ⟨.ref s1.heap.objs.size, upd H1 s1.heap.objs.size (.lst xs), I1.laid (t' := s1.toks) (fun b u e => Heap.get?_push_of_some _ e) (Nat.le_refl _) ?_, rfl, q _ hf⟩
 exact ⟨z, us, 0, r, Heap.get?_push_size _ rfl⟩
end
abbrev Sp := List V → Hp → VK → XK → Prop
abbrev CXT := List Env → Hp → Shared → XK → Value → Shared → Prop
structure Env0 (P : Program) (w : World) (K : PySem.W.Frag) (mg : Str → Option Value) (base : Heap) (A : Around) (outer : List Env) (s : Shared) (H : Hp) : Prop where
 frames : A.frames = some outer
 mod : Mod K mg base
 bs : ∀ b o, base.get? b = some o → s.heap.get? b = some o ∧ H b = none
 bsz : base.objs.size ≤ s.heap.objs.size
 funs : s.heap.FunFrames base outer
 frf : ∀ b ∈ frs outer, H b = none
 hok : HOk P w H s.heap
 bare : AllBare s.gens
def CE (outer : List Env) (P : Program) (w : World) (H : Hp) (s : Shared) (Q : VK) (u : Value) (s' : Shared) : Prop :=
 ∃ v H', s'.os = s.os ∧ AllBare s'.gens ∧ Un (frs outer) [] H H' s.heap s'.heap ∧ HOk P w H' s'.heap ∧ RelV v u ∧ Q v H'
def CR (CX : CXT) (outer : List Env) (P : Program) (w : World) (H : Hp) (s : Shared) (Q : VK) (E : XK) (r : Result) (s' : Shared) : Prop :=
 match r with
 | .ok (.ret u) => CE outer P w H s Q u s'
 | .ok _ => False
 | .error e => CX outer H s E e s'
structure FnOk (P : Program) (w : World) (K : PySem.W.Frag) (mg : Str → Option Value) (base : Heap) (CX : CXT) (k : Nat) (f : Addr) (fd : FuncData) (ps : List Str) (sp : Sp) : Prop where
 len : ∀ vs H Q E, sp vs H Q E → vs.length = ps.length
 run : ∀ (A : Around) (outer : List Env) (s : Shared) (H : Hp) (args : Args) (us : List Value) (vs : List V) (Q : VK) (E : XK), Room k A → Env0 P w K mg base A outer s H → BindsTo s fd args (ps.zip us) → Vals vs us → sp vs H Q E →
  codeAny (model P w) A (.call (.ref f) args) (CR CX outer P w H s Q E) s
theorem FnOk.mono {P : Program} {w : World} {K : PySem.W.Frag} {mg : Str → Option Value} {base : Heap} {CX : CXT} {j k : Nat} {f : Addr} {fd : FuncData} {ps : List Str} {sp : Sp} (F : FnOk P w K mg base CX j f fd ps sp) (h : j ≤ k) :
  FnOk P w K mg base CX k f fd ps sp := ⟨F.len, fun A outer s H args us vs Q E hr => F.run A outer s H args us vs Q E (hr.mono h)⟩
section
variable {X : Cx} {pins : List (Addr × Obj)} {σ : St} {H : Hp} {s s' : Shared}
theorem Inv.env0 (I : Inv X pins σ H s) : Env0 X.prog X.w X.K X.mg X.base X.A X.stack s H :=
 ⟨I.ok.frames, I.ok.mod, I.bs, Nat.le_trans I.ok.bsz I.sz, I.stack, I.stkFree, I.hok, I.bare⟩
theorem Inv.after {Q : VK} {u : Value} (I : Inv X pins σ H s) (h : CE X.stack X.prog X.w H s Q u s') : EP X pins σ Q u s' := by
 obtain ⟨v, H', os, bare, un, hok, r, q⟩ := h
 obtain ⟨hh, g, d, t, os'⟩ := s'
 obtain rfl : os' = s.os := os
 exact ⟨v, H', I.call (h' := hh) (g' := g) (d' := d) (t' := t) (ch := []) un hok bare (fun b z => absurd z (by simp)), r, q⟩
end
def tCall (sp : Sp) (dvs : List V) (E : XK) (t : TA) : TE := fun σ H Q => t σ H fun vs H1 => sp (vs ++ dvs) H1 Q E
def Binds (K : PySem.W.Frag) (fd : FuncData) (ps : List Str) (ds : List Value) : Prop :=
 ∀ (s : Shared) (us : List Value), K.In s.heap → (us ++ ds).length = ps.length → BindsTo s fd ⟨us, []⟩ (ps.zip (us ++ ds))
theorem Binds.all {K : PySem.W.Frag} {fd : FuncData} {ps : List Str} (h : ∀ us : List Value, us.length = ps.length → bindArgs fd ⟨us, []⟩ = pure (ps.zip us)) : Binds K fd ps [] := fun s us _ hl => by
 rw [List.append_nil] at hl ⊢
 exact .of_eq (h us hl)
def Passes (CX : CXT) (X : Cx) (E : XK) : Prop := ∀ (pins : List (Addr × Obj)) (σ : St) (H : Hp) (s : Shared) (e : Value) (s' : Shared), Inv X pins σ H s → CX X.stack H s E e s' → X.xe e s'
section
variable {X : Cx} {CX : CXT} {k : Nat} {f C : Addr} {fd : FuncData} {ps : List Str} {sp : Sp} {dvs : List V} {ds : List Value} {E : XK} {x m : Str} {p pos apos : Pos} {e o : Expr} {es : List Expr} {ta : TE} {t : TA}
theorem run_fn {pins : List (Addr × Obj)} {σ : St} {H : Hp} {s : Shared} {Q : VK} {us : List Value} {vs : List V} (F : FnOk X.prog X.w X.K X.mg X.base CX k f fd ps sp) (hr : Room k X.A) (hb : Binds X.K fd ps ds) (hd : Vals dvs ds) (hx : Passes CX X E)
  (I : Inv X pins σ H s) (r : Vals vs us) (h : sp (vs ++ dvs) H Q E) : wpAny (model X.prog X.w) X.A (call (.ref f) us) (EP X pins σ Q) X.xe s := by
 have r2 : Vals (vs ++ dvs) (us ++ ds) := r.append hd
 have hl : (us ++ ds).length = ps.length := by rw [← r2.length]; exact F.len _ _ _ _ h
 refine wpAny_call (codeAny_mono (F.run X.A X.stack s H ⟨us, []⟩ (us ++ ds) (vs ++ dvs) Q E hr I.env0 (hb s us I.kIn hl) r2 h) fun r s' hq => ?_)
 cases r with
 | error e => exact hx pins σ H s e s' I hq
 | ok fl =>
  cases fl with
  | ret u => exact I.after hq
  | next => exact False.elim hq
  | brk => exact False.elim hq
  | cont => exact False.elim hq
theorem pe_call (F : FnOk X.prog X.w X.K X.mg X.base CX k f fd ps sp) (hr : Room k X.A) (hg : Gl X x) (hm : X.mg x = some (.ref f)) (hk : PySem.W.keepIn X.K (.ref f) = true) (hb : Binds X.K fd ps ds) (hd : Vals dvs ds) (hx : Passes CX X E)
  (ha : PA X (e :: es) t) (hdb : (x == ("__debug__" : Str)) = false := by decide) (he : starEach (e :: es) X.env = (false, eval e X.env) :: starEach es X.env := by rfl) (hpl : (backTo pos (starEach es X.env)).any (·.1) = false := by rfl) :
  PE X (.Call (.Name x p) (e :: es) [] pos) (tCall sp dvs E t) := by
 intro pins s σ H Q I h
 refine wpAny_Call_Name_kw (ld_glob I hg hm ?_ hdb)
 refine PySem.W.callWith_K (h₀ := X.base) I.ok.mod.kin hk (thn (ha pos pins s σ H _ I h) fun us s1 ⟨vs, H1, I1, r, q⟩ => ⟨I1.kIn, ?_⟩) he hpl
 exact run_fn F hr hb hd hx I1 r q
end
def PK (X : Cx) (kws : List Keyword) (t : TA) : Prop :=
 ∀ (pos : Pos) (pins : List (Addr × Obj)) (s : Shared) (σ : St) (H : Hp) (Q : List V → Hp → Prop), Inv X pins σ H s → t σ H Q → wpAny (model X.prog X.w) X.A (evalAll ((backToKw pos (keywordEach kws X.env)).map (·.2))) (AP X pins σ Q) X.xe s
section
variable {X : Cx} {CX : CXT} {k : Nat} {f C : Addr} {fd : FuncData} {ps ks : List Str} {sp : Sp} {E : XK} {x m : Str} {p pos apos kpos : Pos} {e o : Expr} {es : List Expr} {kws : List Keyword} {te ta : TE} {t tk : TA} {nm : Option Str}
theorem pk_nil : PK X [] tNil := fun _ _ _ _ H Q I h => wpAny_evalAll_nil ⟨[], H, I, .nil, h⟩
theorem pk_cons (ha : PE X e te) (hr : PK X kws t) : PK X (⟨nm, e, kpos⟩ :: kws) (tCons te t) := by
 intro pos pins s σ H Q I h
 show wpAny _ _ (evalAll ((do let v ← eval e X.env; standAt pos; pure v) :: (backToKw pos (keywordEach kws X.env)).map (·.2))) _ _ s
 refine wpAny_evalAll_cons (wpAny_bind (thn (ha pins s σ H _ I h) fun u s1 ⟨x, H1, I1, r1, q1⟩ => wpAny_bind (wpAny_standAt (wpAny_pure ?_))))
 exact thn (hr pos pins s1 σ H1 _ I1 q1) fun us s2 ⟨xs, H2, I2, r2, q2⟩ => ⟨x :: xs, H2, I2, .cons r1 r2, q2⟩
variable {g : List Value → List Value → List Value} {gV : List V → List V → List V}
end
structure FnScope (N P : List Str) (sc : Scope) : Prop where
 kind : sc.kind = .function
 co : sc.isCoroutine = false
 gen : sc.isGenerator = false
 nd : N.Nodup
 pre : N.take P.length = P
 par : ∀ x ∈ P, sc.names.lookup x = some .local ∨ sc.names.lookup x = some .cell
 nofree : ∀ y ∈ sc.names, y.2 ≠ .free
theorem bindL_out {kindOf : Str → Option NameKind} {x : Str} : ∀ {binds : List (Str × Value)} {m : Str → Option Value}, (∀ v, (x, v) ∉ binds) → bindL kindOf binds m x = m x
 | [], _, _ => rfl
 | (n, v) :: r, m, h => by
  unfold bindL
  rw [bindL_out fun w hw => h w (List.mem_cons_of_mem _ hw)]
  split
  ·have : x ≠ n := by rintro rfl; exact h v List.mem_cons_self
   simp [this]
  ·rfl
theorem bindC_out {kindOf : Str → Option NameKind} {x : Str} : ∀ {binds : List (Str × Value)} {m : Str → Option Value}, (∀ v, (x, v) ∉ binds) → bindC kindOf binds m x = m x
 | [], _, _ => rfl
 | (n, v) :: r, m, h => by
  unfold bindC
  rw [bindC_out fun w hw => h w (List.mem_cons_of_mem _ hw)]
  split
  ·rfl
  ·have : x ≠ n := by rintro rfl; exact h v List.mem_cons_self
   simp [this]
theorem bindL_get {kindOf : Str → Option NameKind} {x : Str} {v : Value} : ∀ {P : List Str} {vs : List Value} {i : Nat} {m : Str → Option Value}, P.Nodup → P[i]? = some x → vs[i]? = some v → kindOf x = some .local →
  bindL kindOf (P.zip vs) m x = some v
 | [], _, _, _, _, h, _, _ => by simp at h
 | _ :: _, [], _, _, _, _, h, _ => by simp at h
 | p :: P, w :: vs, 0, m, nd, h1, h2, hk => by
  simp at h1 h2; subst h1; subst h2
  show bindL kindOf ((p, w) :: P.zip vs) m p = _
  unfold bindL
  rw [bindL_out fun v hv => (List.nodup_cons.mp nd).1 (List.of_mem_zip hv).1, if_pos hk]
  simp
 | p :: P, w :: vs, i + 1, m, nd, h1, h2, hk => by
  show bindL kindOf ((p, w) :: P.zip vs) m x = _
  unfold bindL
  exact bindL_get (i := i) (List.nodup_cons.mp nd).2 (by simpa using h1) (by simpa using h2) hk
theorem bindC_get {kindOf : Str → Option NameKind} {x : Str} {v : Value} : ∀ {P : List Str} {vs : List Value} {i : Nat} {m : Str → Option Value}, P.Nodup → P[i]? = some x → vs[i]? = some v → kindOf x ≠ some .local →
  bindC kindOf (P.zip vs) m x = some v
 | [], _, _, _, _, h, _, _ => by simp at h
 | _ :: _, [], _, _, _, _, h, _ => by simp at h
 | p :: P, w :: vs, 0, m, nd, h1, h2, hk => by
  simp at h1 h2; subst h1; subst h2
  show bindC kindOf ((p, w) :: P.zip vs) m p = _
  unfold bindC
  rw [bindC_out fun v hv => (List.nodup_cons.mp nd).1 (List.of_mem_zip hv).1, if_neg hk]
  simp
 | p :: P, w :: vs, i + 1, m, nd, h1, h2, hk => by
  show bindC kindOf ((p, w) :: P.zip vs) m x = _
  unfold bindC
  exact bindC_get (i := i) (List.nodup_cons.mp nd).2 (by simpa using h1) (by simpa using h2) hk
def start (N : List Str) (vs : List V) : St := vs.map some ++ List.replicate (N.length - vs.length) none
def cxOf (CX : CXT) (P : Program) (w : World) (K : PySem.W.Frag) (mg : Str → Option Value) (base : Heap) (N : List Str) (qual : Str) (scope : Scope) (f : Addr) (cd : Value) (A : Around) (outer : List Env) (s : Shared) (H : Hp) (E : XK) : Cx where
 prog := P
 w := w
 K := K
 mg := mg
 base := base
 A := A.deeper (envOfC qual scope s.heap.objs.size f cd)
 N := N
 s₀ := s
 H₀ := H
 env := envOfC qual scope s.heap.objs.size f cd
 outer := outer
 stack := envOfC qual scope s.heap.objs.size f cd :: outer
 ex := []
 calm := true
 fn := fun _ => true
 pn := []
 xe := fun e s' => wpAny (model P w) (A.deeper (envOfC qual scope s.heap.objs.size f cd)) (leaving (envOfC qual scope s.heap.objs.size f cd) e) (fun _ s'' => CX outer H s E e s'') (fun e' s'' => CX outer H s E e' s'') s'
theorem cell_has {sc : Scope} {n : Nat} {x : Str} (h : sc.names.lookup x = some .cell) : ∃ c, (cellsFrom n sc.names []).lookup x = some c := by
 have q := PySem.W.cellsFrom_some sc.names n [] (.inl h)
 exact Option.isSome_iff_exists.mp q
theorem inv_start {CX : CXT} {P : Program} {w : World} {K : PySem.W.Frag} {mg : Str → Option Value} {base : Heap} {N ps : List Str} {qual : Str} {scope : Scope} {f : Addr} {cd : Value} {A : Around} {outer : List Env} {s s1 : Shared} {H : Hp} {E : XK} {us : List Value} {vs : List V}
  (S : FnScope N ps scope) (hd : A.handled = none) (e0 : Env0 P w K mg base A outer s H) (hl : vs.length = ps.length) (r : Vals vs us)
  (x : InCallC s s.heap.objs.size (bindL (envOfC qual scope s.heap.objs.size f cd).kindOf (ps.zip us) fun _ => none) (cellsFrom (s.heap.objs.size + 1) scope.names []) (bindC (envOfC qual scope s.heap.objs.size f cd).kindOf (ps.zip us) fun _ => none) s1) :
  Inv (cxOf CX P w K mg base N qual scope f cd A outer s H E) [] (start N vs) H s1 := by
 have hpl : ps.length ≤ N.length := by have := congrArg List.length S.pre; rw [List.length_take] at this; omega
 obtain ⟨h1, tk, rfl, hk⟩ := x.done
 have noA : ∀ b : Addr, b ∉ (cxOf CX P w K mg base N qual scope f cd A outer s H E).ex := fun b z => absurd (show b ∈ ([] : List Addr) from z) (by simp)
 refine ⟨⟨e0.mod, S.kind, rfl, rfl, Nat.le_refl _, fun y z c h1 h2 => ?_, fun y hy => ?_, fun y c _ h => ?_, fun _ => hd, Around.frames_deeper e0.frames, .inr ⟨rfl, rfl⟩, fun b z => absurd z (noA b), e0.bs, e0.bsz, fun b _ _ => noA b, fun b z => absurd z (noA b), e0.funs, e0.frf⟩,
  rfl, e0.bare, Un.kept hk, ⟨_, x.toInCall.ns, fun i y v h1 h2 h3 => ?_⟩, fun y c h => ⟨_, x.cell y c h⟩, e0.hok.fresh (Nat.le_refl _), fun y c h => ?_, fun p hp => absurd (show p ∈ ([] : List (Addr × Obj)) from hp) (by simp), e0.hok.kept hk, ?_⟩
 ·exact name_of_addr x.apart (PySem.mem_of_lookup h1) (PySem.mem_of_lookup h2)
 ·have hy : scope.names.lookup y = some .cell ∨ scope.names.lookup y = some .free := hy
  rcases hy with hy | hy
  ·exact cell_has hy
  ·exact absurd rfl (S.nofree _ (PySem.mem_of_lookup hy))
 ·exact Nat.le_of_lt (x.above y c (PySem.mem_of_lookup h))
 ·have hi : i < vs.length := by
   unfold start at h2
   by_cases hi : i < vs.length
   ·exact hi
   ·rw [List.getElem?_append_right (by simpa using hi)] at h2
    rw [List.getElem?_replicate] at h2
    split at h2 <;> cases h2
  have ha : vs[i]? = some v := by
   unfold start at h2
   rw [List.getElem?_append_left (by simpa using hi), List.getElem?_map] at h2
   cases e : vs[i]? with
   | none => rw [e] at h2; cases h2
   | some a => rw [e] at h2; cases h2; rfl
  obtain ⟨u, hu, rv⟩ := r.get ha
  have hp : ps[i]? = some y := by
   rw [← S.pre, List.getElem?_take_of_lt (by omega)]; exact h1
  have ndP : ps.Nodup := by rw [← S.pre]; exact S.nd.sublist (List.take_sublist _ _)
  refine ⟨u, rv, ?_⟩
  rcases S.par y (List.mem_of_getElem? hp) with k | k
  ·exact .inl ⟨k, bindL_get ndP hp hu k⟩
  ·obtain ⟨c, e⟩ := cell_has (n := s.heap.objs.size + 1) k
   refine .inr ⟨.inl k, c, e, ?_⟩
   have q := x.cell y c e
   rw [bindC_get ndP hp hu (by show scope.names.lookup y ≠ _; rw [k]; decide)] at q
   exact q
 ·exact e0.hok.fresh (Nat.le_of_lt (x.above y c (PySem.mem_of_lookup h)))
 ·unfold start
  show _ = N.length
  rw [List.length_append, List.length_map, List.length_replicate]
  omega
theorem fn_of {CX : CXT} {P : Program} {w : World} {K : PySem.W.Frag} {mg : Str → Option Value} {base : Heap} {k : Nat} {f : Addr} {name qual : Str} {params : Arguments} {body : List Stmt} {scope : Scope} {dV kV doc pm cdv ct oc : Value} {an od : Option Addr}
  {osl : Array (Option Value)} {N ps : List Str} {sp : Sp} (lk : K.lookup f = some ⟨oc, od, .func (PySem.W.fnOf name qual params body scope dV kV doc pm an cdv ct), osl⟩) (hcd : PySem.W.codeIn K cdv qual = true) (S : FnScope N ps scope)
  (len : ∀ vs H Q E, sp vs H Q E → vs.length = ps.length)
  (hbody : ∀ (A : Around) (outer : List Env) (s : Shared) (H : Hp) (vs : List V) (Q : VK) (E : XK), Room k (A.deeper (envOfC qual scope s.heap.objs.size f cdv)) → sp vs H Q E →
   ∃ t, PSs (cxOf CX P w K mg base N qual scope f cdv A outer s H E) body t ∧ t { nx := fun _ H' => Q .non H', rt := Q } (start N vs) H) :
  FnOk P w K mg base CX (k + 1) f (PySem.W.fnOf name qual params body scope dV kV doc pm an cdv ct) ps sp := by
 refine ⟨len, fun A outer s H args us vs Q E hr e0 hb r hsp => ?_⟩
 have hl := len _ _ _ _ hsp
 have KX : K.In s.heap := e0.mod.kin.keeps fun b o e => (e0.bs b o e).1
 have lim : s.heap.NoLimit := e0.mod.nolimit.keeps fun b o e => (e0.bs b o e).1
 have hkind : ∀ y ∈ ps.zip us, scope.names.lookup y.1 = some .local ∨ (scope.names.lookup y.1 = some .cell ∧ ((cellsFrom (s.heap.objs.size + 1) scope.names []).lookup y.1).isSome = true) := fun ⟨n, v⟩ hy => by
  rcases S.par n (List.of_mem_zip hy).1 with q | q
  ·exact .inl q
  ·exact .inr ⟨q, PySem.W.cellsFrom_some _ _ _ (.inl q)⟩
 refine codeAny_call_function hr.depth (KX _ _ lk) rfl S.co S.gen rfl (PySem.W.codeRec_of KX hcd) (hb _ _ _ _ ?_)
 refine wpAny_newFunctionEnv_cells S.kind hkind fun env he s1 x => ?_
 subst he
 refine ⟨lim.keeps x.toInCall.keep, codeAny_func ?_⟩
 obtain ⟨t, ht, hq⟩ := hbody A outer s H vs Q E (hr.deeper _) hsp
 have I : Inv (cxOf CX P w K mg base N qual scope f cdv A outer s H E) [] (start N vs) H s1 := inv_start S hr.hd e0 hl r x
 refine wpAny_mono (ht [] s1 (start N vs) H _ I hq) (fun fl s' hs => ?_) fun e s' hs => hs
 have fin : ∀ {σ' : St} {H' : Hp} {v : V} {u : Value}, Inv (cxOf CX P w K mg base N qual scope f cdv A outer s H E) [] σ' H' s' → RelV v u → Q v H' → CE outer P w H s Q u s' :=
  fun {σ' H' v u} J rv q => ⟨v, H', J.os, J.bare, J.base, J.hok, rv, q⟩
 cases fl with
 | ret u =>
  obtain ⟨v, σ', H', J, rv, q⟩ := hs
  exact fin J rv q
 | next =>
  obtain ⟨σ', H', J, q⟩ := hs
  exact fin (v := V.non) (u := Value.none) J rfl q
 | brk =>
  obtain ⟨_, _, _, q⟩ := hs
  exact False.elim q
 | cont =>
  obtain ⟨_, _, _, q⟩ := hs
  exact False.elim q
end L2
namespace L2
open PySem PySem.Spec PyProof.Rows
section
variable {X : Cx} {x : Str} {p pos : Pos} {e : Expr} {es : List Expr} {t : TA} {id T : String} {r : List V → Hp → VK → Prop}
def tCB (r : List V → Hp → VK → Prop) (t : TA) : TE := fun σ H Q => t σ H fun vs H1 => r vs H1 Q
theorem pe_callB (hc : CallR X (.builtin id) r) (hg : Gl X x) (hm : X.mg x = none) (hv : bootBuiltins x = some (.builtin id)) (ha : PA X (e :: es) t) (hn : x ≠ "__name__" := by decide) (hdb : (x == ("__debug__" : Str)) = false := by decide)
  (he : starEach (e :: es) X.env = (false, eval e X.env) :: starEach es X.env := by rfl) (hpl : (backTo pos (starEach es X.env)).any (·.1) = false := by rfl) : PE X (.Call (.Name x p) (e :: es) [] pos) (tCB r t) := by
 intro pins s σ H Q I h
 refine wpAny_Call_Name_kw (ld_blt I hg hm hv ?_ hn hdb)
 exact PyProof.Rows.callWith_builtin1 (thn (ha pos pins s σ H _ I h) fun us s1 ⟨vs, H1, I1, r1, q1⟩ => hc pins s1 σ H1 vs us Q I1 r1 q1) he hpl
theorem pe_callTy (hc : CallR X (.type T) r) (hg : Gl X x) (hm : X.mg x = none) (hv : bootBuiltins x = some (.type T)) (ha : PA X (e :: es) t) (hn : x ≠ "__name__" := by decide) (hdb : (x == ("__debug__" : Str)) = false := by decide)
  (he : starEach (e :: es) X.env = (false, eval e X.env) :: starEach es X.env := by rfl) (hpl : (backTo pos (starEach es X.env)).any (·.1) = false := by rfl) : PE X (.Call (.Name x p) (e :: es) [] pos) (tCB r t) := by
 intro pins s σ H Q I h
 refine wpAny_Call_Name_kw (ld_blt I hg hm hv ?_ hn hdb)
 exact PyProof.Rows.callWith_type1 (thn (ha pos pins s σ H _ I h) fun us s1 ⟨vs, H1, I1, r1, q1⟩ => hc pins s1 σ H1 vs us Q I1 r1 q1) he hpl
end
end L2
namespace HT
open PySem PyProof.Rows
section
open PySem.SeqAt
open PySem.AutoSeq1 (wpAny_loadPart')
open PySem.MeetsSeq PySem.MeetsSeq2 PySem.MeetsSeq3
end
section
variable {prog : Program} {w : World} {A : Around} {E : Value → Shared → Prop} {s : Shared}
theorem cat_tup {t b : Addr} {vs ws : List Value} {Q : Value → Shared → Prop} (ht : IsTup s.heap t vs.toArray) (hb : IsTup s.heap b ws.toArray) (hv : vs ≠ [])
  (h1 : ws = [] → Q (.ref t) s) (h2 : ws ≠ [] → Q (.ref s.heap.objs.size) { s with heap := s.heap.push { cls := .type "tuple", data := .seq (vs ++ ws).toArray } })
  (hsz : vs.length + ws.length ≤ sizeLine) : wpAny (model prog w) A (binaryOp .Add (.ref t) (.ref b)) Q E s := by
 obtain ⟨⟨cls, dd, data, sl⟩, ho, hc, n, hd⟩ := id ht
 obtain ⟨⟨cls2, dd2, data2, sl2⟩, ho2, hc2, n2, hd2⟩ := id hb
 simp only at hc hd hc2 hd2
 subst hc hd hc2 hd2
 have e : vs.toArray ++ ws.toArray = (vs ++ ws).toArray := by simp
 by_cases hw : ws = []
 ·exact concat_meets ⟨_, ho, rfl⟩ ⟨_, ho2, rfl⟩ noFill_tuple_add seq_tuple_add PySem.F.slot_tuple_add PySem.F.entry_tuple_add (PySem.F.args_tuple_add_2 _ _)
   (tuple_addW1 t b vs.toArray ws.toArray n n2 dd dd2 sl sl2 (by simpa using hv) (by simp [hw])) ⟨ho, ho2, h1 hw⟩
 ·refine concat_meets ⟨_, ho, rfl⟩ ⟨_, ho2, rfl⟩ noFill_tuple_add seq_tuple_add PySem.F.slot_tuple_add PySem.F.entry_tuple_add (PySem.F.args_tuple_add_2 _ _)
   (tuple_addW2 t b vs.toArray ws.toArray n n2 dd dd2 sl sl2 (by simpa using hv) (by simpa using hw) (by rw [List.size_toArray, List.size_toArray]; exact hsz)) ⟨ho, ho2, ?_⟩
  rw [e]
  exact h2 hw
def sIx (n d : Nat) : Option Int → Nat
 | none => d
 | some v => if v < 0 then (v + (n : Int)).toNat else min v.toNat n
theorem sIx_none (n d : Nat) : sIx n d none = d := rfl
theorem sIx_nat (n d k : Nat) : sIx n d (some (k : Int)) = min k n := by
 show (if (k : Int) < 0 then ((k : Int) + (n : Int)).toNat else min (k : Int).toNat n) = min k n
 rw [if_neg (by omega), Int.toNat_natCast]
theorem sIx_le (n d : Nat) (hd : d ≤ n) (o : Option Int) : sIx n d o ≤ n := by
 cases o with
 | none => exact hd
 | some v =>
  show (if v < 0 then (v + (n : Int)).toNat else min v.toNat n) ≤ n
  by_cases hv : v < 0
  ·rw [if_pos hv]; omega
  ·rw [if_neg hv]; exact Nat.min_le_right _ _
theorem clip_eq (v : Int) (n d : Nat) : (if v < 0 then max (v + (n : Int)) 0 else min v (n : Int)) = ((sIx n d (some v) : Nat) : Int) := by
 show (if v < 0 then max (v + (n : Int)) 0 else min v (n : Int)) = (((if v < 0 then (v + (n : Int)).toNat else min v.toNat n) : Nat) : Int)
 by_cases hv : v < 0
 ·simp only [if_pos hv]; omega
 ·simp only [if_neg hv]; omega
theorem adjust_gen (lo hi : Option Int) (n : Nat) : Builtin.Slice.sliceAdjust lo hi 1 (n : Int) = (((sIx n 0 lo : Nat) : Int), ((sIx n n hi : Nat) : Int)) := by
 have h1 : ¬ ((1 : Int) < 0) := by omega
 unfold Builtin.Slice.sliceAdjust
 simp only [h1, if_false]
 refine Prod.ext ?_ ?_
 ·cases lo with
  | none => rfl
  | some v => exact clip_eq v n 0
 ·cases hi with
  | none => rfl
  | some v => exact clip_eq v n n
theorem places_gen (i j : Nat) : Builtin.Slice.slicePlaces (i : Int) (j : Int) 1 = j - i := by
 unfold Builtin.Slice.slicePlaces
 have h1 : (1 : Int) > 0 := by omega
 simp only [h1, if_true, Int.ediv_one]
 split <;> omega
theorem slicePart_ {v : Value} {o : Option Int} {Q : Option Int → Shared → Prop} (p : IsPart v o) (h : Q o s) : wpAny (model prog w) A (Builtin.Slice.slicePartIndex v) Q E s := by
 cases p with
 | none => exact slicePart_none h
 | int i t => exact slicePart_int h
theorem sliceApplied_gen {sl : Addr} {vl vu : Value} {lo hi : Option Int} {n : Nat} {Q : Int × Int × Nat → Shared → Prop} (hs : s.heap.IsSliceOf sl vl vu .none) (pl : IsPart vl lo) (pu : IsPart vu hi)
  (h : Q (((sIx n 0 lo : Nat) : Int), 1, sIx n n hi - sIx n 0 lo) s) : wpAny (model prog w) A (Builtin.Slice.sliceApplied (.ref sl) (pure (n : Int))) Q E s := by
 obtain ⟨os, hos, hcs, hds⟩ := id hs
 unfold Builtin.Slice.sliceApplied Builtin.Slice.sliceFields
 refine wpAny_bind (wpAny_bind (wpAny_field hos hds (x := vl) rfl (wpAny_bind (wpAny_field hos hds (x := vu) rfl (wpAny_bind (wpAny_field hos hds (x := .none) rfl (wpAny_pure ?_)))))))
 refine wpAny_bind (slicePart_none ?_)
 show wpAny _ _ (if ((1 : Int) == 0) = true then _ else _) _ _ s
 rw [if_neg (by decide)]
 refine wpAny_bind (slicePart_ pl (wpAny_bind (slicePart_ pu (wpAny_bind (wpAny_pure ?_)))))
 show wpAny _ _ (match Builtin.Slice.sliceAdjust lo hi 1 (n : Int) with | (lo, hi) => pure (lo, (1 : Int), Builtin.Slice.slicePlaces lo hi 1)) _ _ s
 rw [adjust_gen lo hi n]
 show wpAny _ _ (pure (((sIx n 0 lo : Nat) : Int), (1 : Int), Builtin.Slice.slicePlaces ((sIx n 0 lo : Nat) : Int) ((sIx n n hi : Nat) : Int) 1)) _ _ s
 rw [places_gen]
 exact wpAny_pure h
theorem pick_gen (xs : Array Value) (i k : Nat) : ((List.range k).filterMap fun (m : Nat) => xs[((i : Int) + (m : Int) * 1).toNat]?).toArray = ((xs.toList.drop i).take k).toArray := by
 have e : (fun (m : Nat) => xs[((i : Int) + (m : Int) * 1).toNat]?) = fun m => xs[i + m]? := by
  funext m
  have : ((i : Int) + (m : Int) * 1).toNat = i + m := by omega
  rw [this]
 rw [e]
 have := pick_run xs i k
 rw [List.filterMap_map] at this
 have e2 : ((fun x => xs[x]?) ∘ fun x => i + x) = fun m => xs[i + m]? := rfl
 rw [e2] at this
 rw [this]
theorem getItem_tuple_cut {t sl : Addr} {items : Array Value} {vl vu : Value} {lo hi : Option Int} {Q : Value → Shared → Prop} (ht : IsTup s.heap t items) (hs : s.heap.IsSliceOf sl vl vu .none) (pl : IsPart vl lo) (pu : IsPart vu hi)
  (hw : ¬ (sIx items.size 0 lo = 0 ∧ sIx items.size items.size hi = items.size))
  (h : Q (.ref s.heap.objs.size) { s with heap := s.heap.push { cls := .type "tuple", data := .seq ((items.toList.drop (sIx items.size 0 lo)).take (sIx items.size items.size hi - sIx items.size 0 lo)).toArray } })
  (hsz : items.size ≤ sizeLine) : wpAny (model prog w) A (getItem (.ref t) (.ref sl)) Q E s := by
 have htake : sizeOk (.seq ((items.toList.drop (sIx items.size 0 lo)).take (sIx items.size items.size hi - sIx items.size 0 lo)).toArray) := by
  show ((items.toList.drop (sIx items.size 0 lo)).take (sIx items.size items.size hi - sIx items.size 0 lo)).toArray.size ≤ sizeLine
  rw [List.size_toArray, List.length_take, List.length_drop, Array.length_toList]
  omega
 have hj : sIx items.size items.size hi ≤ items.size := sIx_le _ _ (Nat.le_refl _) hi
 obtain ⟨os, hos, hcs, hds⟩ := id hs
 have hTs : s.TypeIs (.ref sl) "slice" := ⟨os, hos, hcs⟩
 unfold getItem
 try with_reducible refine wpAny_holding ?_
 first | refine wpAny_bind (wpAny_pure ?_) | skip
 refine wpAny_bind (wpAny_sequenceKey ht.typeIs (by decide) ?_)
 refine wpAny_bind (wpAny_callSpecial?_slot (name := Str.ofString "__getitem__") ht.typeIs PyProof.Rows.slot_tuple_getitem
  (wpAny_call_entry PyProof.Rows.slot_tuple_getitem ht.typeIs entry_tuple_getitem ?_ (args_tuple_getitem _ _)))
 show wpAny _ _ (Builtin.Tuple.tupleItemsOf (.ref t) >>= _) _ _ s
 refine wpAny_bind (tupleItemsOf_ ht ?_)
 refine wpAny_bind (wpAny_typeOf hTs ?_)
 rw [if_pos (by decide)]
 refine wpAny_bind (sliceApplied_gen hs pl pu ?_)
 have hno : ¬ ((((sIx items.size 0 lo : Nat) : Int) == 0 && (1 : Int) == 1 && (sIx items.size items.size hi - sIx items.size 0 lo) == items.size) = true) := by
  intro q
  rw [Bool.and_eq_true, Bool.and_eq_true] at q
  have q1 : ((sIx items.size 0 lo : Nat) : Int) = 0 := eq_of_beq q.1.1
  have q2 : sIx items.size items.size hi - sIx items.size 0 lo = items.size := eq_of_beq q.2
  exact hw ⟨by omega, by omega⟩
 show wpAny _ _ (if (((sIx items.size 0 lo : Nat) : Int) == 0 && (1 : Int) == 1 && (sIx items.size items.size hi - sIx items.size 0 lo) == items.size) = true then _ else _) _ _ s
 rw [if_neg hno, pick_gen]
 first
  | exact wpAny_bind (m := Builtin.Tuple.tupleExact _) (wpAny_newObj_type (wpAny_pure ⟨_, rfl, wpAny_pure h⟩) htake)
  | exact wpAny_bind (m := Builtin.Tuple.tupleExact _) (wpAny_newObj_type (wpAny_bind (wpAny_pure (wpAny_pure ⟨_, rfl, wpAny_pure h⟩))) htake)
  | exact wpAny_bind (wpAny_bind (m := Builtin.Tuple.tupleExact _) (wpAny_newObj_type (wpAny_pure (wpAny_pure ⟨_, rfl, wpAny_pure h⟩)) htake))
  | exact wpAny_bind (wpAny_bind (m := Builtin.Tuple.tupleExact _) (wpAny_newObj_type (wpAny_pure ⟨_, rfl, wpAny_pure h⟩) htake))
end
end HT
namespace L2
open PySem PySem.Spec PyProof.Rows
abbrev TO := St → Hp → (Option Int → Hp → Prop) → Prop
def PO (X : Cx) (e : Option Expr) (t : TO) : Prop :=
 ∀ (pins : List (Addr × Obj)) (s : Shared) (σ : St) (H : Hp) (Q : Option Int → Hp → Prop), Inv X pins σ H s → t σ H Q →
  wpAny (model X.prog X.w) X.A (evalPart e X.env) (fun u s' => ∃ o H', Inv X pins σ H' s' ∧ IsPart u o ∧ Q o H') X.xe s
def tNoPart : TO := fun _ H Q => Q none H
def tPart (t : TE) : TO := fun σ H Q => t σ H fun x H1 => ∃ i, x = .int i ∧ Q (some i) H1
section
variable {X : Cx} {e : Expr} {te : TE} {lo hi : Option Expr} {tl th : TO} {pos p2 : Pos}
theorem po_none : PO X none tNoPart := by
 intro pins s σ H Q I h
 rw [evalPart_none]
 exact wpAny_pure ⟨none, H, I, .none, h⟩
theorem po_some (h : PE X e te) : PO X (some e) (tPart te) := by
 intro pins s σ H Q I hw
 rw [evalPart_some]
 refine thn (h pins s σ H _ I hw) fun u s1 ⟨x, H1, I1, r1, q1⟩ => ?_
 obtain ⟨i, rfl, q⟩ := q1
 obtain ⟨t, rfl⟩ := r1
 exact ⟨some i, H1, I1, .int i t, q⟩
def SlR (X : Cx) (r : V → Option Int → Option Int → Hp → VK → Prop) : Prop :=
 ∀ (pins : List (Addr × Obj)) (s : Shared) (σ : St) (H : Hp) (x : V) (v vl vu : Value) (lo hi : Option Int) (sl : Addr) (Q : VK), Inv X pins σ H s → RelV x v → s.heap.IsSliceOf sl vl vu .none → IsPart vl lo → IsPart vu hi → r x lo hi H Q →
  ∃ T id, typeLookup (.type T) "__getitem__" = pure (some (.builtin id)) ∧ s.TypeIs v T ∧ wpAny (model X.prog X.w) X.A (getItem v (.ref sl)) (EP X pins σ Q) X.xe s
def tSl (r : V → Option Int → Option Int → Hp → VK → Prop) (te : TE) (tl th : TO) : TE := fun σ H Q => te σ H fun x H1 => tl σ H1 fun l H2 => th σ H2 fun u H3 => r x l u H3 Q
theorem pe_slice {r : V → Option Int → Option Int → Hp → VK → Prop} (hr : SlR X r) (he : PE X e te) (hl : PO X lo tl) (hu : PO X hi th) : PE X (.Subscript e (.Slice lo hi none p2) pos) (tSl r te tl th) := by
 intro pins s σ H Q I h
 refine Subscript_ (thn (he pins s σ H _ I h) fun v s1 ⟨x, H1, I1, r1, q1⟩ => ?_)
 refine wpAny_Slice (thn (hl pins s1 σ H1 _ I1 q1) fun vl s2 ⟨l, H2, I2, pl, q2⟩ => thn (hu pins s2 σ H2 _ I2 q2) fun vu s3 ⟨u, H3, I3, pu, q3⟩ => ?_)
 rw [evalPart_none]
 refine wpAny_pure ?_
 have I4 : Inv X pins σ H3 { s3 with heap := s3.heap.push { cls := .type "slice", data := .fields #[vl, vu, .none] } } := I3.kept (t' := s3.toks) fun b ob q => Heap.get?_push_of_some _ q
 obtain ⟨T, id, hT, ht, hg⟩ := hr pins { s3 with heap := s3.heap.push { cls := .type "slice", data := .fields #[vl, vu, .none] } } σ H3 x v vl vu l u s3.heap.objs.size Q I4 r1 (Heap.IsSliceOf.new ..) pl pu q3
 show wpAny (model X.prog X.w) X.A (subscriptTail e (.Slice lo hi none p2) v (.ref s3.heap.objs.size)) (EP X pins σ Q) X.xe { s3 with heap := s3.heap.push { cls := .type "slice", data := .fields #[vl, vu, .none] } }
 exact tail_any (ops := [.ref s3.heap.objs.size, v]) ht hT hg (by with_unfolding_all rfl)
def cutV (xs : List V) (lo hi : Option Int) : List V := (xs.drop (HT.sIx xs.length 0 lo)).take (HT.sIx xs.length xs.length hi - HT.sIx xs.length 0 lo)
theorem cutV_length (xs : List V) (lo hi : Option Int) : (cutV xs lo hi).length ≤ xs.length := by
 unfold cutV
 rw [List.length_take, List.length_drop]
 omega
def rSlT (K : PySem.W.Frag) : V → Option Int → Option Int → Hp → VK → Prop := fun x lo hi H Q => ∃ a xs, x = .ref a ∧ SqT K H a xs ∧
 ¬ (HT.sIx xs.length 0 lo = 0 ∧ HT.sIx xs.length xs.length hi = xs.length) ∧ ∀ p, H p = none → Q (.ref p) (upd H p (.tup (cutV xs lo hi)))
theorem sl_tup : SlR X (rSlT X.K) := by
 intro pins s σ H x v vl vu lo hi sl Q I rx hs pl pu h
 obtain ⟨a, xs, rfl, hx, hw, q⟩ := h
 cases rx
 obtain ⟨its, r, ht, hz⟩ := I.tuple hx
 have hlen : its.toArray.size = xs.length := by rw [List.size_toArray]; exact r.length.symm
 refine ⟨"tuple", _, PyProof.Rows.slot_tuple_getitem.lookup, ht.typeIs, ?_⟩
 refine HT.getItem_tuple_cut ht hs pl pu (by rw [hlen]; exact hw) ?_ (by rw [hlen]; exact hz)
 rw [hlen]
 refine ⟨.ref s.heap.objs.size, _, I.laid (t' := s.toks) (o := .tup (cutV xs lo hi)) (fun b ob q => Heap.get?_push_of_some _ q) (Nat.le_refl _) ?_, rfl, q _ (I.hok.fresh (Nat.le_refl _))⟩
 exact ⟨Nat.le_trans (cutV_length xs lo hi) hz, _, (r.drop (HT.sIx xs.length 0 lo)).take (HT.sIx xs.length xs.length hi - HT.sIx xs.length 0 lo), IsTup.new _ _⟩
def rCatT (K : PySem.W.Frag) : R2 := fun x y H Q => ∃ a b xs ys, x = .ref a ∧ y = .ref b ∧ SqT K H a xs ∧ SqT K H b ys ∧ xs ≠ [] ∧ xs.length + ys.length ≤ sizeLine ∧
 (ys = [] → Q (.ref a) H) ∧ (ys ≠ [] → ∀ p, H p = none → Q (.ref p) (upd H p (.tup (xs ++ ys))))
theorem Vals.nil_iff {xs : List V} {us : List Value} (r : Vals xs us) : us = [] ↔ xs = [] := by
 cases r with
 | nil => simp
 | cons _ _ => simp
theorem op_catT : OpR X (binaryOp .Add) (rCatT X.K) := by
 intro pins s σ H x y v u Q I rx ry h
 obtain ⟨a, b, xs, ys, rfl, rfl, ha, hb, hx, hz, q1, q2⟩ := h
 cases rx
 cases ry
 obtain ⟨its, r1, p1, _⟩ := I.tuple ha
 obtain ⟨its2, r2, p2, _⟩ := I.tuple hb
 refine HT.cat_tup p1 p2 (fun z => hx (r1.nil_iff.mp z)) (fun z => ⟨.ref a, H, I, rfl, q1 (r2.nil_iff.mp z)⟩) (fun z => ?_) (by rw [← r1.length, ← r2.length]; exact hz)
 refine ⟨.ref s.heap.objs.size, _, I.laid (t' := s.toks) (o := .tup (xs ++ ys)) (fun b ob q => Heap.get?_push_of_some _ q) (Nat.le_refl _) ?_, rfl, q2 (fun w => z (r2.nil_iff.mpr w)) _ (I.hok.fresh (Nat.le_refl _))⟩
 exact ⟨by rw [List.length_append]; exact hz, _, r1.append r2, IsTup.new _ _⟩
end
end L2
namespace L2
open PySem PySem.Spec PyProof.Rows
def ixN (n : Nat) (i : Int) : Option Nat := if 0 ≤ i then (if i < n then some i.toNat else none) else if -(n : Int) ≤ i then some (i + n).toNat else none
def atI {α : Type} (xs : List α) (i : Int) : Option α := (ixN xs.length i).bind fun j => xs[j]?
theorem ixN_seq {n : Nat} {i : Int} {j : Nat} (h : ixN n i = some j) : seqIndex? i n = some j ∧ j < n ∧ -(n : Int) ≤ i ∧ i < n := by
 unfold ixN at h
 by_cases h0 : 0 ≤ i
 ·rw [if_pos h0] at h
  by_cases h1 : i < n
  ·rw [if_pos h1] at h
   have e : i.toNat = j := Option.some.inj h
   exact ⟨by rw [seqIndex_of h0 h1, e], by omega, by omega, h1⟩
  ·rw [if_neg h1] at h; cases h
 ·rw [if_neg h0] at h
  by_cases h1 : -(n : Int) ≤ i
  ·rw [if_pos h1] at h
   have e : (i + n).toNat = j := Option.some.inj h
   exact ⟨by rw [seqIndex_neg (by omega) h1, e], by omega, h1, by omega⟩
  ·rw [if_neg h1] at h; cases h
theorem atI_get {α : Type} {xs : List α} {i : Int} {v : α} (h : atI xs i = some v) : ∃ j, seqIndex? i xs.length = some j ∧ xs[j]? = some v ∧ j < xs.length ∧ -(xs.length : Int) ≤ i ∧ i < xs.length := by
 unfold atI at h
 cases e : ixN xs.length i with
 | none => rw [e] at h; cases h
 | some j =>
  rw [e] at h
  obtain ⟨h1, h2, h3, h4⟩ := ixN_seq e
  exact ⟨j, h1, h, h2, h3, h4⟩
theorem atI_nat {α : Type} {xs : List α} {j : Nat} {v : α} (h : xs[j]? = some v) : atI xs (j : Int) = some v := by
 have hj : j < xs.length := (List.getElem?_eq_some_iff.mp h).1
 have e : ixN xs.length (j : Int) = some j := by
  unfold ixN
  rw [if_pos (by omega), if_pos (by omega)]; simp
 unfold atI; rw [e]; exact h
def PlainIx (b : Expr) : Prop := ∀ o i, subscripted b false o i = operate [o, i] (getItem o i)
def IxR (X : Cx) (r : R2) : Prop :=
 ∀ (value slice : Expr) (pins : List (Addr × Obj)) (s : Shared) (σ : St) (H : Hp) (x y : V) (v u : Value) (Q : VK), Inv X pins σ H s → RelV x v → RelV y u → r x y H Q →
  subscripted slice false v u = operate [v, u] (getItem v u) → wpAny (model X.prog X.w) X.A (subscriptTail value slice v u) (EP X pins σ Q) X.xe s
def MtR (X : Cx) (id : String) (r : V → List V → Hp → VK → Prop) : Prop :=
 ∀ (pins : List (Addr × Obj)) (s : Shared) (σ : St) (H : Hp) (x : V) (xs : List V) (v : Value) (us : List Value) (Q : VK), Inv X pins σ H s → RelV x v → Vals xs us → r x xs H Q →
  wpAny (model X.prog X.w) X.A (call (.builtin id) (v :: us)) (EP X pins σ Q) X.xe s
section
variable {X : Cx} {a b : Expr} {ta tb : TE} {pos : Pos}
theorem pe_ix {r : R2} (hr : IxR X r) (ha : PE X a ta) (hb : PE X b tb) (hs : PlainIx b) : PE X (.Subscript a b pos) (tOp r ta tb) := by
 intro pins s σ H Q I h
 exact Subscript_ (binT ha hb I h fun v u s2 x y H2 I2 rx ry q => hr a b pins s2 σ H2 x y v u Q I2 rx ry q (hs _ _))
def rIxL (K : PySem.W.Frag) : R2 := fun x y H Q => ∃ p xs i v, x = .ref p ∧ y = .int i ∧ SqL K H p xs ∧ atI xs i = some v ∧ Q v H
def rIxT (K : PySem.W.Frag) : R2 := fun x y H Q => ∃ p xs i v, x = .ref p ∧ y = .int i ∧ SqT K H p xs ∧ atI xs i = some v ∧ Q v H
def rIxS : R2 := fun x y H Q => ∃ z i c, x = .str z ∧ y = .int i ∧ z.length ≤ sizeLine ∧ atI z.cps.toList i = some c ∧ Q (.str ⟨#[c]⟩) H
theorem ix_list : IxR X (rIxL X.K) := by
 intro value slice pins s σ H x y v u Q I rx ry h hs
 obtain ⟨p, xs, i, z, rfl, rfl, hq, he, q⟩ := h
 cases rx
 obtain ⟨t, rfl⟩ := ry
 obtain ⟨its, r, pl, hz⟩ := I.list hq
 obtain ⟨j, h1, h2, h3, h4, h5⟩ := atI_get he
 obtain ⟨w, ew, rw'⟩ := r.get h2
 have hl := r.length
 have hn := line63
 have fin : EP X pins σ Q w s := ⟨z, H, I, rw', q⟩
 by_cases h0 : 0 ≤ i
 ·have hj : i.toNat = j := by
   rw [seqIndex_of h0 h5] at h1
   exact Option.some.inj h1
  exact item_listR pl.isList h0 (by omega) (by rw [hj]; simpa using ew) fin hs
 ·have hj : (i + (its.toArray.size : Int)).toNat = j := by
   rw [seqIndex_neg (by omega) h4] at h1
   rw [List.size_toArray, ← hl]
   exact Option.some.inj h1
  exact subscriptTail_builtinR (x := w) pl.isList.typeIs slot_list_getitem.lookup
   (wpAny_getItem_list_neg (Q := fun r s' => r = w ∧ EP X pins σ Q r s') pl.isList (by omega) (by rw [List.size_toArray] <;> omega) (by omega) (by rw [hj]; simpa using ew) ⟨rfl, fin⟩) hs
theorem ix_tup : IxR X (rIxT X.K) := by
 intro value slice pins s σ H x y v u Q I rx ry h hs
 obtain ⟨p, xs, i, z, rfl, rfl, hq, he, q⟩ := h
 cases rx
 obtain ⟨t, rfl⟩ := ry
 obtain ⟨its, r, pl, hz⟩ := I.tuple hq
 obtain ⟨j, h1, h2, h3, h4, h5⟩ := atI_get he
 obtain ⟨w, ew, rw'⟩ := r.get h2
 have hl := r.length
 have hn := line63
 have fin : EP X pins σ Q w s := ⟨z, H, I, rw', q⟩
 exact subscriptTail_builtinR (x := w) pl.typeIs slot_tuple_getitem.lookup
  (getItem_tuple (j := j) (Q := fun r s' => r = w ∧ EP X pins σ Q r s') pl (by omega) (by omega) (by rw [List.size_toArray, ← hl]; exact h1) (by simpa using ew) ⟨rfl, fin⟩) hs
theorem ix_str : IxR X rIxS := by
 intro value slice pins s σ H x y v u Q I rx ry h hs
 obtain ⟨z, i, c, rfl, rfl, hz, he, q⟩ := h
 obtain ⟨t, rfl⟩ := rx
 obtain ⟨t', rfl⟩ := ry
 obtain ⟨j, h1, h2, h3, h4, h5⟩ := atI_get he
 have hl : z.cps.toList.length = z.length := by simp [Str.length]
 rw [hl] at h1 h4 h5
 have hn := line63
 exact tail_any (typeIs_str s z t) slot_str_getitem.lookup (getItem_str (c := c) (by
  have e1 : decide (i < -(2 ^ 63 : Int)) = false := decide_eq_false (by omega)
  have e2 : decide (i ≥ 2 ^ 63) = false := decide_eq_false (by omega)
  rw [e1, e2, Bool.or_false]) (by rw [h1]; simpa using h2) ⟨.str ⟨#[c]⟩, H, I.tok _, ⟨_, rfl⟩, q⟩) hs
theorem mapSeq_set (its : List Value) (n j : Nat) (u : Value) : Obj.mapSeq (·.setIfInBounds j u) { cls := .type "list", data := .seq its.toArray n } = { cls := .type "list", data := .seq (its.set j u).toArray n } := by
 simp [Obj.mapSeq]
theorem Inv.lst {pins : List (Addr × Obj)} {σ : St} {H : Hp} {s : Shared} {p : Addr} {xs : List V} (I : Inv X pins σ H s) (h : H p = some (.lst xs)) :
  ∃ (its : List Value) (n : Nat), Vals xs its ∧ s.heap.get? p = some { cls := .type "list", data := .seq its.toArray n } ∧ xs.length ≤ sizeLine := by
 obtain ⟨z, its, n, r, e⟩ := I.hok p _ h
 exact ⟨its, n, r, e, z⟩
theorem Inv.lstUpd {pins : List (Addr × Obj)} {σ : St} {H : Hp} {s : Shared} {p : Addr} {xs ys : List V} {its its' : List Value} {n n' : Nat} {f : Obj → Obj} (I : Inv X pins σ H s) (h : H p = some (.lst xs))
  (ho : s.heap.get? p = some { cls := .type "list", data := .seq its.toArray n }) (hf : f { cls := .type "list", data := .seq its.toArray n } = { cls := .type "list", data := .seq its'.toArray n' }) (r : Vals ys its') (hz : ys.length ≤ sizeLine) (t : Nat) :
  Inv X pins σ (upd H p (.lst ys)) { s with heap := s.heap.update p f, toks := t } := by
 have e : (s.heap.update p f).get? p = some { cls := .type "list", data := .seq its'.toArray n' } := by
  rw [Heap.get?_update_self f ho (by rw [hf] <;> rfl), hf]
 refine I.write (x := p) (e := p) (by rw [h]; trivial) (.inl rfl) (fun b u hb q => (Heap.get?_update_other _ _ (Ne.symm hb)).trans q) ⟨_, e⟩ ?_
 exact ⟨hz, its', n', r, e⟩
def rSetL : V → V → V → Hp → (Hp → Prop) → Prop := fun o i v H Q => ∃ p xs k j, o = .ref p ∧ i = .int k ∧ H p = some (.lst xs) ∧ ixN xs.length k = some j ∧ Q (upd H p (.lst (xs.set j v)))
theorem set_list : PSet X rSetL := by
 intro pins s σ H o i v ov iv u Q I ro ri rv h
 obtain ⟨p, xs, k, j, rfl, rfl, hp, hj, q⟩ := h
 cases ro
 obtain ⟨t, rfl⟩ := ri
 obtain ⟨its, n, r, ho, hz⟩ := I.lst hp
 obtain ⟨h1, h2, h3, h4⟩ := ixN_seq hj
 have hl := r.length
 have hn := line63
 have I' : Inv X pins σ (upd H p (.lst (xs.set j v))) { s with heap := s.heap.update p (Obj.mapSeq (·.setIfInBounds j u)) } :=
  I.lstUpd hp ho (mapSeq_set its n j u) (r.set rv j) (by rw [List.length_set]; exact hz) s.toks
 by_cases h0 : 0 ≤ k
 ·have hk : k.toNat = j := by
   rw [seqIndex_of h0 h4] at h1
   exact Option.some.inj h1
  exact PySem.W.ki_setAt ho h0 (by omega) (by rw [List.size_toArray, ← hl]; exact h4) (by rw [hk]; exact ⟨_, I', q⟩)
 ·have hk : (k + (its.toArray.size : Int)).toNat = j := by
   rw [seqIndex_neg (by omega) h3] at h1
   rw [List.size_toArray, ← hl]
   exact Option.some.inj h1
  exact PySem.W.ki_setBack ho (by omega) (by rw [List.size_toArray, ← hl]; exact h3) (by omega) (by rw [hk]; exact ⟨_, I', q⟩)
theorem slice_bounds (lo hi : Option Int) (n : Nat) : (sliceBounds lo hi none n).1 = ((HT.sIx n 0 lo : Nat) : Int) ∧ (sliceBounds lo hi none n).2.1 = ((HT.sIx n n hi : Nat) : Int) ∧ (sliceBounds lo hi none n).2.2 = 1 := by
 refine ⟨?_, ?_, rfl⟩
 ·cases lo with
  | none => simp [sliceBounds, HT.sIx]
  | some i =>
   simp only [sliceBounds, HT.sIx, Option.getD_none, show (1 : Int) > 0 by decide, if_true]
   by_cases h : i < 0
   ·simp only [h, if_true] <;> omega
   ·simp only [h, if_false] <;> omega
 ·cases hi with
  | none => simp [sliceBounds, HT.sIx]
  | some i =>
   simp only [sliceBounds, HT.sIx, Option.getD_none, show (1 : Int) > 0 by decide, if_true]
   by_cases h : i < 0
   ·simp only [h, if_true] <;> omega
   ·simp only [h, if_false] <;> omega
theorem slicePick_cut (its : List Value) (lo hi : Option Int) : slicePick its.toArray lo hi none = ((its.drop (HT.sIx its.length 0 lo)).take (HT.sIx its.length its.length hi - HT.sIx its.length 0 lo)).toArray := by
 obtain ⟨h1, h2, h3⟩ := slice_bounds lo hi its.toArray.size
 unfold slicePick
 rw [h1, h2, h3]
 simp only [sliceRange_one, pick_run, List.size_toArray] <;> rfl
def rSlL (K : PySem.W.Frag) : V → Option Int → Option Int → Hp → VK → Prop := fun x lo hi H Q => ∃ a xs, x = .ref a ∧ SqL K H a xs ∧ ∀ p, H p = none → Q (.ref p) (upd H p (.lst (cutV xs lo hi)))
theorem sl_list : SlR X (rSlL X.K) := by
 intro pins s σ H x v vl vu lo hi sl Q I rx hs pl pu h
 obtain ⟨a, xs, rfl, hx, q⟩ := h
 cases rx
 obtain ⟨its, r, ht, hz⟩ := I.list hx
 have hlen := r.length
 refine ⟨"list", _, slot_list_getitem.lookup, ht.isList.typeIs, ?_⟩
 refine wpAny_getItem_list_slice ht.isList hs pl pu .none (by simp) ?_ (by rw [List.size_toArray] <;> omega)
 rw [slicePick_cut, ← hlen]
 refine ⟨.ref s.heap.objs.size, _, I.laid (t' := s.toks) (o := .lst (cutV xs lo hi)) (fun b ob q => Heap.get?_push_of_some _ q) (Nat.le_refl _) ?_, rfl, q _ (I.hok.fresh (Nat.le_refl _))⟩
 exact ⟨Nat.le_trans (cutV_length xs lo hi) hz, _, 0, (r.drop (HT.sIx xs.length 0 lo)).take (HT.sIx xs.length xs.length hi - HT.sIx xs.length 0 lo), Heap.get?_push_size _ rfl⟩
def flatV : V → Bool
 | .non => true
 | .bl _ => true
 | .int _ => true
 | .str _ => true
 | _ => false
def eqV : V → V → Bool
 | .non, .non => true
 | .bl a, .bl b => a == b
 | .bl a, .int b => (if a then 1 else 0) == b
 | .int a, .bl b => a == (if b then 1 else 0)
 | .int a, .int b => a == b
 | .str a, .str b => a == b
 | _, _ => false
theorem eqAt_V {A : Around} {s : Shared} {y x : V} {u v : Value} (ry : RelV y u) (rx : RelV x v) (fy : flatV y = true) (fx : flatV x = true) : SeqAt.EqAt A s u v (eqV y x) := by
 cases y with
 | non =>
  cases ry
  cases x with
  | non => cases rx; exact SeqAt.EqAt.same _
  | bl b => cases rx; exact SeqAt.EqAt.none_bool b
  | int b => obtain ⟨t, rfl⟩ := rx; exact SeqAt.EqAt.none_int b t
  | str b => obtain ⟨t, rfl⟩ := rx; exact SeqAt.EqAt.none_str b t
  | _ => exact absurd (show false = true from fx) Bool.false_ne_true
 | bl a =>
  cases ry
  cases x with
  | non => cases rx; exact SeqAt.EqAt.bool_none a
  | bl b => cases rx; exact SeqAt.EqAt.bool_bool a b
  | int b => obtain ⟨t, rfl⟩ := rx; exact SeqAt.EqAt.bool_int a b t
  | str b => obtain ⟨t, rfl⟩ := rx; exact SeqAt.EqAt.bool_str a b t
  | _ => exact absurd (show false = true from fx) Bool.false_ne_true
 | int a =>
  obtain ⟨t', rfl⟩ := ry
  cases x with
  | non => cases rx; exact SeqAt.EqAt.int_none a t'
  | bl b => cases rx; exact SeqAt.EqAt.int_bool a t' b
  | int b => obtain ⟨t, rfl⟩ := rx; exact SeqAt.EqAt.int_int a t' b t
  | str b => obtain ⟨t, rfl⟩ := rx; exact SeqAt.EqAt.int_str a t' b t
  | _ => exact absurd (show false = true from fx) Bool.false_ne_true
 | str a =>
  obtain ⟨t', rfl⟩ := ry
  cases x with
  | non => cases rx; exact SeqAt.EqAt.str_none a t'
  | bl b => cases rx; exact SeqAt.EqAt.str_bool a t' b
  | int b => obtain ⟨t, rfl⟩ := rx; exact SeqAt.EqAt.str_int a t' b t
  | str b => obtain ⟨t, rfl⟩ := rx; exact SeqAt.EqAt.str_str a t' b t
  | _ => exact absurd (show false = true from fx) Bool.false_ne_true
 | _ => exact absurd (show false = true from fy) Bool.false_ne_true
theorem op_notIn_str : OpR X (compareOp .NotIn) (fun x y H Q => ∃ i j, x = .str i ∧ y = .str j ∧ Q (.bl (!(!(Builtin.Str.occurrences j i 0 j.length 1).isEmpty))) H) := by
 intro pins s σ H x y v u Q I rx ry h
 obtain ⟨i, j, rfl, rfl, q⟩ := h
 obtain ⟨t, rfl⟩ := rx
 obtain ⟨t', rfl⟩ := ry
 exact notIn_str ⟨.bl _, H, I, rfl, q⟩
theorem call_len_seq : CallR X (.builtin "len") (fun xs H Q => ∃ p ys, xs = [.ref p] ∧ (SqL X.K H p ys ∨ SqT X.K H p ys) ∧ Q (.int ys.length) H) := by
 intro pins s σ H xs us Q I r h
 obtain ⟨p, ys, rfl, hq, q⟩ := h
 obtain ⟨u, rfl, rx⟩ := vals1 r
 cases rx
 have hn := line63
 rcases hq with hq | hq
 ·obtain ⟨its, r', pl, hz⟩ := I.list hq
  have hlen := r'.length
  exact Calls.call_len_list pl.isList (by simp only [List.size_toArray] <;> omega) ⟨.int ys.length, H, I.tok _, ⟨s.toks + 1, by rw [List.size_toArray, hlen]⟩, q⟩
 ·obtain ⟨its, r', pl, hz⟩ := I.tuple hq
  have hlen := r'.length
  exact len_tuple pl (by simp only [List.size_toArray] <;> omega) ⟨.int ys.length, H, I.tok _, ⟨s.toks + 1, by rw [List.size_toArray, hlen]⟩, q⟩
theorem call_len_str : CallR X (.builtin "len") (fun xs H Q => ∃ z, xs = [.str z] ∧ z.length ≤ sizeLine ∧ Q (.int z.length) H) := by
 intro pins s σ H xs us Q I r h
 obtain ⟨z, rfl, hz, q⟩ := h
 obtain ⟨u, rfl, t, rfl⟩ := vals1 r
 have hn := line63
 exact len_str (by omega) ⟨.int z.length, H, I.tok _, ⟨_, rfl⟩, q⟩
theorem call_list_of : CallR X (.type "list") (fun xs H Q => ∃ p ys, xs = [.ref p] ∧ (SqL X.K H p ys ∨ SqT X.K H p ys) ∧ ∀ l, H l = none → Q (.ref l) (upd H l (.lst ys))) := by
 intro pins s σ H xs us Q I r h
 obtain ⟨p, ys, rfl, hq, q⟩ := h
 obtain ⟨u, rfl, rx⟩ := vals1 r
 cases rx
 have fin : ∀ (its : List Value), Vals ys its → ys.length ≤ sizeLine → ∀ (h' : Heap) (c' : Nat), (∀ b o', s.heap.get? b = some o' → h'.get? b = some o') →
   h'.get? s.heap.objs.size = some { cls := .type "list", dict := none, data := .seq its.toArray c', slots := #[] } → EP X pins σ Q (.ref s.heap.objs.size) { s with heap := h' } := fun its r' hz h' c' kp e =>
  ⟨.ref s.heap.objs.size, _, I.laid (t' := s.toks) kp (Nat.le_refl _) (show ObjOk X.prog X.w _ h' _ (.lst ys) from ⟨hz, its, c', r', e⟩), rfl, q _ (I.hok.fresh (Nat.le_refl _))⟩
 rcases hq with hq | hq
 ·obtain ⟨its, r', pl, hz⟩ := I.list hq
  have hlen := r'.length
  obtain ⟨o, ho, hc, n, hd⟩ := pl.isList
  exact call_list_seq p (.inl rfl) ho hc hd (fun h' c' kp e => fin its r' hz h' c' kp e) (by simp only [List.size_toArray] <;> omega)
 ·obtain ⟨its, r', pl, hz⟩ := I.tuple hq
  have hlen := r'.length
  obtain ⟨o, ho, hc, n, hd⟩ := pl
  exact call_list_seq p (.inr rfl) ho hc hd (fun h' c' kp e => fin its r' hz h' c' kp e) (by simp only [List.size_toArray] <;> omega)
theorem call_tuple_of : CallR X (.type "tuple") (fun xs H Q => ∃ p ys, xs = [.ref p] ∧ ((SqL X.K H p ys ∧ ∀ l, H l = none → Q (.ref l) (upd H l (.tup ys))) ∨ (SqT X.K H p ys ∧ Q (.ref p) H))) := by
 intro pins s σ H xs us Q I r h
 obtain ⟨p, ys, rfl, h⟩ := h
 obtain ⟨u, rfl, rx⟩ := vals1 r
 cases rx
 rcases h with ⟨hq, q⟩ | ⟨hq, q⟩
 ·obtain ⟨its, r', pl, hz⟩ := I.list hq
  have hlen := r'.length
  refine call_tuple_list pl.isList (fun h' kp => ?_) (by simp only [List.size_toArray] <;> omega)
  have I1 : Inv X pins σ H { s with heap := h' } := I.kept (t' := s.toks) kp
  have I2 : Inv X pins σ (upd H h'.objs.size (.tup ys)) { s with heap := h'.push { cls := .type "tuple", data := .seq its.toArray } } :=
   I1.laid (t' := s.toks) (fun b o e => Heap.get?_push_of_some _ e) (Nat.le_refl _) (show ObjOk X.prog X.w _ _ _ (.tup ys) from ⟨hz, its, r', IsTup.new _ _⟩)
  exact ⟨.ref h'.objs.size, _, I2, rfl, q _ (I1.hok.fresh (Nat.le_refl _))⟩
 ·obtain ⟨its, r', pl, hz⟩ := I.tuple hq
  exact call_tuple_same pl ⟨.ref p, H, I, rfl, q⟩
def tyV (K : PySem.W.Frag) (T : String) (x : V) (H : Hp) : Prop := match x with
 | .str _ => T = "str"
 | .int _ => T = "int"
 | .ref p => (T = "list" ∧ ∃ xs, SqL K H p xs) ∨ (T = "tuple" ∧ ∃ o, K.lookup p = some o ∧ o.cls = .type "tuple" ∧ o.dict = none) ∨
   (T = "dict" ∧ ((∃ kvs, H p = some (.dK kvs)) ∨ ∃ kvs, H p = some (.dT kvs))) ∨ (T = "set" ∧ ∃ S n, H p = some (.set S n))
 | _ => False
theorem tyV_is {pins : List (Addr × Obj)} {σ : St} {H : Hp} {s : Shared} {T : String} {x : V} {v : Value} (I : Inv X pins σ H s) (r : RelV x v) (ty : tyV X.K T x H) :
  s.TypeIs v T ∧ ∀ a, v = .ref a → ∃ ob, s.heap.get? a = some ob ∧ ob.dict = none := by
 cases x with
 | str z =>
  obtain ⟨t, rfl⟩ := r
  cases (show T = "str" from ty)
  exact ⟨typeIs_str s z t, fun _ e => nomatch e⟩
 | int i =>
  obtain ⟨t, rfl⟩ := r
  cases (show T = "int" from ty)
  exact ⟨typeIs_int s i t, fun _ e => nomatch e⟩
 | ref p =>
  cases r
  rcases ty with ⟨rfl, xs, hq⟩ | ⟨rfl, o, hk, hc, hd⟩ | ⟨rfl, hk⟩ | ⟨rfl, S, n, hk⟩
  ·obtain ⟨its, _, pl, _⟩ := I.list hq
   refine ⟨pl.isList.typeIs, fun a e => ?_⟩
   cases e
   obtain ⟨o, n, e, c, hd, _⟩ := pl
   exact ⟨o, e, hd⟩
  ·refine ⟨⟨o, I.kIn p o hk, hc⟩, fun a e => ?_⟩
   cases e
   exact ⟨o, I.kIn _ o hk, hd⟩
  ·have z : ∃ o, s.heap.get? p = some o ∧ o.ExactDict := by
    rcases hk with ⟨kvs, hk⟩ | ⟨kvs, hk⟩
    ·obtain ⟨_, _, _, _, o, _, _, e, ex, _⟩ := I.hok p _ hk
     exact ⟨o, e, ex⟩
    ·obtain ⟨_, _, _, _, o, _, _, e, ex, _⟩ := I.hok p _ hk
     exact ⟨o, e, ex⟩
   obtain ⟨o, e, ex⟩ := z
   refine ⟨⟨o, e, ex.1⟩, fun a e2 => ?_⟩
   cases e2
   exact ⟨o, e, ex.2.1⟩
  ·obtain ⟨o, _, _, _, e, ex, _⟩ := I.hok p _ hk
   refine ⟨⟨o, e, ex.1⟩, fun a e2 => ?_⟩
   cases e2
   exact ⟨o, e, ex.2.1⟩
 | _ => exact False.elim ty
def tBM0 (K : PySem.W.Frag) (T : String) (r : V → List V → Hp → VK → Prop) (to : TE) : TE := fun σ H Q => to σ H fun x H1 => tyV K T x H1 ∧ r x [] H1 Q
def tBM (K : PySem.W.Frag) (T : String) (r : V → List V → Hp → VK → Prop) (to : TE) (t : TA) : TE := fun σ H Q => to σ H fun x H1 => tyV K T x H1 ∧ t σ H1 fun xs H2 => r x xs H2 Q
variable {o e : Expr} {es : List Expr} {to : TE} {t : TA} {name : Str} {apos cpos : Pos} {T id : String} {r : V → List V → Hp → VK → Prop}
theorem pe_bm0 (pa : PlainAttrs T) (slot : Slot T name id) (hty : typeOf (.builtin id) = pure (.type "method_descriptor")) (hm : MtR X id r) (ho : PE X o to)
  (hbase : attributeBase o name X.env (eval o X.env) = eval o X.env := by rfl) (hline : (apos.endLine == cpos.line) = true := by rfl) : PE X (.Call (.Attribute o name apos) [] [] cpos) (tBM0 X.K T r to) := by
 intro pins s σ H Q I h
 refine wpAny_Call_method0_late hbase hline (thn (ho pins s σ H _ I h) fun v s1 ⟨x, H1, I1, r1, ty, q1⟩ => ?_)
 obtain ⟨h1, h2⟩ := tyV_is I1 r1 ty
 exact ⟨T, id, pa, slot, hty, h1, h2, Calls.callWith_builtin rfl (PySem.evalArgs_none (hm pins s1 σ H1 x [] v [] Q I1 r1 .nil q1))⟩
theorem pe_bm (pa : PlainAttrs T) (slot : Slot T name id) (hty : typeOf (.builtin id) = pure (.type "method_descriptor")) (hm : MtR X id r) (ho : PE X o to) (ha : PA X (e :: es) t)
  (hbase : attributeBase o name X.env (eval o X.env) = eval o X.env := by rfl)
  (hfew : ((backTo cpos (starEach (e :: es) X.env)).all (fun x => !x.1) && (backToKw cpos (keywordEach [] X.env)).all (fun x => x.1.isSome)
   && decide ((e :: es).length + ([] : List Keyword).length + (if ([] : List Keyword).isEmpty then 0 else 1) < 30)) = true := by rfl)
  (hline : (apos.endLine == cpos.line) = true := by rfl) (hs : starEach (e :: es) X.env = (false, eval e X.env) :: starEach es X.env := by rfl) (hplain : (backTo cpos (starEach es X.env)).any (·.1) = false := by rfl) :
  PE X (.Call (.Attribute o name apos) (e :: es) [] cpos) (tBM X.K T r to t) := by
 intro pins s σ H Q I h
 refine wpAny_Call_method_late hbase hfew hline rfl (thn (ho pins s σ H _ I h) fun v s1 ⟨x, H1, I1, r1, ty, q1⟩ => ?_)
 obtain ⟨h1, h2⟩ := tyV_is I1 r1 ty
 refine ⟨T, id, pa, slot, hty, h1, h2, ?_⟩
 have hA := ha cpos pins s1 σ H1 _ I1 q1
 rw [hs] at hA ⊢
 refine Calls.callWith_builtin (by show (false || (backTo cpos (starEach es X.env)).any (·.1)) = false; rw [hplain] <;> rfl) (Calls.evalArgs_plain ?_)
 exact thn hA fun us s2 ⟨vs, H2, I2, r2, q2⟩ => hm pins s2 σ H2 x vs v us Q I2 r1 r2 q2
end
end L2
namespace L2
open PySem PySem.Spec PyProof.Rows
def MtM (X : Cx) (id : String) (r : V → List V → Hp → VK → Prop) : Prop :=
 ∀ (pins : List (Addr × Obj)) (s : Shared) (σ : St) (H : Hp) (x : V) (xs : List V) (v : Value) (us : List Value) (Q : VK), Inv X pins σ H s → RelV x v → Vals xs us → r x xs H Q →
  wpAny (model X.prog X.w) X.A (call (.builtin id) (v :: us)) (EP X pins σ Q) X.xe s
theorem Vals.one : ∀ {x : V} {us : List Value}, Vals [x] us → ∃ u, us = [u] ∧ RelV x u
 | _, _, .cons r .nil => ⟨_, rfl, r⟩
theorem Vals.rep {xs : List V} {us : List Value} (h : Vals xs us) : ∀ k : Nat, Vals (List.replicate k xs).flatten (List.replicate k us).flatten
 | 0 => .nil
 | k + 1 => by
  rw [List.replicate_succ, List.replicate_succ, List.flatten_cons, List.flatten_cons]
  exact Vals.append h (Vals.rep h k)
theorem foldl_rep (its : List Value) : ∀ (k : Nat) (acc : List Value),
  List.foldl (fun x1 x2 => x1 ++ x2) acc.toArray (List.replicate k its.toArray) = (acc ++ (List.replicate k its).flatten).toArray
 | 0, acc => by simp
 | k + 1, acc => by
  have e : acc.toArray ++ its.toArray = (acc ++ its).toArray := by simp
  have e2 : (acc ++ its) ++ (List.replicate k its).flatten = acc ++ (List.replicate (k + 1) its).flatten := by
   rw [List.replicate_succ, List.flatten_cons, List.append_assoc]
  rw [← e2, ← foldl_rep its k (acc ++ its), ← e, List.replicate_succ, List.foldl_cons]
section
variable {X : Cx} {pins : List (Addr × Obj)} {σ : St} {H : Hp} {s : Shared} {l b : Addr} {xs ys zs : List V}
theorem Inv.lset {its its' : List Value} {n : Nat} {f : Array Value → Array Value} {t' : Nat} (I : Inv X pins σ H s) (hH : H l = some (.lst xs))
  (e : s.heap.get? l = some { cls := .type "list", data := .seq its.toArray n }) (hf : f its.toArray = its'.toArray) (hv : Vals ys its') (hz : ys.length ≤ sizeLine) :
  Inv X pins σ (upd H l (.lst ys)) { s with heap := s.heap.update l (Obj.mapSeq f), toks := t' } := by
 have q := PySem.IsL.update e f
 rw [hf] at q
 refine I.write (x := l) (e := l) (by rw [hH]; exact trivial) (.inl rfl) (fun b' u hb hu => (Heap.get?_update_other s.heap (Obj.mapSeq f) (Ne.symm hb)).trans hu) ⟨_, q⟩ ?_
 exact ⟨hz, its', _, hv, q⟩
theorem Inv.lnew {its : List Value} {t' : Nat} (I : Inv X pins σ H s) (hv : Vals ys its) (hz : ys.length ≤ sizeLine) :
  Inv X pins σ (upd H s.heap.objs.size (.lst ys)) { s with heap := s.heap.push { cls := .type "list", data := .seq its.toArray }, toks := t' } :=
 I.laid (fun _ _ q => Heap.get?_push_of_some _ q) (Nat.le_refl _) ⟨hz, its, 0, hv, Heap.get?_push_size _ rfl⟩
theorem Inv.fresh (I : Inv X pins σ H s) : H s.heap.objs.size = none := I.hok.fresh (Nat.le_refl _)
theorem Inv.lstM (I : Inv X pins σ H s) (hH : H l = some (.lst xs)) : xs.length ≤ sizeLine ∧ ∃ (its : List Value) (n : Nat), Vals xs its ∧ xs.length = its.length ∧ s.heap.get? l = some { cls := .type "list", data := .seq its.toArray n } := by
 obtain ⟨z, its, n, r, e⟩ := I.hok l _ hH
 exact ⟨z, its, n, r, r.length, e⟩
theorem notLongL {n : Nat} (h : n ≤ sizeLine) : Builtin.List.listTooLong n = false := by
 unfold Builtin.List.listTooLong
 exact decide_eq_false (by omega)
end
section
variable {X : Cx}
def rAppend : V → List V → Hp → VK → Prop := fun x vs H Q => ∃ l xs y, x = .ref l ∧ vs = [y] ∧ H l = some (.lst xs) ∧ xs.length < sizeLine ∧ Q .non (upd H l (.lst (xs ++ [y])))
theorem mt_append : MtM X "list.append" rAppend := by
 intro pins s σ H x vs v us Q I rx rv h
 obtain ⟨l, xs, y, rfl, rfl, hH, hz, q⟩ := h
 cases rx
 obtain ⟨u, rfl, ru⟩ := rv.one
 obtain ⟨z, its, n, r, hl, e⟩ := I.lstM hH
 refine call_meets F.slot_list_append ⟨_, e, rfl⟩ F.entry_list_append (F.args_list_append_2 _ _) (PySem.list_append l its.toArray n u (by rw [List.size_toArray]; omega)) ⟨e, ?_⟩
 refine ⟨.non, _, I.lset (its' := its ++ [u]) hH e (by simp) (r.append (.cons ru .nil)) ?_, rfl, q⟩
 rw [List.length_append, List.length_singleton]
 omega
theorem len_rep {α : Type} (xs : List α) (k : Nat) : (List.replicate k xs).flatten.length = k * xs.length := by
 induction k with
 | zero => simp
 | succ k ih => rw [List.replicate_succ, List.flatten_cons, List.length_append, ih, Nat.succ_mul, Nat.add_comm]
end
section
variable {prog : Program} {w : World} {A : Around} {E : Value → Shared → Prop} {s : Shared}
end
section
variable {X : Cx}
end
end L2
namespace Att
open PySem PySem.W PySem.Calls PyProof.Rows
theorem ints_of_wellAll {P : Params} {h : Heap} : ∀ (ns : List Int) (vs : List Value), WellAll P h vs (ns.map WData.int) → IntsAre vs ns := by
 intro ns
 induction ns with
 | nil =>
  intro vs w
  rw [List.map_nil] at w
  cases w
  exact .nil
 | cons n ns ih =>
  intro vs w
  rw [List.map_cons] at w
  cases w with
  | cons a b =>
   cases a
   exact .cons _ _ (ih _ b)
theorem script_of {l : OpenLaw} {n : Nat} (hn : l.most = some n) {P : Params} {h : Heap} {args : List WData} {vals : List Value}
  (hpre : l.row.toRowW.claim.pre args = true) (hwl : WellAll P h vals args) :
  ∃ a vs ns, vals = [Value.ref a] ∧ args = [WData.list (ns.map WData.int)] ∧ h.get? a = some { cls := .type "list", data := .seq vs.toArray } ∧ IntsAre vs ns ∧ ns.length ≤ n := by
 have hsh : WShape.hasAll [] args [.list .int] = true := (pre_splitW hpre).1
 have hc : l.pre.holds [] { args := args } = true := (pre_splitW hpre).2
 obtain ⟨d, r, rfl, h1, h2⟩ := hasAllW_cons hsh
 obtain rfl := hasAllW_nil h2
 obtain ⟨xs, rfl, h3⟩ := hasW_list h1
 obtain ⟨ns, rfl⟩ := items_int h3
 have hlen : ns.length ≤ n := by
  unfold OpenLaw.pre at hc
  have h4 : (WTm.not (.lt (.lit (.int (n : Int))) (.len (.arg 0)))).holds [] { args := [.list (ns.map .int)] } = true := by
   have h4 := (holds_andW hc).1
   rw [hn] at h4
   exact h4
  have h5 := condW_of h4 (w_not (w_lt w_lit (w_len_list (w_arg rfl))))
  rw [List.length_map] at h5
  refine Nat.le_of_not_lt fun q => ?_
  have q' : (n : Int) < ((ns.length : Nat) : Int) := by omega
  first
   | (rw [decide_eq_true q'] at h5; exact absurd h5 (by decide))
   | (simp at h5; omega)
 cases hwl with
 | cons w1 w2 =>
  cases w2
  cases w1 with
  | list ho hall => exact ⟨_, _, ns, rfl, rfl, ho, ints_of_wellAll ns _ hall, hlen⟩
theorem post_true (l : OpenLaw) (args : List WData) : l.row.toRowW.claim.post args (.bool true) args = true :=
 postW_of (r := l.row.toRowW) (X := (true == true))
  (show WShape.has [] (.bool true) .bool = true by first | rfl | decide | simp [WShape.has, WShape.arms, WShape.armsAll])
  (show (WTm.eq .res (.lit (.bool true))).value [] { args := args, res := some (.bool true), after := args } = some (.bool (true == true)) from w_eq_bool (w_res rfl) w_lit) rfl
theorem attach_call {l : OpenLaw} {n : Nat} {q : Program} {loose : List Str} {XP : (Str → Option Value) → Heap → Prop} {YP : World → Heap → Prop} {d : DefRec}
  (hn : l.most = some n) (hdf : d.params.defaults = [])
  (call : ∀ (w : World) (s₀ s₁ : Shared) (mg mb : Str → Option Value) (fa : Addr) (o : Obj) (pm cd doc : Value) (a : Addr) (vs : List Value) (ns : List Int),
   Ground q loose [] XP w s₀ mg mb s₁.heap → YP w s₁.heap →
   s₁.heap.get? fa = some o → o.data = .func (docDef d.name d.params d.body d.scope pm cd doc) → s₁.heap.CodeRec cd d.name → mg d.name = some (.ref fa) →
   s₁.heap.get? a = some { cls := .type "list", data := .seq vs.toArray } → IntsAre vs ns → ns.length ≤ n → s₁.gens = #[] →
   codeAny (model l.prog w) callerA (.call (.ref fa) ⟨[.ref a], []⟩) (fun r s' => r = .ok (.ret (.bool true)) ∧ OldK s₁.heap s'.heap ∧ s'.os = s₁.os ∧ AllBare s'.gens) s₁) :
  WalkO q loose XP YP l.row.toRowW d [] (fun f vs => PySem.call f vs) := by
 intro w s₀ s₁ mg mb G Y fa o pm cd doc dV kV ho hd hcd hD hmg hg args vals as hpre hlay hrd hwl hlo
 obtain rfl : dV = .none := Dflts.none hD hdf
 obtain rfl : kV = .none := Dflts.noKw hD
 obtain ⟨a, vs, ns, rfl, rfl, hobj, hints, hlen⟩ := script_of hn hpre hwl
 refine enter_call (codeAny_mono (call w s₀ s₁ mg mb fa o pm cd doc a vs ns G Y ho (fd_plain hd) hcd hmg hobj hints hlen hg) fun r s' hq => ?_)
 obtain ⟨rfl, h2, h3, h4⟩ := hq
 exact ⟨.inl ⟨.bool true, .bool true, [], rfl, fun _ => rfl, .bool true, post_true l _, fun _ => ⟨List.Pairwise.nil, fun _ hm => (nomatch hm)⟩⟩, h2, h3, h4⟩
section
variable {prog : Program} {w : World} {A : Around} {E : Value → Shared → Prop} {s : Shared} {K : Frag}
end
end Att
namespace L2
open PySem PySem.Spec PyProof.Rows
theorem vals_ints : ∀ {vs : List Value} {ns : List Int}, IntsAre vs ns → Vals (ns.map V.int) vs
 | _, _, .nil => .nil
 | _, _, .cons n t h => .cons ⟨t, rfl⟩ (vals_ints h)
def Only (H : Hp) : Prop := ∀ b, H b = none ∨ ∃ o xs, H b = some (.frz o (.lst xs))
theorem law_call {P : Program} {w : World} {K : PySem.W.Frag} {mg mb : Str → Option Value} {CX : CXT} {k : Nat} {fa a : Addr} {fd : FuncData} {x : Str} {sp : Sp} {s₁ : Shared} {vs : List Value} {ns : List Int}
  (KX : K.In s₁.heap) (hns : s₁.heap.Ns mainGlobals mg) (hb : s₁.heap.Ns builtinsNs mb) (hbb : ∀ x : Str, x ≠ "__name__" → mb x = bootBuiltins x) (hlim : s₁.heap.NoLimit) (hg : s₁.gens = #[])
  (ha : s₁.heap.get? a = some { cls := .type "list", data := .seq vs.toArray }) (hi : IntsAre vs ns) (hl : ns.length ≤ sizeLine) (hr : Room k callerA)
  (F : ∀ base : Heap, K.In base → base.Ns mainGlobals mg → FnOk P w K mg base CX k fa fd [x] sp) (hbind : ∀ (s : Shared) (u : Value), BindsTo s fd ⟨[u], []⟩ [(x, u)])
  (hsp : ∀ H : Hp, Only H → SqL K H a (ns.map V.int) → sp [.ref a] H (fun v _ => v = .bl true) fun _ _ _ => False)
  (hCX : ∀ H e s', CX [] H s₁ (fun _ _ _ => False) e s' → False) :
  codeAny (model P w) callerA (.call (.ref fa) ⟨[.ref a], []⟩) (fun r s' => r = .ok (.ret (.bool true)) ∧ OldK s₁.heap s'.heap ∧ s'.os = s₁.os ∧ AllBare s'.gens) s₁ := by
 have rv := vals_ints hi
 have lenV := hi.length
 have core : ∀ H : Hp, Only H → SqL K H a (ns.map V.int) → HOk P w H s₁.heap → (∀ b, H b ≠ none → b = a) → (H a ≠ none → K.lookup a = none) →
   codeAny (model P w) callerA (.call (.ref fa) ⟨[.ref a], []⟩) (fun r s' => r = .ok (.ret (.bool true)) ∧ OldK s₁.heap s'.heap ∧ s'.os = s₁.os ∧ AllBare s'.gens) s₁ := by
  intro H hO hS hok hA hK
  have base_of : ∀ {b : Addr} {o : Obj}, s₁.heap.get? b = some o → H b = none → (hidT s₁.heap H).get? b = some o := fun e n => hidT_get e n
  have noA : ∀ {b : Addr} {o : Obj} {es : Array DictEntry} {ep : Nat}, s₁.heap.get? b = some o → o.data = .dict es ep → H b = none := fun {b o es ep} e d => by
   cases q : H b with
   | none => rfl
   | some u =>
    have e' : b = a := hA b (by rw [q]; simp)
    subst e'
    rw [ha] at e; cases e
    have d' : Data.seq vs.toArray _ = Data.dict es ep := d
    cases d'
  have nsK : ∀ {b : Addr} {m : Str → Option Value}, s₁.heap.Ns b m → (hidT s₁.heap H).Ns b m := fun {b m} ⟨o, es, ep, e, d, r⟩ => ⟨o, es, ep, base_of e (noA e d), d, r⟩
  have hKb : K.In (hidT s₁.heap H) := fun b o e => base_of (KX b o e) (by
   cases q : H b with
   | none => rfl
   | some u =>
    have e' : b = a := hA b (by rw [q]; simp)
    subst e'
    rw [hK (by rw [q]; simp)] at e; cases e)
  have hM : Mod K mg (hidT s₁.heap H) := ⟨hKb, nsK hns, ⟨mb, nsK hb, hbb⟩, let ⟨mc, h1, h2⟩ := hlim; ⟨mc, nsK h1, h2⟩⟩
  have e0 : Env0 P w K mg (hidT s₁.heap H) callerA [] s₁ H := ⟨rfl, hM, fun b o e => of_hidT e, Nat.le_of_eq (hidT_size _ _), trivial, fun b hb => absurd (show b ∈ ([] : List Addr) from hb) (by simp), hok, .of_eq hg⟩
  refine codeAny_mono ((F _ hKb (nsK hns)).run callerA [] s₁ H ⟨[.ref a], []⟩ [.ref a] [.ref a] _ _ hr e0 (hbind s₁ (.ref a)) (.cons rfl .nil) (hsp H hO hS)) fun r s' h => ?_
  cases r with
  | error e => exact (hCX H e s' h).elim
  | ok fl =>
   cases fl with
   | next => exact False.elim h
   | brk => exact False.elim h
   | cont => exact False.elim h
   | ret u =>
    obtain ⟨v, H', os, bare, un, hok', r', q⟩ := h
    have q' : v = .bl true := q
    subst q'
    obtain rfl : u = Value.bool true := r'
    refine ⟨rfl, OldK.of_keep fun b o e => ?_, os, bare⟩
    cases q : H b with
    | none => exact un.keep b o e q (by intro z; exact absurd (show b ∈ ([] : List Addr) from z) (by simp)) (by simp)
    | some u =>
     rcases hO b with z | ⟨ob, xs, z⟩
     ·rw [q] at z; cases z
     ·have z2 := un.frzs b ob _ z
      obtain ⟨e1, _⟩ := hok b _ z
      obtain ⟨e2, _⟩ := hok' b _ z2
      rw [e] at e1; cases e1
      exact e2
 cases hk : K.lookup a with
 | some o =>
  have e := KX a o hk
  rw [ha] at e
  cases e
  refine core (fun _ => none) (fun _ => .inl rfl) (.inr ⟨_, vs.toArray, _, hk, rfl, rfl, rfl, by rw [List.size_toArray, lenV]; exact hl, by simpa using rv⟩) (fun b u z => by have z' : (none : Option HO) = some u := z; cases z') (fun b z => absurd rfl z) fun z => absurd rfl z
 | none =>
  refine core (fun b => if b = a then some (.frz { cls := .type "list", data := .seq vs.toArray } (.lst (ns.map V.int))) else none) (fun b => ?_) (.inl (.inr ⟨{ cls := .type "list", data := .seq vs.toArray }, if_pos rfl⟩)) (fun b u z => ?_) (fun b z => ?_) fun _ => hk
  ·by_cases hb : b = a
   ·exact .inr ⟨_, _, if_pos hb⟩
   ·exact .inl (if_neg hb)
  ·by_cases hb : b = a
   ·have z' := (if_pos hb).symm.trans z
    cases z'
    subst hb
    exact ⟨ha, by rw [List.length_map]; exact hl, vs, _, rv, ha⟩
   ·have z' := (if_neg hb).symm.trans z
    cases z'
  ·by_cases hb : b = a
   ·exact hb
   ·exact absurd (if_neg hb) z
end L2
namespace L2
open PySem PySem.Spec PyProof.Rows
theorem walk_of {l : PySem.W.OpenLaw} {n k : Nat} {q : Program} {loose : List Str} {XP : (Str → Option Value) → Heap → Prop} {YP : World → Heap → Prop} {d : DefRec} {K : Params → PySem.W.Frag} {CX : World → CXT} {sp : World → Sp} {x : Str}
  (hn : l.most = some n) (hn2 : n ≤ sizeLine) (hdf : d.params.defaults = []) (hr : Room k callerA)
  (hY : ∀ (w : World) (h : Heap), YP w h → (K w.params).In h)
  (F : ∀ (w : World) (mg : Str → Option Value) (fa : Addr) (h : Heap), (K w.params).In h → h.Ns mainGlobals mg → mg d.name = some (.ref fa) →
   ∃ fd : FuncData, (∀ (s : Shared) (u : Value), BindsTo s fd ⟨[u], []⟩ [(x, u)]) ∧
    ∀ base : Heap, (K w.params).In base → base.Ns mainGlobals mg → FnOk l.prog w (K w.params) mg base (CX w) k fa fd [x] (sp w))
  (hsp : ∀ (w : World) (H : Hp) (a : Addr) (ns : List Int), ns.length ≤ n → Only H → SqL (K w.params) H a (ns.map V.int) → sp w [.ref a] H (fun v _ => v = .bl true) fun _ _ _ => False)
  (hCX : ∀ (w : World) (H : Hp) (s : Shared) (e : Value) (s' : Shared), CX w [] H s (fun _ _ _ => False) e s' → False) :
  PySem.W.WalkO q loose XP YP l.row.toRowW d [] (fun f vs => PySem.call f vs) := by
 refine Att.attach_call hn hdf fun w s₀ s₁ mg mb fa o pm cd doc a vs ns G Y ho hd hcd hmg hobj hints hlen hg => ?_
 have KX := hY w _ Y
 obtain ⟨fd, hb, hF⟩ := F w mg fa _ KX G.T.g hmg
 exact law_call KX G.T.g G.T.b G.T.builtins G.T.nolimit hg hobj hints (Nat.le_trans hlen hn2) hr hF hb (fun H hO hS => hsp w H a ns hlen hO hS) fun H e s' => hCX w H s₁ e s'
end L2
namespace L2
open PySem PySem.Spec PyProof.Rows
def defArgs (s : Stmt) : Arguments := match s with
 | .FunctionDef _ a _ _ _ _ _ _ _ _ => a
 | _ => { posonlyargs := [], args := [], vararg := none, kwonlyargs := [], kw_defaults := [], kwarg := none, defaults := [] }
def defBody (s : Stmt) : List Stmt := match s with
 | .FunctionDef _ _ b _ _ _ _ _ _ _ => b
 | _ => []
def defScope (s : Stmt) : Scope := match s with
 | .FunctionDef _ _ _ _ _ _ sc _ _ _ => sc
 | _ => { kind := .function, names := [], isGenerator := false, isCoroutine := false }
abbrev CX0 : CXT := fun _ _ _ _ _ _ => False
abbrev E0 : XK := fun _ _ _ => False
theorem pass0 {X : Cx} : Passes CX0 X E0 := fun _ _ _ _ _ _ _ h => h.elim
structure Fun (K : PySem.W.Frag) (x qual : Str) (st : Stmt) (f : Addr) (fd : FuncData) : Prop where
 ex : ∃ (oc : Value) (od : Option Addr) (kV doc pm : Value) (an : Option Addr) (cdv ct : Value) (osl : Array (Option Value)),
  fd = PySem.W.fnOf x qual (defArgs st) (defBody st) (defScope st) .none kV doc pm an cdv ct ∧ K.lookup f = some ⟨oc, od, .func fd, osl⟩ ∧ PySem.W.codeIn K cdv qual = true
 kp : PySem.W.keepIn K (.ref f) = true
section
variable {P : Program} {w : World} {K : PySem.W.Frag} {mg : Str → Option Value} {base : Heap}
theorem Fun.ok {x qual : Str} {st : Stmt} {f : Addr} {fd : FuncData} {N ps : List Str} {k : Nat} {sp : Sp} (F : Fun K x qual st f fd) (S : FnScope N ps (defScope st)) (len : ∀ vs H Q E, sp vs H Q E → vs.length = ps.length)
  (hbody : ∀ (cdv : Value) (A : Around) (outer : List Env) (s : Shared) (H : Hp) (vs : List V) (Q : VK) (E : XK), Room k (A.deeper (envOfC qual (defScope st) s.heap.objs.size f cdv)) → sp vs H Q E →
   ∃ t, PSs (cxOf CX0 P w K mg base N qual (defScope st) f cdv A outer s H E).nox (defBody st) t ∧ t { nx := fun _ H' => Q .non H', rt := Q } (start N vs) H) : FnOk P w K mg base CX0 (k + 1) f fd ps sp := by
 obtain ⟨oc, od, kV, doc, pm, an, cdv, ct, osl, rfl, lk, hcd⟩ := F.ex
 refine fn_of lk hcd S len fun A outer s H vs Q E hr hsp => ?_
 obtain ⟨t, h, q⟩ := hbody cdv A outer s H vs Q E hr hsp
 exact ⟨t, h.nox, q⟩
theorem Fun.binds {x qual : Str} {st : Stmt} {f : Addr} {fd : FuncData} {ps : List Str} (F : Fun K x qual st f fd)
  (h : ∀ (kV doc pm : Value) (an : Option Addr) (cdv ct : Value) (us : List Value), us.length = ps.length → bindArgs (PySem.W.fnOf x qual (defArgs st) (defBody st) (defScope st) .none kV doc pm an cdv ct) ⟨us, []⟩ = pure (ps.zip us)) : Binds K fd ps [] := by
 obtain ⟨oc, od, kV, doc, pm, an, cdv, ct, osl, rfl, lk, hcd⟩ := F.ex
 exact .all (h kV doc pm an cdv ct)
theorem fun_mk {x qual : Str} {st : Stmt} {f : Addr} {oc : Value} {od an : Option Addr} {osl : Array (Option Value)} {kV doc pm cdv ct : Value} (l : K.lookup f = some ⟨oc, od, .func (PySem.W.fnOf x qual (defArgs st) (defBody st) (defScope st) .none kV doc pm an cdv ct), osl⟩)
  (c : PySem.W.codeIn K cdv qual = true) (k : PySem.W.keepIn K (.ref f) = true) : Fun K x qual st f (PySem.W.fnOf x qual (defArgs st) (defBody st) (defScope st) .none kV doc pm an cdv ct) := ⟨⟨oc, od, kV, doc, pm, an, cdv, ct, osl, rfl, l, c⟩, k⟩
end
theorem small1000 {n : Nat} (h : n ≤ 1000) : n < sizeLine := Nat.lt_of_le_of_lt h (by decide)
section
variable {X : Cx}
end
def Same (H H' : Hp) : Prop := ∀ b o, H b = some o → H' b = some o
theorem Same.refl (H : Hp) : Same H H := fun _ _ h => h
theorem Same.trans {H H1 H2 : Hp} (a : Same H H1) (b : Same H1 H2) : Same H H2 := fun c o h => b c o (a c o h)
theorem Same.free {H H' : Hp} (e : Same H H') {l : Addr} (h : H' l = Option.none) : H l = Option.none := by
 cases q : H l with
 | none => rfl
 | some o =>
  rw [e l o q] at h
  cases h
theorem Same.seq {K : PySem.W.Frag} {H H' : Hp} {a : Addr} {xs : List V} (e : Same H H') (h : SqL K H a xs) : SqL K H' a xs := by
 rcases h with (h | ⟨o, h⟩) | h
 ·exact .inl (.inl (e _ _ h))
 ·exact .inl (.inr ⟨o, e _ _ h⟩)
 ·exact .inr h
end L2
set_option maxHeartbeats 4000000
namespace L2
open PySem PySem.Spec PyProof.Rows
section
variable {X : Cx}
def rSlS : V → Option Int → Option Int → Hp → VK → Prop := fun x lo hi H Q => ∃ z, x = .str z ∧ z.length ≤ sizeLine ∧ Q (.str (Txt.slice z lo hi)) H
theorem sl_str : SlR X rSlS := by
 intro pins s σ H x v vl vu lo hi sl Q I rx hs pl pu h
 obtain ⟨z, rfl, hz, q⟩ := h
 obtain ⟨t, rfl⟩ := rx
 refine ⟨"str", _, F.slot_str_getitem.lookup, typeIs_str _ _ _, ?_⟩
 obtain ⟨o, ho, hc, hd⟩ := hs
 have fin : ∀ t' k, EP X pins σ Q (.str (Txt.slice z lo hi) t') { s with toks := k } := fun t' k => ⟨.str _, H, I.tok k, ⟨t', rfl⟩, q⟩
 cases pl with
 | none =>
  cases pu with
  | none => exact wpAny_getItem_str_slice (l := none) (u := none) (st := none) ⟨o, ho, hc, hd⟩ rfl (post_val_or_str ⟨Nat.le_trans (Txt.slice_le z _ _) hz, fin⟩)
  | int j uj => exact wpAny_getItem_str_slice (l := none) (u := some (j, uj)) (st := none) ⟨o, ho, hc, hd⟩ rfl (post_val_or_str ⟨Nat.le_trans (Txt.slice_le z _ _) hz, fin⟩)
 | int i ui =>
  cases pu with
  | none => exact wpAny_getItem_str_slice (l := some (i, ui)) (u := none) (st := none) ⟨o, ho, hc, hd⟩ rfl (post_val_or_str ⟨Nat.le_trans (Txt.slice_le z _ _) hz, fin⟩)
  | int j uj => exact wpAny_getItem_str_slice (l := some (i, ui)) (u := some (j, uj)) (st := none) ⟨o, ho, hc, hd⟩ rfl (post_val_or_str ⟨Nat.le_trans (Txt.slice_le z _ _) hz, fin⟩)
end
def Its (x : Str) : It := ⟨fun i _ => i < x.cps.size, fun i H v H' => H' = H ∧ ∃ c, x.cps[i]? = some c ∧ v = .str ⟨#[c]⟩, fun i _ => x.cps.size ≤ i⟩
theorem turn_str {P : Program} {w : World} {K : PySem.W.Frag} {x : Str} {y : Str} {py : Pos} {it : Addr} {St : Nat → Heap → Prop}
  (W : ∀ A' : Around, A'.handled = none → Walks P w A' it [it] [it] x.cps.size (SignAt x) St) (hobj : ∀ i h, St i h → ∃ o, h.get? it = some o ∧ ∀ v, o.data ≠ .cell v) (W0 : ∀ (A : Around) (i : Nat) (s : Shared) (Q : Value → Shared → Prop) (E : Value → Shared → Prop), St i s.heap → Q (.ref it) s → wpAny (model P w) A (pyIter (.ref it)) Q E s) :
  Turn P w K (.Name y py) (Its x) [it] it (fun i h => i ≤ x.cps.size ∧ St i h) where
 mem := by simp
 obj := fun i h st b hb => by
  have e : b = it := by simpa using hb
  subst e
  exact hobj i h st.2
 keep := fun i h h' st k => ⟨st.1, (W { } rfl).frame i h h' st.2 k⟩
 item := by
  intro X hP hw hK hc i pins s σ H E I hf st hg
  subst hP hw hK
  obtain ⟨f0, f1, f2, f3, f4, f5⟩ := hf it (by simp)
  refine (W X.A (I.ok.hd hc)).item i s _ _ hg st.2 fun v h' tk hv st' kk => ?_
  obtain ⟨c, u, hcx, rfl⟩ := hv
  have I1 : Inv X pins σ H { s with heap := h', toks := tk } := I.turned (fun b o hb e => kk b o (by simpa using hb) e) f0 f1 f3 f4 f5
  exact ⟨_, rfl, wpAny_pure ⟨.str ⟨#[c]⟩, H, I1, ⟨u, rfl⟩, ⟨rfl, c, hcx, rfl⟩, ⟨hg, st'⟩, fun b hb => (hf b hb).1⟩⟩
 done := by
  intro X hP hw hK hc i pins s σ H E I hf st hg
  subst hP hw hK
  obtain ⟨f0, f1, f2, f3, f4, f5⟩ := hf it (by simp)
  have e : i = x.cps.size := Nat.le_antisymm st.1 hg
  subst e
  exact (W X.A (I.ok.hd hc)).done s _ _ st.2 fun h' tk kk => ⟨rfl, I.turned (fun b o hb e => kk b o (by simpa using hb) e) f0 f1 f3 f4 f5⟩
 self := fun A i s Q E st h => W0 A i s Q E st.2 h
section
variable {X : Cx}
end
end L2
namespace L2
open PySem PySem.Spec PyProof.Rows
def clOf (env : Env) : List (Str × NameKind) → List (Str × Addr) → List (Str × Addr)
 | [], acc => acc
 | (n, k) :: r, acc => if k = .free then clOf env r ((n, (env.cells.lookup n).getD 0) :: acc) else clOf env r acc
theorem clos_loop (env : Env) : ∀ (l : List (Str × NameKind)) (acc : List (Str × Addr)), (∀ y ∈ l, y.2 = .free → (env.cells.lookup y.1).isSome = true) →
  (forIn l acc fun (x : Str × NameKind) (cs : List (Str × Addr)) => (if (x.2 == NameKind.free) = true then (cellOf env x.1 >>= fun a => (pure (ForInStep.yield ((x.1, a) :: cs)) : Sem _)) else pure (ForInStep.yield cs))) = (pure (clOf env l acc) : Sem _)
 | [], acc, _ => by rw [List.forIn_nil]; rfl
 | (n, k) :: r, acc, h => by
  rw [List.forIn_cons]
  have hr := fun acc' => clos_loop env r acc' (fun y hy => h y (List.mem_cons_of_mem _ hy))
  by_cases hk : k = .free
  ·subst hk
   obtain ⟨a, ha⟩ := Option.isSome_iff_exists.mp (h (n, .free) List.mem_cons_self rfl)
   have e1 : cellOf env n = pure a := by unfold cellOf; rw [ha]
   have e2 : clOf env ((n, NameKind.free) :: r) acc = clOf env r ((n, a) :: acc) := by
    show (if NameKind.free = NameKind.free then clOf env r ((n, (env.cells.lookup n).getD 0) :: acc) else _) = _
    rw [if_pos rfl, ha]; rfl
   rw [e2]
   have q := hr ((n, a) :: acc)
   rw [← q]
   show ((cellOf env n >>= fun a => (pure (ForInStep.yield ((n, a) :: acc)) : Sem _)) >>= _) = _
   rw [e1]
   rfl
  ·have hb : (k == NameKind.free) = false := by simpa using hk
   have e2 : clOf env ((n, k) :: r) acc = clOf env r acc := by
    show (if k = NameKind.free then _ else clOf env r acc) = _
    rw [if_neg hk]
   rw [e2]
   have q := hr acc
   rw [← q]
   show ((if (k == NameKind.free) = true then _ else _) >>= _) = _
   rw [hb]
   rfl
theorem clos_eq {scope : Scope} {env : Env} (h : ∀ y ∈ scope.names, y.2 = .free → (env.cells.lookup y.1).isSome = true) : closureFor scope env = pure (clOf env scope.names []) := by
 have q := clos_loop env scope.names [] h
 unfold closureFor
 rw [← bind_pure (forIn scope.names [] _)] at q
 first
  | exact q
  | (simp only [bind_pure] at q ⊢; exact q)
theorem clOf_sub (env : Env) : ∀ (l : List (Str × NameKind)) (acc : List (Str × Addr)), (∀ y ∈ l, y.2 = .free → (env.cells.lookup y.1).isSome = true) → (∀ y c, acc.lookup y = some c → env.cells.lookup y = some c) →
  ∀ y c, (clOf env l acc).lookup y = some c → env.cells.lookup y = some c
 | [], acc, _, ha, y, c, h => ha y c h
 | (n, k) :: r, acc, hl, ha, y, c, h => by
  have hl' : ∀ y ∈ r, y.2 = .free → (env.cells.lookup y.1).isSome = true := fun y hy => hl y (List.mem_cons_of_mem _ hy)
  by_cases hk : k = .free
  ·have e : clOf env ((n, k) :: r) acc = clOf env r ((n, (env.cells.lookup n).getD 0) :: acc) := by
    show (if k = NameKind.free then _ else _) = _
    rw [if_pos hk]
   rw [e] at h
   refine clOf_sub env r _ hl' (fun z d hz => ?_) y c h
   rw [List.lookup_cons] at hz
   split at hz
   ·rename_i hzn
    have en : z = n := by simpa using hzn
    cases hz
    obtain ⟨a, ha'⟩ := Option.isSome_iff_exists.mp (hl (n, k) List.mem_cons_self hk)
    rw [en, ha']; rfl
   ·exact ha z d hz
  ·have e : clOf env ((n, k) :: r) acc = clOf env r acc := by
    show (if k = NameKind.free then _ else _) = _
    rw [if_neg hk]
   rw [e] at h
   exact clOf_sub env r _ hl' ha y c h
theorem clOf_has (env : Env) : ∀ (l : List (Str × NameKind)) (acc : List (Str × Addr)) (y : Str), (acc.lookup y).isSome = true ∨ (y, NameKind.free) ∈ l → ∃ c, (clOf env l acc).lookup y = some c
 | [], acc, y, h => by
  rcases h with h | h
  ·exact Option.isSome_iff_exists.mp h
  ·cases h
 | (n, k) :: r, acc, y, h => by
  by_cases hk : k = .free
  ·have e : clOf env ((n, k) :: r) acc = clOf env r ((n, (env.cells.lookup n).getD 0) :: acc) := by
    show (if k = NameKind.free then _ else _) = _
    rw [if_pos hk]
   rw [e]
   refine clOf_has env r _ y ?_
   rcases h with h | h
   ·left
    rw [List.lookup_cons]
    split
    ·rfl
    ·exact h
   ·rcases List.mem_cons.mp h with h | h
    ·left
     cases h
     rw [List.lookup_cons]
     simp
    ·exact .inr h
  ·have e : clOf env ((n, k) :: r) acc = clOf env r acc := by
    show (if k = NameKind.free then _ else _) = _
    rw [if_neg hk]
   rw [e]
   refine clOf_has env r _ y ?_
   rcases h with h | h
   ·exact .inl h
   ·rcases List.mem_cons.mp h with h | h
    ·cases h; exact absurd rfl hk
    ·exact .inr h
theorem relabel_mem {scope : Scope} {env : Env} {y : Str} {k : NameKind} (h : (relabel scope env).names.lookup y = some k) : (y, k) ∈ scope.names ∨ (y, NameKind.free) ∈ scope.names := by
 have m := PySem.mem_of_lookup h
 obtain ⟨⟨n, k'⟩, hm, e⟩ := List.mem_map.mp (show (y, k) ∈ scope.names.map _ from m)
 dsimp only at e
 split at e
 ·rename_i hc
  cases e
  simp only [Bool.and_eq_true, beq_iff_eq] at hc
  right
  rw [← hc.1.1]
  exact hm
 ·cases e
  exact .inl hm
structure CompSc (X : Cx) (scope : Scope) (x : Str) (cl : List (Str × Addr)) (N : List Str) (cap : List Nat) : Prop where
 clos : closureFor scope X.env = pure cl
 cell : ∀ y ∈ scope.names, y.2 ≠ .cell
 kind : scope.kind = .function
 names : ∀ y ∈ scope.names, y.2 = .local → scope.names.lookup y.1 = some .local
 loc : scope.names.lookup x = some .local
 nd : N.Nodup
 n0 : N[0]? = some x
 len : N.length = cap.length + 1
 capN : ∀ (k j : Nat), cap[k]? = some j → N[k + 1]? = X.N[j]?
 out : ∀ (k : Nat) (y : Str), N[k + 1]? = some y → X.env.kindOf y = some .cell ∨ X.env.kindOf y = some .free
 inn : ∀ (k : Nat) (y : Str), N[k + 1]? = some y → (relabel scope X.env).names.lookup y = some .cell ∨ (relabel scope X.env).names.lookup y = some .free
 sub : ∀ y c, cl.lookup y = some c → X.env.cells.lookup y = some c
 has : ∀ y, ((relabel scope X.env).names.lookup y = some .cell ∨ (relabel scope X.env).names.lookup y = some .free) → ∃ c, cl.lookup y = some c
def cxComp (X : Cx) (scope : Scope) (cl : List (Str × Addr)) (C : Addr) (N : List Str) (s : Shared) (H : Hp) (ex : List Addr) : Cx where
 prog := X.prog
 w := X.w
 K := X.K
 mg := X.mg
 base := X.base
 A := X.A
 N := N
 s₀ := s
 H₀ := H
 env := compEnvC scope cl C X.env
 outer := X.stack
 stack := X.stack
 ex := ex
 calm := X.calm
 fn := fun _ => false
 pn := []
 xe := fun _ _ => False
def capS (cap : List Nat) (σ : St) (x : Option V) : St := x :: cap.map fun j => (σ[j]?).getD none
section
variable {X : Cx} {pins : List (Addr × Obj)} {σ : St} {H : Hp} {s : Shared} {scope : Scope} {x : Str} {cl : List (Str × Addr)} {N : List Str} {cap : List Nat} {C : Addr} {fp : List Addr}
theorem cxComp_ok (S : CompSc X scope x cl N cap) (I : Inv X pins σ H s) (hC : s.heap.objs.size ≤ C) (hfp : ∀ b ∈ fp, FpOk X pins H b ∧ b < s.heap.objs.size) : (cxComp X scope cl C N s H fp).Ok where
 mod := I.ok.mod
 kind := S.kind
 glob := I.ok.glob
 blt := I.ok.blt
 above := hC
 inj := fun y z c h1 h2 => I.ok.inj y z c (S.sub y c h1) (S.sub z c h2)
 has := fun y h => S.has y h
 cab := fun y c h => by cases h
 hd := I.ok.hd
 frames := I.ok.frames
 stk := .inl rfl
 exf := fun b hb => ⟨Nat.ne_of_lt (Nat.lt_of_lt_of_le (hfp b hb).2 hC), fun y c h => (hfp b hb).1.2.2.2.2.1 y c (S.sub y c h)⟩
 bs := I.bs
 bsz := Nat.le_trans I.ok.bsz I.sz
 noex := fun b o e hb => by
  rcases (hfp b hb).1.2.2.2.1 with z | z
  ·exact I.ok.noex b o e z
  ·exact absurd (Nat.lt_of_lt_of_le (Heap.lt_size e) (Nat.le_trans I.ok.bsz z)) (Nat.lt_irrefl _)
 exfs := fun b hb z => by
  rcases List.mem_cons.mp (I.stkSub b z) with e | e
  ·exact (hfp b hb).1.2.1 e
  ·exact (hfp b hb).1.2.2.1 e
 funs := I.stack
 frf := I.stkFree
theorem comp_start {h₁ : Heap} {tk : Nat} {m : Str → Option Value} (S : CompSc X scope x cl N cap) (I : Inv X pins σ H s) (hC : s.heap.objs.size ≤ C) (hfp : ∀ b ∈ fp, FpOk X pins H b ∧ b < s.heap.objs.size)
  (hns : h₁.Ns C m) (old : ∀ b o, s.heap.get? b = some o → h₁.get? b = some o) : Inv (cxComp X scope cl C N s H fp) [] (capS cap σ none) H { s with heap := h₁, toks := tk } := by
 refine ⟨cxComp_ok S I hC hfp, rfl, I.bare, Un.kept old, ⟨m, hns, fun i y v h1 h2 h3 => ?_⟩, fun y c h => ?_, I.hok.fresh hC, fun y c h => I.freeC y c (S.sub y c h), fun p hp => absurd (show p ∈ ([] : List (Addr × Obj)) from hp) (by simp), I.hok.kept old, ?_⟩
 ·cases i with
  | zero => exact absurd h2 (by simp [capS])
  | succ k =>
   have h2' : (cap.map fun j => (σ[j]?).getD none)[k]? = some (some v) := by simpa [capS] using h2
   rw [List.getElem?_map] at h2'
   cases ej : cap[k]? with
   | none => rw [ej] at h2'; cases h2'
   | some j =>
    rw [ej] at h2'
    have e1 : (σ[j]?).getD none = some v := by simpa using h2'
    have e2 : σ[j]? = some (some v) := by
     cases q : σ[j]? with
     | none => rw [q] at e1; cases e1
     | some z => rw [q] at e1; exact congrArg some e1
    have e3 : X.N[j]? = some y := (S.capN k j ej).symm.trans h1
    obtain ⟨m2, hn2, hl⟩ := I.loc
    have ko := S.out k y h1
    have vis : Vis X.env.scope y := .inr ko
    obtain ⟨u, ru, lk⟩ := hl j y v e3 e2 vis
    refine ⟨u, ru, .inr ⟨S.inn k y h1, ?_⟩⟩
    rcases lk with ⟨kl, _⟩ | ⟨_, c, hc, cell⟩
    ·rcases ko with z | z <;> (rw [z] at kl; cases kl)
    ·obtain ⟨c', hc'⟩ := S.has y (S.inn k y h1)
     have e4 := S.sub y c' hc'
     rw [hc] at e4
     cases e4
     obtain ⟨o, ho, hd⟩ := cell
     exact ⟨c, hc', o, old c o ho, hd⟩
 ·obtain ⟨v, o, ho, hd⟩ := I.cell y c (S.sub y c h)
  exact ⟨v, o, old c o ho, hd⟩
 ·show (capS cap σ none).length = N.length
  rw [S.len]
  simp [capS]
end
def PTs (X : Cx) (ifs : List Expr) (t : TT) : Prop :=
 ∀ (pins : List (Addr × Obj)) (s : Shared) (σ : St) (H : Hp) (Q : Bool → Hp → Prop), Inv X pins σ H s → t σ H Q →
  wpAny (model X.prog X.w) X.A (forIn ifs true fun c r => if r = true then do let ok ← isTrue c X.env (eval c X.env); pure (ForInStep.yield ok) else pure (ForInStep.yield r)) (TP X pins σ Q) X.xe s
def tYes : TT := fun _ H Q => Q true H
theorem pts_nil {X : Cx} : PTs X [] tYes := fun _ _ _ H _ I h => wpAny_tests_nil ⟨H, I, h⟩
theorem pts_one {X : Cx} {c : Expr} {t : TT} (h : PT X c t) : PTs X [c] t := fun pins s σ H Q I hq => wpAny_tests_one (h pins s σ H Q I hq)
def CompW (cap : List Nat) (tt : TT) (te : TE) (σ : St) (P : List V → Hp → Prop) (J : It) (H1 : Hp) : Prop :=
  ∃ W : Nat → Nat → List V → Hp → Prop, (∃ m, W 0 m [] H1) ∧ ∀ i m ys H, W i m ys H → ys.length < sizeLine ∧
    ((J.stop i H ∧ P ys H) ∨
     (J.go i H ∧ ∀ v H', J.yld i H v H' → tt (capS cap σ (some v)) H' fun b H2 => if b = true then te (capS cap σ (some v)) H2 fun y H3 => ∃ m', m' < m ∧ W (i + 1) m' (ys ++ [y]) H3 else ∃ m', m' < m ∧ W (i + 1) m' ys H2))
def tComp (wi : TI) (cap : List Nat) (tt : TT) (te : TE) : TE := fun σ H Q => wi σ H (CompW cap tt te σ fun ys H2 => ∀ p, H2 p = none → Q (.ref p) (upd H2 p (.lst ys)))
abbrev lstO (ys : List Value) (n : Nat) : Obj := { cls := .type "list", data := .seq ys.toArray n }
theorem Un.track {fs ex : List Addr} {H H' : Hp} {h h1 : Heap} {a : Addr} {o : HO} (u : Un fs ex H H' h h1) (ha : h.objs.size ≤ a) (hn : H' a = none) : Un fs ex H (upd H' a o) h h1 where
 keep := u.keep
 slot := u.slot
 free := fun b ob e n hx => by rw [upd_ne (Nat.ne_of_lt (Nat.lt_of_lt_of_le (Heap.lt_size e) ha))]; exact u.free b ob e n hx
 there := u.there
 tups := fun b xs e => by have q := u.tups b xs e; rw [upd_ne (ne_of_none q hn)]; exact q
 frzs := fun b ob v e => by have q := u.frzs b ob v e; rw [upd_ne (ne_of_none q hn)]; exact q
 tbls := fun b ps e => by obtain ⟨more, q⟩ := u.tbls b ps e; exact ⟨more, by rw [upd_ne (ne_of_none q hn)]; exact q⟩
theorem HOk.track {P : Program} {w : World} {H : Hp} {h : Heap} {a : Addr} {o : HO} (x : HOk P w H h) (hn : H a = none) (new : ObjOk P w (upd H a o) h a o) : HOk P w (upd H a o) h := fun b u e => by
 by_cases hb : b = a
 ·subst hb; rw [upd_same] at e; cases e; exact new
 ·rw [upd_ne hb] at e
  exact (x b u e).stay (fun c v _ q => q) (fun c q => by rw [upd_ne (ne_of_none q hn)]; exact q) fun c xs q => by rw [upd_ne (ne_of_none q hn)]; exact q
section
variable {X : Cx} {pins : List (Addr × Obj)} {σ : St} {scope : Scope} {x : Str} {px pos : Pos} {cl : List (Str × Addr)} {N : List Str} {cap : List Nat} {elt iter : Expr} {ifs : List Expr} {tt : TT} {te : TE} {E : Value → Shared → Prop}
theorem comp_core {P : List V → Hp → Prop} {RR : Value → Addr → Result → Shared → Prop} {H2 : Hp} {s2 : Shared} {it : Addr} {fp : List Addr} {tn : Nat → Heap → Prop} {J : It} (hc : X.calm = true) (S : CompSc X scope x cl N cap)
  (ht : ∀ C s H ex, PTs (cxComp X scope cl C N s H ex) ifs tt) (he : ∀ C s H ex, PE (cxComp X scope cl C N s H ex) elt te)
  (I2 : Inv X pins σ H2 s2) (T : Turn X.prog X.w X.K (.Name x px) J fp it tn) (st2 : tn 0 s2.heap) (f2 : ∀ b ∈ fp, FpOk X pins H2 b) (h : CompW cap tt te σ P J H2)
  (hRR : ∀ (D C : Addr) (s4 : Shared) (ys : List V) (H3 : Hp) (oC : Obj) (m : Str → Option Value), Inv X (pins ++ [(C, oC)]) σ (upd H3 D (.lst ys)) s4 → (∀ h : Heap, h.get? C = some oC → h.Ns C m) → FpOk X pins (upd H3 D (.lst ys)) C → H3 D = none → P ys H3 → RR (.ref D) C (.ok .next) s4) :
  wpAny (model X.prog X.w) X.A (newList []) (fun acc s₃ => wpAny (model X.prog X.w) X.A (newFunctionEnv scope X.env.globals cl [] X.env.qual none .none (some X.env)) (fun cenv s₄ =>
   codeAny (model X.prog X.w) X.A (.compStart (.ListComp elt [⟨.Name x px, iter, ifs, 0⟩] scope pos) 0 (.ref it) acc { cenv with scope := relabel scope X.env }) (RR acc cenv.locals) s₄) E s₃) E s2 := by
 obtain ⟨W, ⟨m0, w0⟩, turn⟩ := h
 refine wpAny_newObj_type (wpAny_newFunctionEnv S.cell (by intro y hy; simp at hy) (fun h₁ hns₁ hsb₁ => ?_) S.kind)
 dsimp only at hns₁ hsb₁ ⊢
 generalize hG : s2.heap.push { cls := .type "list", dict := none, data := .seq ([] : List Value).toArray } = G at hns₁ hsb₁ ⊢
 have hC : G.objs.size = s2.heap.objs.size + 1 := by rw [← hG, Heap.size_push]
 have hDC : s2.heap.objs.size ≠ G.objs.size := by rw [hC]; exact Nat.ne_of_lt (Nat.lt_succ_self _)
 have hCle : s2.heap.objs.size ≤ G.objs.size := by rw [hC]; exact Nat.le_succ _
 have old : ∀ b o, s2.heap.get? b = some o → h₁.get? b = some o := fun b o e => by
  have hb := Heap.lt_size e
  exact hsb₁.extBut b o (by rw [hC]; exact Nat.ne_of_lt (Nat.lt_succ_of_lt hb)) (Heap.get?_push_of_some _ (hG ▸ Heap.get?_push_of_some _ e))
 have hacc : h₁.get? s2.heap.objs.size = some (lstO [] 0) := hsb₁.extBut _ _ hDC (Heap.get?_push_of_some _ (hG ▸ Heap.get?_push_size _ rfl))
 have flt : ∀ b ∈ fp, b < s2.heap.objs.size := fun b hb => by obtain ⟨o, e, _⟩ := T.obj 0 _ st2 b hb; exact Heap.lt_size e
 have fp2 : ∀ b ∈ fp, FpOk X pins H2 b ∧ b < s2.heap.objs.size := fun b hb => ⟨f2 b hb, flt b hb⟩
 have st1 : tn 0 h₁ := T.keep _ _ _ st2 fun b _ o e => old b o e
 have fD2 : H2 s2.heap.objs.size = none := I2.hok.fresh (Nat.le_refl _)
 have nDx : ∀ y c, X.env.cells.lookup y = some c → c ≠ s2.heap.objs.size ∧ c ≠ G.objs.size := fun y c e => by
  obtain ⟨v, q⟩ := I2.cell y c e
  have := q.lt
  exact ⟨Nat.ne_of_lt this, by rw [hC]; exact Nat.ne_of_lt (Nat.lt_succ_of_lt this)⟩
 have nPx : ∀ p ∈ X.pn ++ pins, p.1 < s2.heap.objs.size := fun p hp => Heap.lt_size (I2.pin p hp).1
 have fpB : ∀ {H' : Hp} {pl : List (Addr × Obj)}, (∀ b ∈ fp, H' b = none) → (∀ p ∈ pl, p.1 = s2.heap.objs.size) → ∀ b ∈ fp, FpOk (cxComp X scope cl G.objs.size N s2 H2 fp) pl H' b := fun {H' pl} hn hp b hb => by
  refine ⟨hn b hb, Nat.ne_of_lt (Nat.lt_of_lt_of_le (flt b hb) hCle), fun z => ?_, .inl hb, fun y c e => (f2 b hb).2.2.2.2.1 y c (S.sub y c e), fun p hq z => ?_⟩
  ·rcases List.mem_cons.mp (I2.stkSub b z) with e | e
   ·exact (f2 b hb).2.1 e
   ·exact (f2 b hb).2.2.1 e
  ·have e1 : p.1 = s2.heap.objs.size := hp p (by simpa [cxComp] using hq)
   rw [e1] at z
   exact absurd (flt b hb) (by rw [← z]; exact Nat.lt_irrefl _)
 have nDfs : s2.heap.objs.size ∉ frs X.stack := fun z => by
  rcases List.mem_cons.mp (I2.stkSub _ z) with e | e
  ·exact absurd I2.lt (by rw [← e]; exact Nat.lt_irrefl _)
  ·exact I2.nofs (Nat.le_refl _) e
 have pinD : ∀ {σ' : St} {H' : Hp} {s' : Shared} {ob : Obj}, Inv (cxComp X scope cl G.objs.size N s2 H2 fp) [] σ' H' s' → s'.heap.get? s2.heap.objs.size = some ob → (∀ v, ob.data ≠ .cell v) → H' s2.heap.objs.size = none →
   Inv (cxComp X scope cl G.objs.size N s2 H2 fp) [(s2.heap.objs.size, ob)] σ' H' s' := fun {σ' H' s' ob} J' e d n => J'.pins_of fun p hp => by
  have e1 : p = (s2.heap.objs.size, ob) := by simpa using hp
  subst e1
  exact ⟨e, n, hDC, nDfs, d⟩
 have nocell : ∀ (ys : List Value) (n : Nat) v, (lstO ys n).data ≠ .cell v := fun ys n v z => by cases (show Data.seq ys.toArray n = Data.cell v from z)
 have loop : ∀ s₃ : Shared, s₃ = { s2 with heap := h₁, toks := s2.toks + ([] : List (Str × Value)).length } →
   codeAny (model X.prog X.w) X.A (.compLoop (.ListComp elt [⟨.Name x px, iter, ifs, 0⟩] scope pos) 0 (.ref it) (.ref s2.heap.objs.size) (compEnvC scope cl G.objs.size X.env)) (RR (.ref s2.heap.objs.size) G.objs.size) s₃ := by
  rintro s₃ rfl
  refine codeAny_compLoop_tests
   (fun n s' => ∃ i ys vs e H' a, Inv (cxComp X scope cl G.objs.size N s2 H2 fp) [(s2.heap.objs.size, lstO vs e)] (capS cap σ a) H' s' ∧ tn i s'.heap ∧ (∀ b ∈ fp, H' b = none) ∧ Vals ys vs ∧ H' s2.heap.objs.size = none ∧ W i n ys H') ?_ m0
   ⟨0, [], [], 0, H2, none, pinD (comp_start S I2 hCle fp2 hns₁ old) hacc (nocell _ _) fD2, st1, fun b hb => (f2 b hb).1, .nil, fD2, w0⟩
  rintro n s3 ⟨i, ys, vs, e, H3, a, I3, st3, fr3, rel3, fD3, w3⟩
  obtain ⟨hlen, hcase⟩ := turn i n ys H3 w3
  have pl1 : ∀ p ∈ [(s2.heap.objs.size, lstO vs e)], p.1 = s2.heap.objs.size := fun p hp => by
   have e1 : p = (s2.heap.objs.size, lstO vs e) := by simpa using hp
   rw [e1]
  rcases hcase with ⟨stop, fin⟩ | ⟨go, step⟩
  ·refine wpAny_mono (T.done (cxComp X scope cl G.objs.size N s2 H2 fp) rfl rfl rfl hc i _ s3 _ H3 (fun _ _ => False) I3 (fpB fr3 pl1) st3 stop) (fun r s4 ⟨hr, I4⟩ => ?_) fun _ _ z => z.elim
   subst hr
   obtain ⟨hD4, hDn, _, _, _⟩ := I4.pin (s2.heap.objs.size, lstO vs e) (by simp [cxComp])
   have un4 : Un (frs X.stack) fp H2 H3 s2.heap s4.heap := I4.base
   have un5 : Un (frs X.stack) fp H2 (upd H3 s2.heap.objs.size (.lst ys)) s2.heap s4.heap := un4.track (Nat.le_refl _) hDn
   have ok5 : HOk X.prog X.w (upd H3 s2.heap.objs.size (.lst ys)) s4.heap := HOk.track I4.hok hDn ⟨Nat.le_of_lt hlen, vs, e, rel3, hD4⟩
   have I5 : Inv X pins σ (upd H3 s2.heap.objs.size (.lst ys)) s4 := I2.call' I4.os un5 ok5 I4.bare fun b hb => ⟨(f2 b hb).2.2.2.1, (f2 b hb).2.1, (f2 b hb).2.2.2.2.1, (f2 b hb).2.2.2.2.2⟩
   obtain ⟨m, hnC, _⟩ := I4.loc
   have hnC' : s4.heap.Ns G.objs.size m := hnC
   obtain ⟨oC, es, ep, hoC, hdC, hrC⟩ := id hnC'
   have hHC : (upd H3 s2.heap.objs.size (.lst ys)) G.objs.size = none := by
    rw [upd_ne (Ne.symm hDC)]
    exact I4.free
   have fC : FpOk X pins (upd H3 s2.heap.objs.size (.lst ys)) G.objs.size := by
    refine ⟨hHC, Nat.ne_of_gt (Nat.lt_of_lt_of_le I2.lt hCle), I2.nofs hCle, .inr (Nat.le_trans I2.sz hCle), fun y c q => (nDx y c q).2, fun p hp z => ?_⟩
    have := nPx p hp
    rw [z] at this
    exact absurd (Nat.lt_of_lt_of_le this hCle) (Nat.lt_irrefl _)
   refine hRR s2.heap.objs.size G.objs.size s4 ys H3 oC m (I5.pins_of fun p hp => ?_) (fun h q => ⟨oC, es, ep, q, hdC, hrC⟩) fC hDn fin
   rcases List.mem_append.mp hp with hp | hp
   ·exact I5.pin p (List.mem_append_right _ hp)
   ·have e1 : p = (G.objs.size, oC) := by simpa using hp
    subst e1
    exact ⟨hoC, hHC, fC.2.1, fC.2.2.1, fun v z => by rw [hdC] at z; cases z⟩
  ·refine wpAny_mono (T.item (cxComp X scope cl G.objs.size N s2 H2 fp) rfl rfl rfl hc i _ s3 _ H3 (fun _ _ => False) I3 (fpB fr3 pl1) st3 go) (fun r s4 ⟨u, hr, h4⟩ => ?_) fun _ _ z => z.elim
   subst hr
   show wpAny _ _ (letOwnedTupleGo (.Name x px) (.ref it) u >>= fun _ => assign (.Name x px) (compEnvC scope cl G.objs.size X.env) u) _ _ s4
   refine wpAny_bind (wpAny_mono h4 (fun _ s5 ⟨v, H5, I5, r5, y5, st5, fr5⟩ => ?_) fun _ _ z => z.elim)
   have I5' := I5.pinned (fpB fr5 pl1) (T.obj _ _ st5)
   have hloc : (cxComp X scope cl G.objs.size N s2 H2 fp).env.scope.names.lookup x = some .local := lookup_relabel_local S.loc
   refine wpAny_mono (pg_name (X := cxComp X scope cl G.objs.size N s2 H2 fp) (i := 0) (pos := px) S.nd S.n0 (.inl hloc) (.inr hloc) _ s5 _ H5 v u (fun σ6 H6 => σ6 = capS cap σ (some v) ∧ H6 = H5) I5' r5 ⟨rfl, rfl⟩) (fun _ s6 ⟨σ6, H6, I6, e6, e6'⟩ => ?_) fun _ _ z => z.elim
   subst e6 e6'
   refine wpAny_mono (ht _ _ _ _ _ s6 _ H6 _ I6 (step v H6 y5)) (fun ok s7 ⟨H7, I7, q7⟩ => ?_) fun _ _ z => z.elim
   have after : ∀ {H8 : Hp} {s8 : Shared}, Inv (cxComp X scope cl G.objs.size N s2 H2 fp) ([(s2.heap.objs.size, lstO vs e)] ++ pinsAt fp s5.heap) (capS cap σ (some v)) H8 s8 →
     tn (i + 1) s8.heap ∧ (∀ b ∈ fp, H8 b = none) ∧ s8.heap.get? s2.heap.objs.size = some (lstO vs e) ∧ H8 s2.heap.objs.size = none := fun {H8 s8} I8 => by
    refine ⟨T.keep _ _ _ st5 fun b hb o q => (I8.pin (b, o) (List.mem_append_right _ (List.mem_append_right _ (mem_pinsAt hb q)))).1, fun b hb => ?_, (I8.pin (s2.heap.objs.size, lstO vs e) (List.mem_append_right _ (List.mem_append_left _ List.mem_cons_self))).1, (I8.pin (s2.heap.objs.size, lstO vs e) (List.mem_append_right _ (List.mem_append_left _ List.mem_cons_self))).2.1⟩
    obtain ⟨o, q, _⟩ := T.obj _ _ st5 b hb
    exact (I8.pin (b, o) (List.mem_append_right _ (List.mem_append_right _ (mem_pinsAt hb q)))).2.1
   cases ok with
   | false =>
    rw [if_neg Bool.false_ne_true] at q7 ⊢
    obtain ⟨m', hm, w7⟩ := q7
    obtain ⟨st7, fr7, hD7, fD7⟩ := after I7
    exact ⟨m', hm, i + 1, ys, vs, e, H7, some v, I7.unpinned, st7, fr7, rel3, fD7, w7⟩
   | true =>
    rw [if_pos rfl] at q7 ⊢
    refine wpAny_mono (he _ _ _ _ _ s7 _ H7 _ I7 q7) (fun yv s8 ⟨y, H8, I8, r8, m', hm, w8⟩ => ?_) fun _ _ z => z.elim
    obtain ⟨st8, fr8, hD8, fD8⟩ := after I8
    refine append_at (hsz := by rw [List.size_toArray, ← rel3.length]; exact Nat.le_of_lt hlen) hD8 fun h9 hs9 hD9 => ?_
    have I8u : Inv (cxComp X scope cl G.objs.size N s2 H2 fp) [] (capS cap σ (some v)) H8 s8 := I8.pins_of fun p hp => absurd hp (by simp)
    have I9 : Inv (cxComp X scope cl G.objs.size N s2 H2 fp) [] (capS cap σ (some v)) H8 { s8 with heap := h9 } :=
     I8u.turned (t' := s8.toks) (it := s2.heap.objs.size) (fun b o hb q => (hs9.2 b hb).trans q) fD8 hDC (.inr (Nat.le_refl _)) (fun y c q => (nDx y c (S.sub y c q)).1) fun p hp => absurd (show p ∈ ([] : List (Addr × Obj)) from hp) (by simp)
    have hD9' : h9.get? s2.heap.objs.size = some (lstO (vs ++ [yv]) (e + 1)) := by
     rw [hD9]
     show some ({ cls := .type "list", data := .seq (vs.toArray.push yv) (e + 1) } : Obj) = some { cls := .type "list", data := .seq (vs ++ [yv]).toArray (e + 1) }
     rw [List.push_toArray]
    refine ⟨m', hm, i + 1, ys ++ [y], vs ++ [yv], e + 1, H8, some v, pinD I9 hD9' (nocell _ _) fD8, ?_, fr8, rel3.append (.cons r8 .nil), fD8, w8⟩
    exact T.keep _ _ _ st8 fun b hb o q => (hs9.2 b (Nat.ne_of_lt (flt b hb))).trans q
 exact codeAny_compStart_list (loop _ rfl) (T.self _ 0 _ _ _ st1 (loop _ rfl))
theorem pe_comp {wi : TI} (hc : X.calm = true) (hi : PI X (.Name x px) iter wi) (S : CompSc X scope x cl N cap) (ht : ∀ C s H ex, PTs (cxComp X scope cl C N s H ex) ifs tt) (he : ∀ C s H ex, PE (cxComp X scope cl C N s H ex) elt te)
  (hs : ∀ z, foldedSetIterable iter X.env z = pure z := by intro _; rfl) : PE X (.ListComp elt [⟨.Name x px, iter, ifs, 0⟩] scope pos) (tComp wi cap tt te) := by
 intro pins s σ H Q I h
 rw [eval_ListComp]
 refine wpAny_comprehension_free (use := none) rfl hs S.clos S.kind S.names (thn (hi pins s σ H _ I h) fun v s1 h1 => thn h1 fun itv s2 h2 => ?_)
 obtain ⟨it, fp, tn, J, H2, e, I2, T, st2, f2, h⟩ := h2
 subst e
 refine comp_core (RR := fun acc C => compPost (model X.prog X.w) X.A X.xe none (EP X pins σ Q) acc C) hc S ht he I2 T st2 f2 h fun D C s4 ys H3 oC m I4 hnC fC hD fin => ?_
 have hoC := (I4.pin (C, oC) (List.mem_append_right _ (List.mem_append_right _ List.mem_cons_self))).1
 refine ⟨m, hnC _ hoC, fun h' hs' => ?_⟩
 exact ⟨.ref D, _, I4.unpinned.turned (t' := s4.toks) (it := C) (fun b o hb q => (hs'.2 b hb).trans q) fC.1 fC.2.1 fC.2.2.2.1 fC.2.2.2.2.1 fC.2.2.2.2.2, rfl, fin D hD⟩
theorem ps_setComp {wi : TI} {i : Nat} {y : Str} {py spos : Pos} (hN : X.N.Nodup) (hy : X.N[i]? = some y) (hL : X.env.scope.names.lookup y = some .local) (hc : X.calm = true) (hi : PI X (.Name x px) iter wi) (S : CompSc X scope x cl N cap)
  (ht : ∀ C s H ex, PTs (cxComp X scope cl C N s H ex) ifs tt) (he : ∀ C s H ex, PE (cxComp X scope cl C N s H ex) elt te)
  (hsw : swapsWith (.ListComp elt [⟨.Name x px, iter, ifs, 0⟩] scope pos) (some (.Name y py)) spos.line X.env = pure true := by rfl)
  (hs : ∀ z, foldedSetIterable iter X.env z = pure z := by intro _; rfl) : PS X (.Assign [.Name y py] (.ListComp elt [⟨.Name x px, iter, ifs, 0⟩] scope pos) spos) (tAsg (tComp wi cap tt te) (gName i)) := by
 intro pins s σ H D I h
 rw [exec_Assign_Name_used _ _ _ _ hsw]
 refine wpAny_bind (wpAny_standAt (wpAny_bind ?_))
 show wpAny _ X.A (do let _ ← comprehension (.ListComp elt [⟨.Name x px, iter, ifs, 0⟩] scope pos) scope X.env _ (newList []) false (eval iter X.env) (some (assign (.Name y py) X.env))) _ _ s
 refine wpAny_bind (wpAny_mono (wpAny_comprehension_free (use := some (assign (.Name y py) X.env)) (Q := fun _ s' => SP X pins D .next s') rfl hs S.clos S.kind S.names
  (thn (hi pins s σ H _ I h) fun v s1 h1 => thn h1 fun itv s2 h2 => ?_)) (fun _ s' hq => wpAny_pure (wpAny_pure hq)) fun _ _ e => e)
 obtain ⟨it, fp, tn, J, H2, e, I2, T, st2, f2, h⟩ := h2
 subst e
 refine comp_core (RR := fun acc C => compPost (model X.prog X.w) X.A X.xe (some (assign (.Name y py) X.env)) (fun _ s' => SP X pins D .next s') acc C) hc S ht he I2 T st2 f2 h fun d C s4 ys H3 oC m I4 hnC fC hD fin => ?_
 show wpAny _ X.A (assign (.Name y py) X.env (.ref d)) _ _ s4
 refine wpAny_assign_Name (store_ok (v := .ref d) I4 hN hy (.inl hL) rfl (fun s5 I5 => ?_) (.inr hL))
 have hoC := (I5.pin (C, oC) (List.mem_append_right _ (List.mem_append_right _ List.mem_cons_self))).1
 refine ⟨m, hnC _ hoC, fun h' hs' => ?_⟩
 exact ⟨σ.set i (some (.ref d)), _, I5.unpinned.turned (t' := s5.toks) (it := C) (fun b o hb q => (hs'.2 b hb).trans q) fC.1 fC.2.1 fC.2.2.2.1 fC.2.2.2.2.1 fC.2.2.2.2.2, fin d hD⟩
end
end L2
namespace L2
open PySem PySem.Spec PyProof.Rows
theorem eqV_refl {x : V} (h : flatV x = true) : eqV x x = true := by
 cases x with
 | non => rfl
 | bl b => simp [eqV]
 | int i => simp [eqV]
 | str z => simp [eqV]
 | _ => exact absurd (show false = true from h) Bool.false_ne_true
theorem Vals.at {xs : List V} {us : List Value} (r : Vals xs us) {j : Nat} (h : j < us.length) : ∃ x, xs[j]? = some x ∧ RelV x us[j] := by
 have hl := r.length
 have hj : j < xs.length := by omega
 obtain ⟨u, hu, ru⟩ := r.get (i := j) (x := xs[j]) (List.getElem?_eq_getElem hj)
 have e : us[j] = u := by
  have := List.getElem?_eq_getElem h
  rw [this] at hu
  exact Option.some.inj hu
 exact ⟨_, List.getElem?_eq_getElem hj, by rw [e]; exact ru⟩
section
variable {X : Cx} {pins : List (Addr × Obj)} {σ : St} {H : Hp} {s : Shared}
end
section
variable {X : Cx}
end
section
open PySem.SeqAt
open PySem.AutoSeq1 (wpAny_loadPart')
open PySem.MeetsSeq PySem.MeetsSeq2 PySem.MeetsSeq3
end
section
variable {X : Cx} {pins : List (Addr × Obj)} {σ : St} {H : Hp} {s : Shared}
end
end L2
namespace L2
open PySem PySem.Spec PyProof.Rows
section
variable {X : Cx} {pins : List (Addr × Obj)} {σ : St} {H : Hp} {s : Shared} {h' : Heap}
end
section
variable {X : Cx} {k : Nat} {f : Addr} {fd : FuncData} {pn : Str} {sp : Sp}
end
end L2
namespace L2
open PySem PySem.Spec PyProof.Rows
def Lies (B : Heap) (l : List Env) (L e : Addr) (cls : Value) (h : Heap) : Prop :=
 B.StaysIn h ∧ B.get? e = none ∧ h.FunFrames B l ∧
  ((∃ oe vs a0, h.get? e = some oe ∧ oe.cls = cls ∧ oe.data = .fields vs ∧ vs[0]? = some a0 ∧ vs[1]? = some Value.none) ∨ (∃ a0, h.TracedW B e cls a0) ∨ ∃ a0, h.TracedAtW B e cls a0 (rawInt L))
section
variable {M : Model} {A : Around} {E : Value → Shared → Prop} {s : Shared} {B : Heap} {env : Env} {outer : List Env} {L e : Addr} {cls : Value}
end
structure OwnFr (X : Cx) : Prop where
 stk : X.stack = X.env :: X.outer
 fr : X.env.frame = some X.env.locals
 ex : X.ex = []
def ExcIn (X : Cx) (H : Hp) (e : Addr) (cls : Value) (s' : Shared) : Prop :=
 ∃ pins σ sg B, Inv X pins σ H sg ∧ s'.os = sg.os ∧ AllBare s'.gens ∧ (∀ b o, sg.heap.get? b = some o → b ∉ frs X.stack → B.get? b = some o) ∧ sg.heap.UpToSlots s'.heap ∧ Lies B X.stack X.env.locals e cls s'.heap
def CXD (P : Program) (w : World) : CXT := fun outer H s E e s' => ∃ ea cls H' g B a0, e = .ref ea ∧ s'.os = s.os ∧ AllBare s'.gens ∧ Un (frs outer) [] H H' s.heap g ∧ HOk P w H' g ∧
 (∀ b o, g.get? b = some o → b ∉ frs outer → B.get? b = some o) ∧ g.UpToSlots s'.heap ∧ Heap.FlyingW B outer ea cls a0 s'.heap ∧ E cls none H'
section
variable {X : Cx} {H : Hp} {e : Addr} {cls : Value} {s' : Shared}
end
section
variable {X : Cx} {pins : List (Addr × Obj)} {σ : St} {H : Hp} {e : Addr} {cls : Value} {s s' : Shared}
end
end L2
namespace L2
open PySem PySem.Spec PyProof.Rows
structure ExCls (K : PySem.W.Frag) (x : Str) (C : Addr) : Prop where
 ns : PySem.W.nsIn K mainGlobals x = some (some (.ref C))
 ok : ∃ B newId initId bmB, PySem.W.excIn K C bmB newId = true ∧ ExcBaseFacts B newId initId bmB
section
variable {X : Cx} {x : Str} {C : Addr} {np cpos pos : Pos} {e : Expr} {es : List Expr} {t : TA}
end
structure RoomB (b : Bool) (k : Nat) (A : Around) : Prop where
 hd : b = true → A.handled = none
 dp : A.depth + 3 * k + 5 < recursionLimit
 un : A.units + 16 * k + 200 < cLine
theorem RoomB.mono {b : Bool} {j k : Nat} {A : Around} (r : RoomB b k A) (h : j ≤ k) : RoomB b j A := ⟨r.hd, by have := r.dp; omega, by have := r.un; omega⟩
structure FnX (b : Bool) (P : Program) (w : World) (K : PySem.W.Frag) (mg : Str → Option Value) (base : Heap) (k : Nat) (f : Addr) (fd : FuncData) (ps : List Str) (sp : Sp) : Prop where
 len : ∀ vs H Q E, sp vs H Q E → vs.length = ps.length
 run : ∀ (A : Around) (outer : List Env) (s : Shared) (H : Hp) (args : Args) (us : List Value) (vs : List V) (Q : VK) (E : XK), RoomB b k A → Env0 P w K mg base A outer s H → BindsTo s fd args (ps.zip us) → Vals vs us → sp vs H Q E →
  codeAny (model P w) A (.call (.ref f) args) (CR (CXD P w) outer P w H s Q E) s
theorem FnX.mono {b : Bool} {P : Program} {w : World} {K : PySem.W.Frag} {mg : Str → Option Value} {base : Heap} {j k : Nat} {f : Addr} {fd : FuncData} {ps : List Str} {sp : Sp} (F : FnX b P w K mg base j f fd ps sp) (h : j ≤ k) :
  FnX b P w K mg base k f fd ps sp := ⟨F.len, fun A outer s H args us vs Q E hr => F.run A outer s H args us vs Q E (hr.mono h)⟩
section
variable {X : Cx} {b : Bool} {k : Nat} {f : Addr} {fd : FuncData} {ps : List Str} {sp : Sp} {x : Str} {p pos : Pos} {e : Expr} {es : List Expr} {t : TA} {E : XK}
end
end L2
namespace L2
open PySem PySem.Spec PyProof.Rows
section
variable {X : Cx} {pins : List (Addr × Obj)} {σ : St} {H : Hp} {s : Shared}
def exPh (a : Addr) (cls : Value) : Heap → Prop := fun h => ∃ o, h.get? a = some o ∧ o.cls = cls ∧ ∃ vs, o.data = .fields vs
end
section
variable {X : Cx} {body suite : List Stmt} {b₀ : Stmt} {x n : Str} {np hpos pos : Pos} {i : Nat} {c : Value} {tb : List (Addr × Obj) → (Value → Hp → Prop) → TS} {ts : TS}
end
end L2
namespace L2
open PySem PySem.Spec PyProof.Rows PySem.W PySem.Builtin PySem.Builtin.ObjectAttr PySem.Builtin.Getset_descriptor
structure ExAt (K : PySem.W.Frag) (C : Addr) : Prop where
 ga : findIn K (.ref C) "__getattribute__" = some (some (.builtin "BaseException.__getattribute__"))
 gh : findIn K (.ref C) "__getattr__" = some none
 sb : subIn K (.ref C) (.type "BaseException") = some true
 ca : findIn K (.ref C) "__class__" = some (some (.builtin "object.__class__"))
 cg : specialIn K (.builtin "object.__class__") "__get__" = some (some (.builtin "getset_descriptor.__get__"))
 ct : takesIn K (.builtin "object.__class__") = some true
 cm : mroIn K C (.type "object") = some true
 cl : (clsIn K C).isSome = true
section
variable {prog : Program} {w : World} {A : Around} {E : Value → Shared → Prop} {s : Shared} {K : PySem.W.Frag} {e C : Addr}
end
end L2
namespace L2
open PySem PySem.Spec PyProof.Rows
section
variable {prog : Program} {w : World} {A : Around} {E : Value → Shared → Prop} {s : Shared}
end
end L2
namespace L2
open PySem PySem.Spec PyProof.Rows
section
variable {prog : Program} {w : World} {A : Around} {E : Value → Shared → Prop} {s : Shared}
end
section
variable {X : Cx} {pins : List (Addr × Obj)} {σ : List (Option V)} {H H' : Hp} {s : Shared} {h' : Heap}
theorem Inv.turnedL {t' : Nat} {ch : List Addr} (I : Inv X pins σ H s) (k : ∀ b o, b ∉ ch → s.heap.get? b = some o → h'.get? b = some o) (hf : ∀ b ∈ ch, FpOk X pins H b) : Inv X pins σ H { s with heap := h', toks := t' } := by
 have nit : ∀ b u, H b = some u → b ∉ ch := fun b u e z => by rw [(hf b z).1] at e; cases e
 refine I.step (g' := s.gens) (d' := s.drawn) (ch := ch) (fun b hb => ?_) (fun b o _ _ hc e _ => k b o hc e) (fun b o _ _ hc e _ => ⟨o.slots, k b o hc e⟩) (fun _ _ _ _ n => n)
  (fun b o hc e => ⟨o, k b o hc e⟩) (fun _ _ e => e) (fun _ _ _ e => e) (fun b ps e => ⟨#[], by rw [e]; simp⟩) (fun m hm => ?_) (fun b u e => ?_) I.bare
 ·obtain ⟨_, h1, _, h3, h4, h5⟩ := hf b hb
  exact ⟨h3, h1, h4, h5⟩
 ·obtain ⟨o, es, ep, ho, r⟩ := hm
  exact ⟨o, es, ep, k _ o (fun z => (hf _ z).2.1 rfl) ho, r⟩
 ·refine (I.hok b u e).stay (fun c v hc q => k c v ?_ q) (fun _ q => q) fun _ _ q => q
  rcases hc with z | z
  ·rw [z]; exact nit b u e
  ·exact nit c _ z
theorem Inv.trackT {a : Addr} {xs : List V} (I : Inv X pins σ H s) (fp : FpOk X pins H a) (h0 : X.s₀.heap.get? a = none) (ho : ObjOk X.prog X.w (upd H a (.tup xs)) s.heap a (.tup xs)) : Inv X pins σ (upd H a (.tup xs)) s := by
 obtain ⟨hn, hL, _, _, hC, hP⟩ := fp
 have up : ∀ b u, H b = some u → upd H a (.tup xs) b = some u := fun b u e => by
  unfold upd
  rw [if_neg (fun z => by rw [z, hn] at e; cases e)]; exact e
 have un : ∀ b, b ≠ a → H b = none → upd H a (.tup xs) b = none := fun b n e => by unfold upd; rw [if_neg n]; exact e
 refine ⟨I.ok, I.os, I.bare, ⟨I.base.keep, I.base.slot, fun b o e n hx => un b (fun z => ?_) (I.base.free b o e n hx), I.base.there, fun b xs e => up _ _ (I.base.tups b xs e), fun b o xs e => up _ _ (I.base.frzs b o xs e), fun b ps e => ?_⟩, I.loc, I.cell, un _ (Ne.symm hL) I.free,
  fun x c e => un _ (hC x c e) (I.freeC x c e), fun p hp => ?_, fun b u e => ?_, I.len⟩
 ·rw [z, h0] at e; cases e
 ·obtain ⟨more, e'⟩ := I.base.tbls b ps e
  exact ⟨more, up _ _ e'⟩
 ·obtain ⟨e, n, ne', nf, d⟩ := I.pin p hp
  exact ⟨e, un _ (hP p hp) n, ne', nf, d⟩
 ·by_cases z : b = a
  ·subst z
   unfold upd at e; rw [if_pos rfl] at e; cases e
   exact ho
  ·unfold upd at e; rw [if_neg z] at e
   exact (I.hok b u e).stay (fun _ _ _ q => q) (fun _ q => up _ _ q) fun _ _ q => up _ _ q
end
end L2
namespace L2
open PySem PySem.Spec PyProof.Rows
section
variable {prog : Program} {w : World} {A : Around} {E : Value → Shared → Prop} {s : Shared}
def Ahead (it l : Addr) (items : Array Value) (i : Nat) (h : Heap) : Prop := ∃ k, i = k + 1 ∧ h.IsListIter it l k ∧ h.IsList l items
theorem draws_ahead (hh : A.handled = none) (it l : Addr) (items : Array Value) (hne : l ≠ it) : Draws prog w A it [it, l] (items.size + 1) (fun i v => ∃ k, i = k + 1 ∧ items[k]? = some v) (Ahead it l items) where
 live := fun i h ⟨k, _, ⟨o, ho, _⟩, _⟩ => ⟨o, ho⟩
 frame := fun i h h' ⟨k, e, a, b⟩ hk => ⟨k, e, a.at fun o z => hk it (by simp) o z, b.at fun o z => hk l (by simp) o z⟩
 item := fun i s Q E hi ⟨k, e, a, b⟩ hQ => by
  subst e
  have hk : k < items.size := by omega
  refine wpAny_nextOf_list_item a b (x := items[k]) (by simp [hk]) fun h' a' sb => ?_
  exact hQ _ h' s.toks ⟨k, rfl, by simp [hk]⟩ ⟨k + 1, rfl, a', b.at fun o z => (sb.2 l hne).trans z⟩ sb
 done := fun s Q E ⟨k, e, a, b⟩ hE => by
  have e : k = items.size := by omega
  exact wpAny_nextOf_list_end hh a b (by simp [e]) hE
abbrev en1 (h : Heap) (a : Addr) : Heap := h.push { cls := .type "list_iterator", data := .fields #[.ref a, .int 0 0] }
abbrev en2 (h : Heap) (a : Addr) : Heap := (en1 h a).push { cls := .type "enumerate", data := .fields #[.none, .bool false, .ref h.objs.size, rawInt 1, .none, .none] }
theorem meets_enum1 (a : Addr) (us : Array Value) (n : Nat) (od : Option Addr) (sl : Array (Option Value)) (t : Tok) :
  Meets (Builtin.«enumerate.__new__» ⟨[.type "enumerate", .ref a], [(Str.ofString "start", .int 1 t)]⟩) (fun _ R s => s.heap.get? a = some { cls := .type "list", dict := od, data := .seq us n, slots := sl } ∧
   R (.ok (.ret (.ref (en1 s.heap a).objs.size))) { s with heap := en2 s.heap a }) :=
 .of_wp fun prog w A R s h => by
  obtain ⟨hp, g, d, tk, os⟩ := s; obtain ⟨ha, h⟩ := h
  have hsub := sub_enumerate
  have hA : Heap.IsList (Shared.heap ⟨hp, g, d, tk, os⟩) a us := ⟨_, ha, rfl, n, rfl⟩
  wp_walk using AutoSeq1.wpAny_loadPart' ha
  refine wpAny_stack_any fun st => wpAny_pure ?_
  split
  ·rename_i c _ _ _ _ _
   cases (c == Value.type "enumerate")
   all_goals (wp_walk using AutoSeq1.wpAny_loadPart' ha, wpAny_pyIter_list hA; exact ⟨_, rfl, h⟩)
  ·wp_walk using AutoSeq1.wpAny_loadPart' ha, wpAny_pyIter_list hA
   exact ⟨_, rfl, h⟩
theorem enumK_type (a v : Value) : checkTypeCall "enumerate" ⟨[a], [(Str.ofString "start", v)]⟩ = pure () := by kernel_rfl
theorem enumK_new (a v : Value) : checkBuiltinCall "enumerate.__new__" ⟨[.type "enumerate", a], [(Str.ofString "start", v)]⟩ = pure () := by kernel_rfl
theorem initK (a b v : Value) : argsOk "object.__init__" ⟨[a, b], [(Str.ofString "start", v)]⟩ := by
 unfold argsOk; rw [signature?_of (id := "object.__init__") (n := ['_', '_', 't', 'i', 'n', 'i', '_', '_']) (o := ['t', 'c', 'e', 'j', 'b', 'o']) (by kernel_rfl) F.owner_object]; kernel_rfl
theorem initK_meets {self a v : Value} :
  Meets (Builtin.«object.__init__» ⟨[self, a], [(Str.ofString "start", v)]⟩) (fun _ R s => s.TypeIs self "enumerate" ∧ R (.ok (.ret .none)) s) := by
 have hl : typeLookup (.type "enumerate") "__init__" = pure (some (.builtin "object.__init__")) := F.called_enumerate.init.lookup
 have hm : Bind.madeBy (.type "enumerate") = pure (some "enumerate.__new__") := F.called_enumerate.made
 have hne : (some "enumerate.__new__" != some "object.__new__") = true := by decide
 refine Meets.of_wp fun prog w A R s hs => ?_
 obtain ⟨hT, hq⟩ := hs
 repeat (any_goals (first | assumption | wp_step))
 all_goals exact ⟨_, rfl, hq⟩
theorem callK {a v : Value} {S : PySem.Spec} {Q : Value → Shared → Prop} (g : Meets (Builtin.«enumerate.__new__» ⟨[.type "enumerate", a], [(Str.ofString "start", v)]⟩) S)
  (h : S A.in1 (wants (fun obj s1 => s1.TypeIs obj "enumerate" ∧ Q obj s1) E) s) : wpAny (model prog w) A (call (.type "enumerate") [a] [(Str.ofString "start", v)]) Q E s := by
 have ft := F.called_enumerate
 have hct := enumK_type a v
 obtain ⟨c, tl, hmro⟩ := ft.mro
 have hmade := ft.made
 have hsub := ft.sub
 refine wpAny_call (codeAny_of_tree ?_)
 show wpAny _ _ (callAny (.type "enumerate") _) _ _ _
 refine wpAny_pure ⟨Code.quiet_builtin _ (by decide +kernel), codeAny_builtin F.entry_type_call ?_⟩
 rw [Around.under_plain (weight_type_call_type "enumerate" [a] _) (units_type_call_type "enumerate" [a] _)]
 have hn := ft.notType
 have hcr := ft.canCreate
 repeat (any_goals (first | assumption | wp_step))
 refine codeAny_mono (codeAny_call_builtin ft.plain F.entry_enumerate_new (wpAny_of_eq (enumK_new a v) (g prog w A.in1 _ s h))) fun r s1 hr => ?_
 cases r with
 | error e => exact hr
 | ok fl =>
  cases fl with
  | ret obj =>
   obtain ⟨hT, hq⟩ := (show s1.TypeIs obj "enumerate" ∧ Q obj s1 from hr)
   have hli := ft.init.lookup
   have hbi := ft.init.bind obj
   repeat (any_goals (first | assumption | wp_step))
   refine codeAny_mono (codeAny_call_builtin ft.init.plain F.entry_object_init (ft.init.check _ _ _ _ _ _ _ _ hT (initK obj a v) (initK_meets prog w A.in1 (wants (fun r s2 => r = .none ∧ Q obj s2) E) s1 ⟨hT, rfl, hq⟩))) fun r2 s2 hr2 => ?_
   cases r2 with
   | error e => exact hr2
   | ok fl2 =>
    cases fl2 with
    | ret r =>
     obtain ⟨rfl, hq2⟩ := (show r = .none ∧ Q obj s2 from hr2)
     repeat (any_goals (first | assumption | wp_step))
    | _ => exact hr2.elim
  | _ => exact hr.elim
theorem call_enum1 {a : Addr} {us : Array Value} {t : Tok} {Q : Value → Shared → Prop} (ha : s.heap.IsList a us)
  (k : ∀ h', IsEnum h' (s.heap.objs.size + 1) s.heap.objs.size 1 .none → h'.IsListIter s.heap.objs.size a 0 → (∀ c o, s.heap.get? c = some o → h'.get? c = some o) → Q (.ref (s.heap.objs.size + 1)) { s with heap := h' }) :
  wpAny (model prog w) A (call (.type "enumerate") [.ref a] [(Str.ofString "start", .int 1 t)]) Q E s := by
 obtain ⟨⟨c, od, dt, sl⟩, ha, hc, n, hd⟩ := ha
 have hc : c = .type "list" := hc
 have hd : dt = .seq us n := hd
 subst hc hd
 refine callK (meets_enum1 a us n od sl t) ⟨ha, ?_⟩
 have z1 : (en1 s.heap a).objs.size = s.heap.objs.size + 1 := Heap.size_push ..
 have up : ∀ {h : Heap} {c : Addr} {x : Obj} (o : Obj), h.get? c = some x → (h.push o).get? c = some x := fun o e => Heap.get?_push_of_some o e
 have g2 : (en2 s.heap a).get? (en1 s.heap a).objs.size = some _ := Heap.get?_push_size _ rfl
 have g1 : (en2 s.heap a).get? s.heap.objs.size = some _ := up _ (Heap.get?_push_size _ rfl)
 show _ ∧ _
 rw [z1] at g2 ⊢
 exact ⟨⟨_, g2, rfl⟩, k _ g2 ⟨_, g1, rfl, rfl⟩ fun c o x => up _ (up _ x)⟩
theorem draws_end (hh : A.handled = none) (it l : Addr) (items : Array Value) (k : Nat) (hk : items[k]? = none) : Draws prog w A it [it, l] (k + 1) (fun _ _ => False) (fun j h => j = k + 1 ∧ h.IsListIter it l k ∧ h.IsList l items) where
 live := fun i h ⟨_, ⟨o, ho, _⟩, _⟩ => ⟨o, ho⟩
 frame := fun i h h' ⟨e, a, b⟩ hk => ⟨e, a.at fun o z => hk it (by simp) o z, b.at fun o z => hk l (by simp) o z⟩
 item := fun i s Q E hi ⟨e, _, _⟩ _ => absurd e (Nat.ne_of_lt hi)
 done := fun s Q E ⟨_, a, b⟩ hE => wpAny_nextOf_list_end hh a b hk hE
theorem callWith_tyK {M : Model} {pos : Pos} {T : String} {first : List Value} {args : List (Bool × Sem Value)} {keywords : List (Option Str × Sem Value)} {Q : Value → Shared → Prop} (hp : args.any (·.1) = false) (hk : keywords.any (·.1.isNone) = false)
  (h : wpAny M A (evalArgs (.type T) true args keywords) (fun a s1 => wpAny M A (call (.type T) (first ++ a.pos) a.kw) Q E s1) E s) : wpAny M A (callWith pos (.type T) first args keywords) Q E s := by
 unfold callWith
 refine wpAny_bind (wpAny_holding (wpAny_mono h (fun a s1 h1 => wpAny_bind (wpAny_standAt ?_)) fun _ _ x => x))
 simp only [hp, hk, Bool.or_false]
 refine wpAny_bind (wpAny_pure (wpAny_bind (wpAny_mono h1 (fun r s2 hr => wpAny_bind (wpAny_holding (wpAny_point (wpAny_pure hr)))) fun _ _ x => x)))
end
section
variable {X : Cx} {pins : List (Addr × Obj)} {σ : List (Option V)} {H H' : Hp} {s : Shared} {h' : Heap}
def Ite (K : PySem.W.Frag) (a : Addr) : It :=
  ⟨fun i H => ∃ xs x, SqL K H a xs ∧ xs[i]? = some x,
   fun i H v H' => ∃ p x, v = .ref p ∧ H p = none ∧ H' = upd H p (.tup [.int (i + 1 : Nat), x]) ∧ ∀ xs, SqL K H a xs → xs[i]? = some x,
   fun i H => ∃ xs, SqL K H a xs ∧ xs.length ≤ i⟩
theorem turn_enum {P0 : Program} {w : World} {K : PySem.W.Frag} {es : List Expr} {tk : Nat} {tp : Pos} {c i a : Addr} (d1 : c ≠ i) (d2 : a ≠ c) (d3 : a ≠ i) :
  Turn P0 w K (.Tuple es tk tp) (Ite K a) [c, i] c (fun n h => (∃ old, IsEnum h c i ((n + 1 : Nat) : Int) old) ∧ h.IsListIter i a n) where
 mem := by simp
 obj := fun n h st d hd => by
  obtain ⟨⟨old, g1⟩, ⟨o4, g4, c4, d4⟩⟩ := st
  simp only [List.mem_cons, List.not_mem_nil, or_false] at hd
  rcases hd with rfl | rfl
  ·exact ⟨_, g1, fun v z => by have z' : Data.fields _ = Data.cell v := z; cases z'⟩
  ·exact ⟨o4, g4, fun v z => by rw [d4] at z; cases z⟩
 keep := fun n h h' st k => by
  obtain ⟨⟨old, g1⟩, g4⟩ := st
  exact ⟨⟨old, k c (by simp) _ g1⟩, g4.at fun o e => k i (by simp) o e⟩
 item := by
  intro X hP hw hK hc n pins s σ H E I hf st hg
  subst hP hw hK
  obtain ⟨xs, x, hxs, hx⟩ := hg
  obtain ⟨⟨old, g1⟩, g4⟩ := st
  obtain ⟨us, rx, px, _⟩ := I.list hxs
  obtain ⟨u, hu, ru⟩ := rx.get hx
  have hn : n < us.length := (List.getElem?_eq_some_iff.mp hu).1
  have D := draws_ahead (prog := X.prog) (w := X.w) (A := X.A.in1) (I.ok.hd hc) i a us.toArray d3
  refine wpAny_pyNext_enum_itemD D g1 ⟨n, rfl, g4, px.isList⟩ (by simp; omega) d1 (by simp; exact ⟨d1, fun z => d2 z.symm⟩) fun v h1 t1 hv a1 a2 a3 a4 a5 => ?_
  obtain ⟨k, hk, hv⟩ := hv
  obtain ⟨k2, hk2, it2, _⟩ := a2
  have e1 : k = n := by omega
  have e2 : k2 = n + 1 := by omega
  subst e1 e2
  have ev : u = v := by
   have hv' : us[k]? = some v := by simpa using hv
   rw [hu] at hv'; cases hv'; rfl
  subst ev
  refine ⟨_, rfl, wpAny_letOwnedTupleGo_enum (s := { s with heap := h1, toks := t1 + 1 }) a1 fun h2 b1 b2 => ?_⟩
  have kk : ∀ d o, d ∉ [c, i] → s.heap.get? d = some o → h2.get? d = some o := fun d o nd e => by
   simp only [List.mem_cons, List.not_mem_nil, or_false, not_or] at nd
   exact b2.extBut _ _ nd.1 (a5 d o nd.1 nd.2 e)
  have I1 : Inv X pins σ H { s with heap := h2, toks := t1 + 1 } := I.turnedL (t' := t1 + 1) kk hf
  have lc : c < s.heap.objs.size := Heap.lt_size g1
  have lt : ∀ d ∈ [c, i], d < s.heap.objs.size := fun d hd => by
   simp only [List.mem_cons, List.not_mem_nil, or_false] at hd
   obtain ⟨o4, e4, _⟩ := g4
   rcases hd with rfl | rfl
   ·exact lc
   ·exact Heap.lt_size e4
  have a3' := b2.extBut _ _ (Nat.ne_of_gt lc) a3
  have fp := I.fpOk (H' := H) (Nat.le_refl _) (I.hok.fresh (Nat.le_refl _))
  have h0 : X.s₀.heap.get? s.heap.objs.size = none := by
   cases e : X.s₀.heap.get? s.heap.objs.size with
   | none => rfl
   | some o => exact absurd (Nat.lt_of_lt_of_le (Heap.lt_size e) I.sz) (Nat.lt_irrefl _)
  have I2 := I1.trackT (xs := [.int (k + 1 : Nat), x]) fp h0 ⟨by show 2 ≤ sizeLine; decide, [.int ((k + 1 : Nat) : Int) t1, u], .cons ⟨t1, rfl⟩ (.cons ru .nil), ⟨_, a3', rfl, _, rfl⟩⟩
  refine ⟨.ref s.heap.objs.size, _, I2, rfl, ⟨_, x, rfl, I.hok.fresh (Nat.le_refl _), rfl, fun zs hz => by rw [I.list_inj hz hxs]; exact hx⟩, ⟨⟨_, b1⟩, ?_⟩, fun d hd => ?_⟩
  ·exact it2.at fun o e => b2.extBut _ _ (fun z => d1 z.symm) e
  ·unfold upd
   rw [if_neg (Nat.ne_of_lt (lt d hd))]
   exact (hf d hd).1
 done := by
  intro X hP hw hK hc n pins s σ H E I hf st hg
  subst hP hw hK
  obtain ⟨xs, hxs, hl⟩ := hg
  obtain ⟨⟨old, g1⟩, g4⟩ := st
  obtain ⟨us, rx, px, _⟩ := I.list hxs
  have l1 := rx.length
  have D := draws_end (prog := X.prog) (w := X.w) (A := X.A.in1) (I.ok.hd hc) i a us.toArray n (by have hq : us.length ≤ n := (by rw [← l1]; exact hl); simpa using hq)
  refine wpAny_pyNext_enum_endD D g1 ⟨rfl, g4, px.isList⟩ fun h1 eb => ⟨rfl, I.turnedL (t' := s.toks) (fun d o nd e => ?_) hf⟩
  simp only [List.mem_cons, List.not_mem_nil, or_false, not_or] at nd
  exact eb d o nd.2 e
 self := fun _ _ _ _ _ st h => let ⟨⟨_, g⟩, _⟩ := st; wpAny_pyIter_enum g h
def iEnum (K : PySem.W.Frag) (te : TA) : TI := fun σ H R => te σ H fun vs H1 => ∃ a xs, vs = [.ref a] ∧ SqL K H1 a xs ∧ R (Ite K a) H1
theorem pi_enum {e : Expr} {kws : List Keyword} {te tk : TA} {p pos tp : Pos} {es : List Expr} {n : Nat} (hg : Gl X "enumerate") (hm : X.mg "enumerate" = none) (ha : PA X [e] te) (hkw : PK X kws tk) (h1 : ∀ σ H Q, Q [.int 1] H → tk σ H Q)
  (he : backTo pos (starEach [e] X.env) = (false, eval e X.env) :: backTo pos (starEach [] X.env) := by rfl) (hpl : (backTo pos (starEach [e] X.env)).any (·.1) = false := by rfl)
  (hall : (backToKw pos (keywordEach kws X.env)).all (·.1.isSome) = true := by rfl) (hnk : (backToKw pos (keywordEach kws X.env)).any (·.1.isNone) = false := by rfl)
  (hks : (backToKw pos (keywordEach kws X.env)).filterMap (·.1) = [Str.ofString "start"] := by rfl) : PI X (.Tuple es n tp) (.Call (.Name "enumerate" p) [e] kws pos) (iEnum X.K te) := by
 intro pins s σ H R I h
 refine wpAny_Call_Name_kw (ld_blt I hg hm (show bootBuiltins "enumerate" = some (.type "enumerate") by decide +kernel) ?_)
 refine callWith_tyK hpl hnk ?_
 rw [he]
 refine evalArgs_kwB hall ?_
 rw [← he]
 refine thn (ha pos pins s σ H _ I h) fun us s1 ⟨vs, H1, I1, r1, q1⟩ => ?_
 obtain ⟨a, xs, e1, hq, q⟩ := q1
 refine thn (hkw pos pins s1 σ H1 (fun zs H2 => zs = [.int 1] ∧ H2 = H1) I1 (h1 σ H1 _ ⟨rfl, rfl⟩)) fun ws s2 ⟨zs, H2, I2, rz, q2⟩ => ?_
 obtain ⟨rfl, rfl⟩ := q2
 subst e1
 obtain ⟨u, rfl, ru⟩ := r1.one
 obtain ⟨v, rfl, rv⟩ := rz.one
 obtain ⟨t, rfl⟩ := (show ∃ t, v = Value.int 1 t from rv)
 cases (show u = Value.ref a from ru)
 rw [hks]
 obtain ⟨its, rx, px, _⟩ := I2.list hq
 have la : a < s2.heap.objs.size := by obtain ⟨o, e, _⟩ := px.isList; exact Heap.lt_size e
 refine call_enum1 px.isList fun h' g1 g2 gk => ?_
 refine wpAny_pyIter_enum (s := { s2 with heap := h' }) g1 ?_
 refine ⟨_, [s2.heap.objs.size + 1, s2.heap.objs.size], _, _, _, rfl, I2.kept (t' := s2.toks) gk, turn_enum (Nat.succ_ne_self _) (Nat.ne_of_lt (Nat.lt_succ_of_lt la)) (Nat.ne_of_lt la), ⟨⟨_, g1⟩, g2⟩, fun d hd => ?_, q⟩
 have hd' : s2.heap.objs.size ≤ d := by
  simp only [List.mem_cons, List.not_mem_nil, or_false] at hd
  rcases hd with rfl | rfl <;> omega
 exact I2.fpOk hd' (I2.hok.fresh hd')
end
end L2
namespace L2
open PySem PySem.Spec PyProof.Rows
structure CompSc2 (X : Cx) (scope : Scope) (x y : Str) (cl : List (Str × Addr)) (N : List Str) (cap : List Nat) : Prop where
 clos : closureFor scope X.env = pure cl
 cell : ∀ y ∈ scope.names, y.2 ≠ .cell
 kind : scope.kind = .function
 names : ∀ y ∈ scope.names, y.2 = .local → scope.names.lookup y.1 = some .local
 loc : scope.names.lookup x = some .local
 loc2 : scope.names.lookup y = some .local
 nd : N.Nodup
 n0 : N[0]? = some x
 n1 : N[1]? = some y
 len : N.length = cap.length + 2
 capN : ∀ (k j : Nat), cap[k]? = some j → N[k + 2]? = X.N[j]?
 out : ∀ (k : Nat) (y : Str), N[k + 2]? = some y → X.env.kindOf y = some .cell ∨ X.env.kindOf y = some .free
 inn : ∀ (k : Nat) (y : Str), N[k + 2]? = some y → (relabel scope X.env).names.lookup y = some .cell ∨ (relabel scope X.env).names.lookup y = some .free
 sub : ∀ y c, cl.lookup y = some c → X.env.cells.lookup y = some c
 has : ∀ y, ((relabel scope X.env).names.lookup y = some .cell ∨ (relabel scope X.env).names.lookup y = some .free) → ∃ c, cl.lookup y = some c
def capS2 (cap : List Nat) (σ : St) (x y : Option V) : St := x :: y :: cap.map fun j => (σ[j]?).getD none
section
variable {X : Cx} {pins : List (Addr × Obj)} {σ : St} {H : Hp} {s : Shared} {scope : Scope} {x y : Str} {cl : List (Str × Addr)} {N : List Str} {cap : List Nat} {C : Addr} {fp : List Addr}
theorem cxComp_ok2 (S : CompSc2 X scope x y cl N cap) (I : Inv X pins σ H s) (hC : s.heap.objs.size ≤ C) (hfp : ∀ b ∈ fp, FpOk X pins H b ∧ b < s.heap.objs.size) : (cxComp X scope cl C N s H fp).Ok where
 mod := I.ok.mod
 kind := S.kind
 glob := I.ok.glob
 blt := I.ok.blt
 above := hC
 inj := fun y' z c h1 h2 => I.ok.inj y' z c (S.sub y' c h1) (S.sub z c h2)
 has := fun y h => S.has y h
 cab := fun y c h => by cases h
 hd := I.ok.hd
 frames := I.ok.frames
 stk := .inl rfl
 exf := fun b hb => ⟨Nat.ne_of_lt (Nat.lt_of_lt_of_le (hfp b hb).2 hC), fun y c h => (hfp b hb).1.2.2.2.2.1 y c (S.sub y c h)⟩
 bs := I.bs
 bsz := Nat.le_trans I.ok.bsz I.sz
 noex := fun b o e hb => by
  rcases (hfp b hb).1.2.2.2.1 with z | z
  ·exact I.ok.noex b o e z
  ·exact absurd (Nat.lt_of_lt_of_le (Heap.lt_size e) (Nat.le_trans I.ok.bsz z)) (Nat.lt_irrefl _)
 exfs := fun b hb z => by
  rcases List.mem_cons.mp (I.stkSub b z) with e | e
  ·exact (hfp b hb).1.2.1 e
  ·exact (hfp b hb).1.2.2.1 e
 funs := I.stack
 frf := I.stkFree
theorem comp_start2 {h₁ : Heap} {tk : Nat} {m : Str → Option Value} (S : CompSc2 X scope x y cl N cap) (I : Inv X pins σ H s) (hC : s.heap.objs.size ≤ C) (hfp : ∀ b ∈ fp, FpOk X pins H b ∧ b < s.heap.objs.size)
    (hns : h₁.Ns C m) (old : ∀ b o, s.heap.get? b = some o → h₁.get? b = some o) : Inv (cxComp X scope cl C N s H fp) [] (capS2 cap σ none none) H { s with heap := h₁, toks := tk } := by
  refine ⟨cxComp_ok2 S I hC hfp, rfl, I.bare, Un.kept old, ⟨m, hns, fun i y' v h1 h2 h3 => ?_⟩, fun y' c h => ?_, I.hok.fresh hC, fun y' c h => I.freeC y' c (S.sub y' c h), fun p hp => absurd (show p ∈ ([] : List (Addr × Obj)) from hp) (by simp), I.hok.kept old, ?_⟩
  · cases i with
    | zero => exact absurd h2 (by simp [capS2])
    | succ k =>
     cases k with
     | zero => exact absurd h2 (by simp [capS2])
     | succ k =>
      have h2' : (cap.map fun j => (σ[j]?).getD none)[k]? = some (some v) := by simpa [capS2] using h2
      rw [List.getElem?_map] at h2'
      cases ej : cap[k]? with
      | none => rw [ej] at h2'; cases h2'
      | some j =>
        rw [ej] at h2'
        have e1 : (σ[j]?).getD none = some v := by simpa using h2'
        have e2 : σ[j]? = some (some v) := by
          cases q : σ[j]? with
          | none => rw [q] at e1; cases e1
          | some z => rw [q] at e1; exact congrArg some e1
        have e3 : X.N[j]? = some y' := (S.capN k j ej).symm.trans h1
        obtain ⟨m2, hn2, hl⟩ := I.loc
        have ko := S.out k y' h1
        have vis : Vis X.env.scope y' := .inr ko
        obtain ⟨u, ru, lk⟩ := hl j y' v e3 e2 vis
        refine ⟨u, ru, .inr ⟨S.inn k y' h1, ?_⟩⟩
        rcases lk with ⟨kl, _⟩ | ⟨_, c, hc, cell⟩
        · rcases ko with z | z <;> (rw [z] at kl; cases kl)
        · obtain ⟨c', hc'⟩ := S.has y' (S.inn k y' h1)
          have e4 := S.sub y' c' hc'
          rw [hc] at e4
          cases e4
          obtain ⟨o, ho, hd⟩ := cell
          exact ⟨c, hc', o, old c o ho, hd⟩
  · obtain ⟨v, o, ho, hd⟩ := I.cell y' c (S.sub y' c h)
    exact ⟨v, o, old c o ho, hd⟩
  · show (capS2 cap σ none none).length = N.length
    rw [S.len]
    simp [capS2]
end
def CompW2 (K : PySem.W.Frag) (cap : List Nat) (te : TE) (σ : St) (P : List V → Hp → Prop) (J : It) (H1 : Hp) : Prop :=
  ∃ W : Nat → Nat → List V → Hp → Prop, (∃ m, W 0 m [] H1) ∧ ∀ i m ys H, W i m ys H → ys.length < sizeLine ∧
    ((J.stop i H ∧ P ys H) ∨
     (J.go i H ∧ ∀ v H', J.yld i H v H' → ∃ p v1 v2, v = .ref p ∧ SqT K H' p [v1, v2] ∧ te (capS2 cap σ (some v1) (some v2)) H' fun y H3 => ∃ m', m' < m ∧ W (i + 1) m' (ys ++ [y]) H3))
def tComp2 (K : PySem.W.Frag) (wi : TI) (cap : List Nat) (te : TE) : TE := fun σ H Q => wi σ H (CompW2 K cap te σ fun ys H2 => ∀ p, H2 p = none → Q (.ref p) (upd H2 p (.lst ys)))
section
variable {X : Cx} {pins : List (Addr × Obj)} {σ : St} {scope : Scope} {x y : Str} {px py pos tp : Pos} {tk : Nat} {cl : List (Str × Addr)} {N : List Str} {cap : List Nat} {elt iter : Expr} {te : TE} {E : Value → Shared → Prop}
theorem comp_core2 {P : List V → Hp → Prop} {RR : Value → Addr → Result → Shared → Prop} {H2 : Hp} {s2 : Shared} {it : Addr} {fp : List Addr} {tn : Nat → Heap → Prop} {J : It} (hc : X.calm = true) (S : CompSc2 X scope x y cl N cap)
  (he : ∀ C s H ex, PE (cxComp X scope cl C N s H ex) elt te)
  (I2 : Inv X pins σ H2 s2) (T : Turn X.prog X.w X.K (.Tuple [.Name x px, .Name y py] tk tp) J fp it tn) (st2 : tn 0 s2.heap) (f2 : ∀ b ∈ fp, FpOk X pins H2 b) (h : CompW2 X.K cap te σ P J H2)
  (hRR : ∀ (D C : Addr) (s4 : Shared) (ys : List V) (H3 : Hp) (oC : Obj) (m : Str → Option Value), Inv X (pins ++ [(C, oC)]) σ (upd H3 D (.lst ys)) s4 → (∀ h : Heap, h.get? C = some oC → h.Ns C m) → FpOk X pins (upd H3 D (.lst ys)) C → H3 D = none → P ys H3 → RR (.ref D) C (.ok .next) s4) :
  wpAny (model X.prog X.w) X.A (newList []) (fun acc s₃ => wpAny (model X.prog X.w) X.A (newFunctionEnv scope X.env.globals cl [] X.env.qual none .none (some X.env)) (fun cenv s₄ =>
   codeAny (model X.prog X.w) X.A (.compStart (.ListComp elt [⟨.Tuple [.Name x px, .Name y py] tk tp, iter, [], 0⟩] scope pos) 0 (.ref it) acc { cenv with scope := relabel scope X.env }) (RR acc cenv.locals) s₄) E s₃) E s2 := by
 obtain ⟨W, ⟨m0, w0⟩, turn⟩ := h
 refine wpAny_newObj_type (wpAny_newFunctionEnv S.cell (by intro y hy; simp at hy) (fun h₁ hns₁ hsb₁ => ?_) S.kind)
 dsimp only at hns₁ hsb₁ ⊢
 generalize hG : s2.heap.push { cls := .type "list", dict := none, data := .seq ([] : List Value).toArray } = G at hns₁ hsb₁ ⊢
 have hC : G.objs.size = s2.heap.objs.size + 1 := by rw [← hG, Heap.size_push]
 have hDC : s2.heap.objs.size ≠ G.objs.size := by rw [hC]; exact Nat.ne_of_lt (Nat.lt_succ_self _)
 have hCle : s2.heap.objs.size ≤ G.objs.size := by rw [hC]; exact Nat.le_succ _
 have old : ∀ b o, s2.heap.get? b = some o → h₁.get? b = some o := fun b o e => by
  have hb := Heap.lt_size e
  exact hsb₁.extBut b o (by rw [hC]; exact Nat.ne_of_lt (Nat.lt_succ_of_lt hb)) (Heap.get?_push_of_some _ (hG ▸ Heap.get?_push_of_some _ e))
 have hacc : h₁.get? s2.heap.objs.size = some (lstO [] 0) := hsb₁.extBut _ _ hDC (Heap.get?_push_of_some _ (hG ▸ Heap.get?_push_size _ rfl))
 have flt : ∀ b ∈ fp, b < s2.heap.objs.size := fun b hb => by obtain ⟨o, e, _⟩ := T.obj 0 _ st2 b hb; exact Heap.lt_size e
 have fp2 : ∀ b ∈ fp, FpOk X pins H2 b ∧ b < s2.heap.objs.size := fun b hb => ⟨f2 b hb, flt b hb⟩
 have st1 : tn 0 h₁ := T.keep _ _ _ st2 fun b _ o e => old b o e
 have fD2 : H2 s2.heap.objs.size = none := I2.hok.fresh (Nat.le_refl _)
 have nDx : ∀ y c, X.env.cells.lookup y = some c → c ≠ s2.heap.objs.size ∧ c ≠ G.objs.size := fun y c e => by
  obtain ⟨v, q⟩ := I2.cell y c e
  have := q.lt
  exact ⟨Nat.ne_of_lt this, by rw [hC]; exact Nat.ne_of_lt (Nat.lt_succ_of_lt this)⟩
 have nPx : ∀ p ∈ X.pn ++ pins, p.1 < s2.heap.objs.size := fun p hp => Heap.lt_size (I2.pin p hp).1
 have fpB : ∀ {H' : Hp} {pl : List (Addr × Obj)}, (∀ b ∈ fp, H' b = none) → (∀ p ∈ pl, p.1 = s2.heap.objs.size) → ∀ b ∈ fp, FpOk (cxComp X scope cl G.objs.size N s2 H2 fp) pl H' b := fun {H' pl} hn hp b hb => by
  refine ⟨hn b hb, Nat.ne_of_lt (Nat.lt_of_lt_of_le (flt b hb) hCle), fun z => ?_, .inl hb, fun y c e => (f2 b hb).2.2.2.2.1 y c (S.sub y c e), fun p hq z => ?_⟩
  ·rcases List.mem_cons.mp (I2.stkSub b z) with e | e
   ·exact (f2 b hb).2.1 e
   ·exact (f2 b hb).2.2.1 e
  ·have e1 : p.1 = s2.heap.objs.size := hp p (by simpa [cxComp] using hq)
   rw [e1] at z
   exact absurd (flt b hb) (by rw [← z]; exact Nat.lt_irrefl _)
 have nDfs : s2.heap.objs.size ∉ frs X.stack := fun z => by
  rcases List.mem_cons.mp (I2.stkSub _ z) with e | e
  ·exact absurd I2.lt (by rw [← e]; exact Nat.lt_irrefl _)
  ·exact I2.nofs (Nat.le_refl _) e
 have pinD : ∀ {σ' : St} {H' : Hp} {s' : Shared} {ob : Obj}, Inv (cxComp X scope cl G.objs.size N s2 H2 fp) [] σ' H' s' → s'.heap.get? s2.heap.objs.size = some ob → (∀ v, ob.data ≠ .cell v) → H' s2.heap.objs.size = none →
   Inv (cxComp X scope cl G.objs.size N s2 H2 fp) [(s2.heap.objs.size, ob)] σ' H' s' := fun {σ' H' s' ob} J' e d n => J'.pins_of fun p hp => by
  have e1 : p = (s2.heap.objs.size, ob) := by simpa using hp
  subst e1
  exact ⟨e, n, hDC, nDfs, d⟩
 have nocell : ∀ (ys : List Value) (n : Nat) v, (lstO ys n).data ≠ .cell v := fun ys n v z => by cases (show Data.seq ys.toArray n = Data.cell v from z)
 have loop : ∀ s₃ : Shared, s₃ = { s2 with heap := h₁, toks := s2.toks + ([] : List (Str × Value)).length } →
   codeAny (model X.prog X.w) X.A (.compLoop (.ListComp elt [⟨.Tuple [.Name x px, .Name y py] tk tp, iter, [], 0⟩] scope pos) 0 (.ref it) (.ref s2.heap.objs.size) (compEnvC scope cl G.objs.size X.env)) (RR (.ref s2.heap.objs.size) G.objs.size) s₃ := by
  rintro s₃ rfl
  refine LCp.codeAny_compLoop_pair
   (fun n s' => ∃ i ys vs e H' a a2, Inv (cxComp X scope cl G.objs.size N s2 H2 fp) [(s2.heap.objs.size, lstO vs e)] (capS2 cap σ a a2) H' s' ∧ tn i s'.heap ∧ (∀ b ∈ fp, H' b = none) ∧ Vals ys vs ∧ H' s2.heap.objs.size = none ∧ W i n ys H') ?_ m0
   ⟨0, [], [], 0, H2, none, none, pinD (comp_start2 S I2 hCle fp2 hns₁ old) hacc (nocell _ _) fD2, st1, fun b hb => (f2 b hb).1, .nil, fD2, w0⟩
  rintro n s3 ⟨i, ys, vs, e, H3, a, a2, I3, st3, fr3, rel3, fD3, w3⟩
  obtain ⟨hlen, hcase⟩ := turn i n ys H3 w3
  have pl1 : ∀ p ∈ [(s2.heap.objs.size, lstO vs e)], p.1 = s2.heap.objs.size := fun p hp => by
   have e1 : p = (s2.heap.objs.size, lstO vs e) := by simpa using hp
   rw [e1]
  rcases hcase with ⟨stop, fin⟩ | ⟨go, step⟩
  ·refine wpAny_mono (T.done (cxComp X scope cl G.objs.size N s2 H2 fp) rfl rfl rfl hc i _ s3 _ H3 (fun _ _ => False) I3 (fpB fr3 pl1) st3 stop) (fun r s4 ⟨hr, I4⟩ => ?_) fun _ _ z => z.elim
   subst hr
   obtain ⟨hD4, hDn, _, _, _⟩ := I4.pin (s2.heap.objs.size, lstO vs e) (by simp [cxComp])
   have un4 : Un (frs X.stack) fp H2 H3 s2.heap s4.heap := I4.base
   have un5 : Un (frs X.stack) fp H2 (upd H3 s2.heap.objs.size (.lst ys)) s2.heap s4.heap := un4.track (Nat.le_refl _) hDn
   have ok5 : HOk X.prog X.w (upd H3 s2.heap.objs.size (.lst ys)) s4.heap := HOk.track I4.hok hDn ⟨Nat.le_of_lt hlen, vs, e, rel3, hD4⟩
   have I5 : Inv X pins σ (upd H3 s2.heap.objs.size (.lst ys)) s4 := I2.call' I4.os un5 ok5 I4.bare fun b hb => ⟨(f2 b hb).2.2.2.1, (f2 b hb).2.1, (f2 b hb).2.2.2.2.1, (f2 b hb).2.2.2.2.2⟩
   obtain ⟨m, hnC, _⟩ := I4.loc
   have hnC' : s4.heap.Ns G.objs.size m := hnC
   obtain ⟨oC, es, ep, hoC, hdC, hrC⟩ := id hnC'
   have hHC : (upd H3 s2.heap.objs.size (.lst ys)) G.objs.size = none := by
    rw [upd_ne (Ne.symm hDC)]
    exact I4.free
   have fC : FpOk X pins (upd H3 s2.heap.objs.size (.lst ys)) G.objs.size := by
    refine ⟨hHC, Nat.ne_of_gt (Nat.lt_of_lt_of_le I2.lt hCle), I2.nofs hCle, .inr (Nat.le_trans I2.sz hCle), fun y c q => (nDx y c q).2, fun p hp z => ?_⟩
    have := nPx p hp
    rw [z] at this
    exact absurd (Nat.lt_of_lt_of_le this hCle) (Nat.lt_irrefl _)
   refine hRR s2.heap.objs.size G.objs.size s4 ys H3 oC m (I5.pins_of fun p hp => ?_) (fun h q => ⟨oC, es, ep, q, hdC, hrC⟩) fC hDn fin
   rcases List.mem_append.mp hp with hp | hp
   ·exact I5.pin p (List.mem_append_right _ hp)
   ·have e1 : p = (G.objs.size, oC) := by simpa using hp
    subst e1
    exact ⟨hoC, hHC, fC.2.1, fC.2.2.1, fun v z => by rw [hdC] at z; cases z⟩
  ·refine wpAny_mono (T.item (cxComp X scope cl G.objs.size N s2 H2 fp) rfl rfl rfl hc i _ s3 _ H3 (fun _ _ => False) I3 (fpB fr3 pl1) st3 go) (fun r s4 ⟨u, hr, h4⟩ => ?_) fun _ _ z => z.elim
   subst hr
   refine wpAny_mono h4 (fun _ s5 ⟨v, H5, I5, r5, y5, st5, fr5⟩ => ?_) fun _ _ z => z.elim
   have I5' := I5.pinned (fpB fr5 pl1) (T.obj _ _ st5)
   have hloc : (cxComp X scope cl G.objs.size N s2 H2 fp).env.scope.names.lookup x = some .local := lookup_relabel_local S.loc
   have hloc2 : (cxComp X scope cl G.objs.size N s2 H2 fp).env.scope.names.lookup y = some .local := lookup_relabel_local S.loc2
   obtain ⟨pn, v1, v2, rfl, sq, step'⟩ := step v H5 y5
   have pg : PG (cxComp X scope cl G.objs.size N s2 H2 fp) (.Tuple [.Name x px, .Name y py] tk tp) _ := pg_tup hc (pgs_cons (pg_name (i := 0) (pos := px) S.nd S.n0 (.inl hloc) (.inr hloc)) (pgs_cons (pg_name (i := 1) (pos := py) S.nd S.n1 (.inl hloc2) (.inr hloc2)) pgs_nil))
   refine wpAny_mono (pg _ s5 _ H5 _ u (fun σ6 H6 => σ6 = capS2 cap σ (some v1) (some v2) ∧ H6 = H5) I5' r5 ⟨pn, [v1, v2], rfl, sq, rfl, v1, [v2], rfl, v2, [], rfl, rfl, rfl, rfl⟩) (fun _ s6 ⟨σ6, H6, I6, e6, e6'⟩ => ?_) fun _ _ z => z.elim
   subst e6 e6'
   have after : ∀ {H8 : Hp} {s8 : Shared}, Inv (cxComp X scope cl G.objs.size N s2 H2 fp) ([(s2.heap.objs.size, lstO vs e)] ++ pinsAt fp s5.heap) (capS2 cap σ (some v1) (some v2)) H8 s8 →
     tn (i + 1) s8.heap ∧ (∀ b ∈ fp, H8 b = none) ∧ s8.heap.get? s2.heap.objs.size = some (lstO vs e) ∧ H8 s2.heap.objs.size = none := fun {H8 s8} I8 => by
    refine ⟨T.keep _ _ _ st5 fun b hb o q => (I8.pin (b, o) (List.mem_append_right _ (List.mem_append_right _ (mem_pinsAt hb q)))).1, fun b hb => ?_, (I8.pin (s2.heap.objs.size, lstO vs e) (List.mem_append_right _ (List.mem_append_left _ List.mem_cons_self))).1, (I8.pin (s2.heap.objs.size, lstO vs e) (List.mem_append_right _ (List.mem_append_left _ List.mem_cons_self))).2.1⟩
    obtain ⟨o, q, _⟩ := T.obj _ _ st5 b hb
    exact (I8.pin (b, o) (List.mem_append_right _ (List.mem_append_right _ (mem_pinsAt hb q)))).2.1
   refine wpAny_mono (he _ _ _ _ _ s6 _ H6 _ I6 step') (fun yv s8 ⟨y', H8, I8, r8, m', hm, w8⟩ => ?_) fun _ _ z => z.elim
   obtain ⟨st8, fr8, hD8, fD8⟩ := after I8
   refine append_at (hsz := by rw [List.size_toArray, ← rel3.length]; exact Nat.le_of_lt hlen) hD8 fun h9 hs9 hD9 => ?_
   have I8u : Inv (cxComp X scope cl G.objs.size N s2 H2 fp) [] (capS2 cap σ (some v1) (some v2)) H8 s8 := I8.pins_of fun p hp => absurd hp (by simp)
   have I9 : Inv (cxComp X scope cl G.objs.size N s2 H2 fp) [] (capS2 cap σ (some v1) (some v2)) H8 { s8 with heap := h9 } :=
    I8u.turned (t' := s8.toks) (it := s2.heap.objs.size) (fun b o hb q => (hs9.2 b hb).trans q) fD8 hDC (.inr (Nat.le_refl _)) (fun y c q => (nDx y c (S.sub y c q)).1) fun p hp => absurd (show p ∈ ([] : List (Addr × Obj)) from hp) (by simp)
   have hD9' : h9.get? s2.heap.objs.size = some (lstO (vs ++ [yv]) (e + 1)) := by
    rw [hD9]
    show some ({ cls := .type "list", data := .seq (vs.toArray.push yv) (e + 1) } : Obj) = some { cls := .type "list", data := .seq (vs ++ [yv]).toArray (e + 1) }
    rw [List.push_toArray]
   refine ⟨m', hm, i + 1, ys ++ [y'], vs ++ [yv], e + 1, H8, some v1, some v2, pinD I9 hD9' (nocell _ _) fD8, ?_, fr8, rel3.append (.cons r8 .nil), fD8, w8⟩
   exact T.keep _ _ _ st8 fun b hb o q => (hs9.2 b (Nat.ne_of_lt (flt b hb))).trans q
 exact codeAny_compStart_list (loop _ rfl) (T.self _ 0 _ _ _ st1 (loop _ rfl))
theorem pe_comp2 {wi : TI} (hc : X.calm = true) (hi : PI X (.Tuple [.Name x px, .Name y py] tk tp) iter wi) (S : CompSc2 X scope x y cl N cap) (he : ∀ C s H ex, PE (cxComp X scope cl C N s H ex) elt te)
  (hs : ∀ z, foldedSetIterable iter X.env z = pure z := by intro _; rfl) : PE X (.ListComp elt [⟨.Tuple [.Name x px, .Name y py] tk tp, iter, [], 0⟩] scope pos) (tComp2 X.K wi cap te) := by
 intro pins s σ H Q I h
 rw [eval_ListComp]
 refine wpAny_comprehension_free (use := none) rfl hs S.clos S.kind S.names (thn (hi pins s σ H _ I h) fun v s1 h1 => thn h1 fun itv s2 h2 => ?_)
 obtain ⟨it, fp, tn, J, H2, e, I2, T, st2, f2, h⟩ := h2
 subst e
 refine comp_core2 (RR := fun acc C => compPost (model X.prog X.w) X.A X.xe none (EP X pins σ Q) acc C) hc S he I2 T st2 f2 h fun D C s4 ys H3 oC m I4 hnC fC hD fin => ?_
 have hoC := (I4.pin (C, oC) (List.mem_append_right _ (List.mem_append_right _ List.mem_cons_self))).1
 refine ⟨m, hnC _ hoC, fun h' hs' => ?_⟩
 exact ⟨.ref D, _, I4.unpinned.turned (t' := s4.toks) (it := C) (fun b o hb q => (hs'.2 b hb).trans q) fC.1 fC.2.1 fC.2.2.2.1 fC.2.2.2.2.1 fC.2.2.2.2.2, rfl, fin D hD⟩
end
end L2
namespace L2
open PySem PySem.Spec PyProof.Rows
section
variable {κ : Type} [DecidableEq κ]
def valV (kvs : List (κ × V)) (k : κ) : Option V := (kvs.find? fun kv => decide (kv.1 = k)).map (·.2)
def putK (kvs : List (κ × V)) (k : κ) (v : V) : List (κ × V) :=
 if (kvs.any fun kv => decide (kv.1 = k)) = true then kvs.map (fun kv => if kv.1 = k then (kv.1, v) else kv) else kvs ++ [(k, v)]
theorem valV_pos {p : κ × V} {r : List (κ × V)} {k : κ} (e : p.1 = k) : valV (p :: r) k = some p.2 := by simp [valV, List.find?_cons, e]
theorem valV_neg {p : κ × V} {r : List (κ × V)} {k : κ} (e : ¬ p.1 = k) : valV (p :: r) k = valV r k := by simp [valV, List.find?_cons, e]
theorem valV_any (k : κ) : ∀ kvs : List (κ × V), (kvs.any fun kv => decide (kv.1 = k)) = (valV kvs k).isSome
 | [] => rfl
 | p :: r => by
  rw [List.any_cons]
  by_cases e : p.1 = k
  ·simp only [valV_pos e, decide_eq_true e, Bool.true_or, Option.isSome_some]
  ·rw [valV_neg e, decide_eq_false e, Bool.false_or]; exact valV_any k r
theorem length_putK (kvs : List (κ × V)) (k : κ) (v : V) : (putK kvs k v).length ≤ kvs.length + 1 := by
 unfold putK
 split
 ·rw [List.length_map]; omega
 ·rw [List.length_append, List.length_cons, List.length_nil]; omega
theorem RelO.isSome_eq {o : Option V} {u : Option Value} (r : RelO o u) : o.isSome = u.isSome := by
 cases o with
 | none => cases u with
  | none => rfl
  | some _ => exact (show False from r).elim
 | some _ => cases u with
  | none => exact (show False from r).elim
  | some _ => rfl
theorem KV.val {kvs : List (κ × V)} {vs : List (κ × Value)} (r : KV kvs vs) (k : κ) : RelO (valV kvs k) (valueAt vs k) := by
 unfold KV at r
 induction r with
 | nil => exact True.intro
 | @cons p q ps qs h t ih =>
  obtain ⟨h1, h2⟩ := h
  by_cases e : p.1 = k
  ·have e' : q.1 = k := h1.symm.trans e
   have b : valueAt (q :: qs) k = some q.2 := by simp [valueAt, List.find?_cons, e']
   rw [valV_pos e, b]; exact h2
  ·have e' : ¬ q.1 = k := fun z => e (h1.trans z)
   have b : valueAt (q :: qs) k = valueAt qs k := by simp [valueAt, List.find?_cons, e']
   rw [valV_neg e, b]; exact ih
theorem KV.any {kvs : List (κ × V)} {vs : List (κ × Value)} (r : KV kvs vs) (k : κ) : (kvs.any fun kv => decide (kv.1 = k)) = vs.any fun kv => decide (kv.1 = k) := by
 unfold KV at r
 induction r with
 | nil => rfl
 | cons h t ih => rw [List.any_cons, List.any_cons, ih, h.1]
theorem KV.repl {kvs : List (κ × V)} {vs : List (κ × Value)} (r : KV kvs vs) (k : κ) {y : V} {u : Value} (ry : RelV y u) :
  KV (kvs.map fun kv => if kv.1 = k then (kv.1, y) else kv) (vs.map fun kv => if kv.1 = k then (kv.1, u) else kv) := by
 unfold KV at r ⊢
 induction r with
 | nil => exact .nil
 | @cons p q ps qs h t ih =>
  rw [List.map_cons, List.map_cons]
  refine .cons ?_ ih
  obtain ⟨h1, h2⟩ := h
  by_cases e : p.1 = k
  ·rw [if_pos e, if_pos (h1.symm.trans e)]; exact ⟨h1, ry⟩
  ·rw [if_neg e, if_neg (fun z => e (h1.trans z))]; exact ⟨h1, h2⟩
theorem KV.put {kvs : List (κ × V)} {vs : List (κ × Value)} (r : KV kvs vs) (k : κ) {y : V} {u : Value} (ry : RelV y u) : KV (putK kvs k y) (stored vs k u) := by
 unfold putK stored
 rw [r.any k]
 by_cases e : (vs.any fun kv => decide (kv.1 = k)) = true
 ·rw [if_pos e, if_pos e]; exact r.repl k ry
 ·rw [if_neg e, if_neg e]; exact Paired.snoc r ⟨rfl, ry⟩
theorem KV.length {kvs : List (κ × V)} {vs : List (κ × Value)} (r : KV kvs vs) : kvs.length = vs.length := Paired.length r
end
theorem kV_is {P : Program} {w : World} {k : Key} {u : Value} (r : RelV (kV k) u) : (mixKind P w).is k u = true := by
 cases k with
 | inl i => obtain ⟨t, e⟩ := (show ∃ t, u = Value.int i t from r); subst e; exact mixKind_int P w i t
 | inr x => obtain ⟨t, e⟩ := (show ∃ t, u = Value.str x t from r); subst e; exact mixKind_str P w x t
theorem items_are {P : Program} {w : World} : ∀ {ks : List Key} {us : List Value}, Vals (ks.map kV) us → ItemsAre (mixKind P w) ks us
 | [], _, r => by rw [List.map_nil] at r; cases r; exact .nil
 | k :: ks, _, r => by
  rw [List.map_cons] at r
  cases r with
  | cons h t => exact .cons (kV_is h) (items_are t)
abbrev KT (H : Hp) : List (List Key × V) → List (List Key × Addr × Value) → Prop := Paired fun p q => p.1 = q.1 ∧ H q.2.1 = some (.tup (p.1.map kV)) ∧ RelV p.2 q.2.2
theorem KT.val {H : Hp} {kvs : List (List Key × V)} {xs : List (List Key × Addr × Value)} (r : KT H kvs xs) (k : List Key) : RelO (valV kvs k) ((atKey xs k).map (·.2)) := by
 induction r with
 | nil => exact True.intro
 | @cons p q ps qs h t ih =>
  obtain ⟨h1, _, h2⟩ := h
  by_cases e : p.1 = k
  ·have e' : q.1 = k := h1.symm.trans e
   have b : atKey (q :: qs) k = some q.2 := by simp [atKey, List.find?_cons, e']
   rw [valV_pos e, b]; exact h2
  ·have e' : ¬ q.1 = k := fun z => e (h1.trans z)
   have b : atKey (q :: qs) k = atKey qs k := by simp [atKey, List.find?_cons, e']
   rw [valV_neg e, b]; exact ih
theorem KT.repl {H : Hp} {kvs : List (List Key × V)} {xs : List (List Key × Addr × Value)} (r : KT H kvs xs) (k : List Key) {y : V} {u : Value} (ry : RelV y u) :
  KT H (kvs.map fun kv => if kv.1 = k then (kv.1, y) else kv) (xs.map (putAt k u)) := by
 induction r with
 | nil => exact .nil
 | @cons p q ps qs h t ih =>
  rw [List.map_cons, List.map_cons]
  refine .cons ?_ ih
  obtain ⟨h1, h2, h3⟩ := h
  unfold putAt
  by_cases e : p.1 = k
  ·rw [if_pos e, if_pos (h1.symm.trans e)]; exact ⟨h1, h2, ry⟩
  ·rw [if_neg e, if_neg (fun z => e (h1.trans z))]; exact ⟨h1, h2, h3⟩
theorem KT.put {H : Hp} {kvs : List (List Key × V)} {xs : List (List Key × Addr × Value)} (r : KT H kvs xs) (k : List Key) {b : Addr} {y : V} {u : Value} (hb : H b = some (.tup (k.map kV))) (ry : RelV y u) :
  KT H (putK kvs k y) (storedH xs k b u) := by
 have e : (kvs.any fun kv => decide (kv.1 = k)) = (atKey xs k).isSome := by
  rw [valV_any, (r.val k).isSome_eq, Option.isSome_map]
 unfold putK storedH
 rw [e]
 by_cases q : (atKey xs k).isSome = true
 ·rw [if_pos q, if_pos q]; exact r.repl k ry
 ·rw [if_neg q, if_neg q]; exact Paired.snoc r ⟨rfl, hb, ry⟩
theorem KT.keeps {H H' : Hp} {kvs : List (List Key × V)} {xs : List (List Key × Addr × Value)} (r : KT H kvs xs) (ht : ∀ b ys, H b = some (.tup ys) → H' b = some (.tup ys)) : KT H' kvs xs :=
 Paired.mapP r fun _ _ z => ⟨z.1, ht _ _ z.2.1, z.2.2⟩
section
variable {P : Program} {w : World} {H : Hp} {h : Heap} {a : Addr}
theorem rd_of {u : HO} (ok : HOk P w H h) (e : Rd H a u) : ObjOk P w H h a u := e.ok ok
theorem dk_rd {kvs : List (Key × V)} (ok : HOk P w H h) (e : Rd H a (.dK kvs)) : kvs.length ≤ sizeLine ∧ (a == sysModules) = false ∧ ∃ vs, KV kvs vs ∧ h.DictOf (mixKind P w) a vs :=
 show ObjOk P w H h a (.dK kvs) from rd_of ok e
theorem dk_of {kvs : List (Key × V)} (ok : HOk P w H h) (e : H a = some (.dK kvs)) : kvs.length ≤ sizeLine ∧ (a == sysModules) = false ∧ ∃ vs, KV kvs vs ∧ h.DictOf (mixKind P w) a vs := dk_rd ok (.inl e)
theorem key_of {ks : List Key} (ok : HOk P w H h) (e : H a = some (.tup (ks.map kV))) : (tupleKind (mixKind P w)).is h ks a := by
 obtain ⟨_, its, r, o, h1, h2, n, h3⟩ := (show ObjOk P w H h a (.tup (ks.map kV)) from ok a _ e)
 exact ⟨o, its.toArray, n, h1, h2, h3, by simpa using items_are r⟩
theorem dt_rd {kvs : List (List Key × V)} (ok : HOk P w H h) (e : Rd H a (.dT kvs)) : kvs.length ≤ sizeLine ∧ (a == sysModules) = false ∧
  ∃ xs, KT H kvs xs ∧ h.DictOfH (tupleKind (mixKind P w)) a xs := by
 obtain ⟨z, y, xs, r, o, es, ep, h1, h2, h3, h4, h5⟩ := (show ObjOk P w H h a (.dT kvs) from rd_of ok e)
 refine ⟨z, y, xs, r, o, es, ep, h1, h2, h3, h4, fun x hx => ?_, h5⟩
 have all : ∀ {l : List (List Key × V)} {m : List (List Key × Addr × Value)}, KT H l m → ∀ x ∈ m, (tupleKind (mixKind P w)).is h x.1 x.2.1 := by
  intro l m q
  induction q with
  | nil => intro x hx; exact nomatch hx
  | @cons p q ps qs hq t ih =>
   intro x hx
   rcases List.mem_cons.mp hx with e | hx
   ·subst e
    exact key_of ok (by rw [← hq.1]; exact hq.2.1)
   ·exact ih x hx
 exact all r x hx
theorem dt_of {kvs : List (List Key × V)} (ok : HOk P w H h) (e : H a = some (.dT kvs)) : kvs.length ≤ sizeLine ∧ (a == sysModules) = false ∧
  ∃ xs, KT H kvs xs ∧ h.DictOfH (tupleKind (mixKind P w)) a xs := dt_rd ok (.inl e)
end
def DGet (H : Hp) (a : Addr) (y : V) (r : Option V) : Prop :=
 (∃ kvs k, Rd H a (.dK kvs) ∧ y = kV k ∧ r = valV kvs k) ∨ ∃ kvs k b, Rd H a (.dT kvs) ∧ y = .ref b ∧ H b = some (.tup (k.map kV)) ∧ r = valV kvs k
def DPut (H : Hp) (a : Addr) (y v : V) (H' : Hp) : Prop :=
 (∃ kvs k, H a = some (.dK kvs) ∧ y = kV k ∧ kvs.length < sizeLine ∧ H' = upd H a (.dK (putK kvs k v))) ∨
 ∃ kvs k b, H a = some (.dT kvs) ∧ y = .ref b ∧ H b = some (.tup (k.map kV)) ∧ kvs.length < sizeLine ∧ H' = upd H a (.dT (putK kvs k v))
theorem DGet.t {H : Hp} {a b : Addr} {kvs : List (List Key × V)} {k : List Key} (e : H a = some (.dT kvs)) (eb : H b = some (.tup (k.map kV))) : DGet H a (.ref b) (valV kvs k) := .inr ⟨kvs, k, b, .inl e, rfl, eb, rfl⟩
theorem DPut.t {H : Hp} {a b : Addr} {kvs : List (List Key × V)} {k : List Key} {v : V} (e : H a = some (.dT kvs)) (eb : H b = some (.tup (k.map kV))) (hl : kvs.length < sizeLine) :
  DPut H a (.ref b) v (upd H a (.dT (putK kvs k v))) := .inr ⟨kvs, k, b, e, rfl, eb, hl, rfl⟩
section
variable {X : Cx} {pins : List (Addr × Obj)} {σ : St} {H : Hp} {s : Shared} {a : Addr} {y v : V} {u r : Value} {o : Option V} {A : Around} {E : Value → Shared → Prop}
theorem Inv.big (I : Inv X pins σ H s) : sysModules < s.heap.objs.size := by
 have h : mainGlobals < s.heap.objs.size := (I.mod.glob.keeps I.bk).lt
 exact Nat.lt_trans (by decide) h
theorem d_getItem {Q : Value → Shared → Prop} (hu : A.units + 1 < cLine) (I : Inv X pins σ H s) (g : DGet H a y (some v)) (ry : RelV y u) (h : ∀ w' s', Inv X pins σ H s' → RelV v w' → Q w' s') :
  wpAny (model X.prog X.w) A (getItem (.ref a) u) Q E s := by
 rcases g with ⟨kvs, k, e, ey, l⟩ | ⟨kvs, k, b, e, ey, eb, l⟩
 ·subst ey
  obtain ⟨z, hd, vs, rel, dd⟩ := dk_rd I.hok e
  obtain ⟨w', hw, rw'⟩ := RelO.some_of (v := v) (o := valueAt vs k) (by rw [l]; exact rel.val k)
  exact wpAny_getItem_of (kV_is ry) dd.mapOf hw (h w' _ (I.tok _) rw')
 ·subst ey
  cases (show u = Value.ref b from ry)
  obtain ⟨z, hd, xs, rel, dd⟩ := dt_rd I.hok e
  obtain ⟨w', hw, rw'⟩ := RelO.some_of (v := v) (o := (atKey xs k).map (·.2)) (by rw [l]; exact rel.val k)
  obtain ⟨p, hp, hp2⟩ := Option.map_eq_some_iff.mp hw
  refine wpAny_getItem_heap (tupleKind_room_in1 hu) (key_of I.hok eb) dd hp ?_
  rw [hp2]
  exact h w' _ (I.tok _) rw'
theorem d_in {Q : Value → Shared → Prop} (hu : A.units + 1 < cLine) (I : Inv X pins σ H s) (g : DGet H a y o) (ry : RelV y u) (h : ∀ s', Inv X pins σ H s' → Q (.bool o.isSome) s') :
  wpAny (model X.prog X.w) A (compareOp .In u (.ref a)) Q E s := by
 rcases g with ⟨kvs, k, e, ey, l⟩ | ⟨kvs, k, b, e, ey, eb, l⟩
 ·subst ey
  obtain ⟨z, hd, vs, rel, dd⟩ := dk_rd I.hok e
  refine wpAny_in_of (kV_is ry) hd dd.mapOf ?_
  rw [← (rel.val k).isSome_eq, ← l]
  exact h _ (I.tok _)
 ·subst ey
  cases (show u = Value.ref b from ry)
  obtain ⟨z, hd, xs, rel, dd⟩ := dt_rd I.hok e
  refine wpAny_in_heap (tupleKind_room_in1 hu) (key_of I.hok eb) hd dd ?_
  have q := (rel.val k).isSome_eq
  rw [Option.isSome_map] at q
  rw [← q, ← l]
  exact h _ (I.tok _)
theorem d_notIn {Q : Value → Shared → Prop} (hu : A.units + 1 < cLine) (I : Inv X pins σ H s) (g : DGet H a y o) (ry : RelV y u) (h : ∀ s', Inv X pins σ H s' → Q (.bool (!o.isSome)) s') :
  wpAny (model X.prog X.w) A (compareOp .NotIn u (.ref a)) Q E s := by
 rcases g with ⟨kvs, k, e, ey, l⟩ | ⟨kvs, k, b, e, ey, eb, l⟩
 ·subst ey
  obtain ⟨z, hd, vs, rel, dd⟩ := dk_rd I.hok e
  refine wpAny_notIn_of (kV_is ry) hd dd.mapOf ?_
  rw [← (rel.val k).isSome_eq, ← l]
  exact h _ (I.tok _)
 ·subst ey
  cases (show u = Value.ref b from ry)
  obtain ⟨z, hd, xs, rel, dd⟩ := dt_rd I.hok e
  refine wpAny_notIn_heap (tupleKind_room_in1 hu) (key_of I.hok eb) hd dd ?_
  have q := (rel.val k).isSome_eq
  rw [Option.isSome_map] at q
  rw [← q, ← l]
  exact h _ (I.tok _)
theorem d_write {h' : Heap} {t' : Nat} {ob : HO} (I : Inv X pins σ H s) (mu : Mut (H a)) (hs : Heap.SameBut a s.heap h') (he : ∃ q, h'.get? a = some q) (new : ObjOk X.prog X.w (upd H a ob) h' a ob) :
  Inv X pins σ (upd H a ob) { s with heap := h', toks := t' } :=
 I.write (x := a) (e := a) mu (.inl rfl) (fun b q hb z => (hs.2 b hb).trans z) he new
theorem dk_new {P : Program} {w : World} {H' : Hp} {h' : Heap} {kvs : List (Key × V)} {vs : List (Key × Value)} (z : kvs.length ≤ sizeLine) (hd : (a == sysModules) = false) (rel : KV kvs vs) (dd : h'.DictOf (mixKind P w) a vs) :
  ObjOk P w H' h' a (.dK kvs) := ⟨z, hd, vs, rel, dd⟩
theorem d_setItem {H' : Hp} {Q : Unit → Shared → Prop} (hu : A.units + 1 < cLine) (I : Inv X pins σ H s) (g : DPut H a y v H') (ry : RelV y u) (rv : RelV v r) (h : ∀ s', Inv X pins σ H' s' → Q () s') :
  wpAny (model X.prog X.w) A (setItem (.ref a) u r) Q E s := by
 rcases g with ⟨kvs, k, e, ey, l, eH⟩ | ⟨kvs, k, b, e, ey, eb, l, eH⟩
 ·subst ey eH
  obtain ⟨z, hd, vs, rel, dd⟩ := dk_of I.hok e
  have hz : vs.length ≤ sizeLine := by rw [← rel.length]; exact z
  have hl : (putK kvs k v).length ≤ sizeLine := by have := length_putK kvs k v; omega
  refine wpAny_setItem_pairs (hsz := hz) (kV_is ry) dd fun h' dd' hs => h _ ?_
  have he : ∃ q, h'.get? a = some q := let ⟨q, _, _, hq, _⟩ := dd'; ⟨q, hq⟩
  exact d_write I (by rw [e]; exact True.intro) hs he (dk_new hl hd (rel.put k rv) dd')
 ·subst ey eH
  cases (show u = Value.ref b from ry)
  obtain ⟨z, hd, xs, rel, dd⟩ := dt_of I.hok e
  have hz : xs.length ≤ sizeLine := by rw [← Paired.length rel]; exact z
  have hl : (putK kvs k v).length ≤ sizeLine := by have := length_putK kvs k v; omega
  refine wpAny_setItem_heap (hsz := hz) (tupleKind_room_in1 hu) (key_of I.hok eb) dd fun h' dd' hs => h _ ?_
  obtain ⟨q, es, ep, hq, h2, h3, h4, _, h5⟩ := dd'
  refine d_write I (by rw [e]; exact True.intro) hs ⟨q, hq⟩ ⟨hl, hd, _, (rel.put k eb rv).keeps fun c ys ec => ?_, q, es, ep, hq, h2, h3, h4, h5⟩
  rw [upd_ne (ne_of ec e (fun z => nomatch z))]
  exact ec
end
section
variable {X : Cx} {pins : List (Addr × Obj)} {σ : St} {H : Hp} {s : Shared} {a : Addr} {kvs : List (Key × V)} {k : Key} {u : Value} {A : Around} {E : Value → Shared → Prop}
end
def NoSl (i : Expr) : Prop := ∀ ov iv, subscripted i false ov iv = operate [ov, iv] (getItem ov iv)
theorem subD_of {prog : Program} {w : World} {A : Around} {E : Value → Shared → Prop} {s : Shared} {env : Env} {value slice : Expr} {pos : Pos} {T id : String} {Q : Value → Shared → Prop}
  (hl : typeLookup (.type T) "__getitem__" = pure (some (.builtin id))) (hs : NoSl slice)
  (h : wpAny (model prog w) A (eval value env) (fun o s₁ => wpAny (model prog w) A (eval slice env) (fun i s₂ => s₂.TypeIs o T ∧ wpAny (model prog w) A (getItem o i) Q E s₂) E s₁) E s) :
  wpAny (model prog w) A (eval (.Subscript value slice pos) env) Q E s := by
 refine Subscript_ (wpAny_mono h (fun o s₁ h₁ => wpAny_mono h₁ (fun i s₂ h₂ => ?_) fun _ _ x => x) fun _ _ x => x)
 obtain ⟨hT, h₂⟩ := h₂
 unfold subscriptTail
 refine wpAny_bind ?_
 rw [getitemInPython_of_ne hT.not_modules]
 refine wpAny_bind (wpAny_specialOf hT hl ?_)
 have fin : wpAny (model prog w) A (subscripted slice false o i) (fun r s₃ => wpAny (model prog w) A (letTemporaryGo value o r >>= fun _ => pure r) Q E s₃) E s₂ := by
  rw [hs o i]
  exact wpAny_operating (wpAny_mono h₂ (fun r s₃ h₃ => wpAny_bind (wpAny_letTemporaryGo (wpAny_pure h₃))) fun _ _ x => x)
 first
  | exact wpAny_pure (wpAny_bind fin)
  | exact wpAny_bind (wpAny_pure (wpAny_bind fin))
  | exact wpAny_bind fin
theorem dict_typeIs {X : Cx} {pins : List (Addr × Obj)} {σ : St} {H : Hp} {s : Shared} {a : Addr} {y : V} {o : Option V} (I : Inv X pins σ H s) (g : DGet H a y o) : s.TypeIs (.ref a) "dict" := by
 rcases g with ⟨kvs, k, e, _, _⟩ | ⟨kvs, k, b, e, _, _, _⟩
 ·obtain ⟨_, _, vs, _, dd⟩ := dk_rd I.hok e
  exact dd.typeIs
 ·obtain ⟨_, _, xs, _, dd⟩ := dt_rd I.hok e
  exact dd.typeIs
def tDGet (td ty : TE) : TE := fun σ H Q => td σ H fun x H1 => ty σ H1 fun y H2 => ∃ a v, x = .ref a ∧ DGet H2 a y (some v) ∧ Q v H2
def sDPut (td ty tv : TE) : TS := fun D σ H => tv σ H fun v H1 => td σ H1 fun x H2 => ty σ H2 fun y H3 => ∃ a H4, x = .ref a ∧ DPut H3 a y v H4 ∧ D.nx σ H4
section
variable {X : Cx} {o i e value : Expr} {pos pos' tpos : Pos} {td ty tv : TE}
theorem pe_dget (hu : X.A.units + 1 < cLine) (ho : PE X o td) (hi : PE X i ty) (hs : NoSl i) : PE X (.Subscript o i pos) (tDGet td ty) := by
 intro pins s σ H Q I h
 refine subD_of PySem.F.slot_dict_getitem.lookup hs (thn (ho pins s σ H _ I h) fun u s1 ⟨x, H1, I1, rx, q1⟩ => thn (hi pins s1 σ H1 _ I1 q1) fun iv s2 ⟨y, H2, I2, ry, a, v, ex, g, q2⟩ => ?_)
 subst ex
 obtain rfl : u = Value.ref a := rx
 exact ⟨dict_typeIs I2 g, d_getItem hu I2 g ry fun w' s3 I3 rw' => ⟨v, H2, I3, rw', q2⟩⟩
theorem ps_dput (hu : X.A.units + 1 < cLine) (ho : PE X o td) (hi : PE X i ty) (hv : PE X value tv) (hs : swapsWith value (some (.Subscript o i pos')) pos.line X.env = pure false) :
  PS X (.Assign [.Subscript o i pos'] value pos) (sDPut td ty tv) := by
 intro pins s σ H D I h
 refine wpAny_Assign_Subscript (thn (hv pins s σ H _ I h) fun r s1 ⟨v, H1, I1, rv, q1⟩ => thn (ho pins s1 σ H1 _ I1 q1) fun u s2 ⟨x, H2, I2, rx, q2⟩ => thn (hi pins s2 σ H2 _ I2 q2) fun iv s3 ⟨y, H3, I3, ry, a, H4, ex, g, q3⟩ => ?_) hs
 subst ex
 obtain rfl : u = Value.ref a := rx
 exact d_setItem hu I3 g ry rv fun s4 I4 => ⟨σ, H4, I4, q3⟩
end
theorem dt_empty {P : Program} {w : World} {H : Hp} (h : Heap) (hb : sysModules < h.objs.size) : ObjOk P w H (h.push { cls := .type "dict", data := .dict #[] }) h.objs.size (.dT []) :=
 ⟨Nat.zero_le _, beq_eq_false_iff_ne.mpr (Ne.symm (Nat.ne_of_lt hb)), [], .nil, _, #[], 0, Heap.get?_push_size _ rfl, ⟨rfl, rfl, rfl⟩, rfl, rfl, List.nodup_nil⟩
def tDNewT : TE := fun _ H Q => ∀ p, H p = none → Q (.ref p) (upd H p (.dT []))
section
variable {X : Cx} {pos : Pos}
theorem pe_dnewT : PE X (.Dict [] [] pos) tDNewT := fun pins s σ H Q I h =>
 wpAny_Dict_empty ⟨.ref s.heap.objs.size, _, I.laid (a := s.heap.objs.size) (o := .dT []) (t' := s.toks) (fun _ _ q => Heap.get?_push_of_some _ q) (Nat.le_refl _) (dt_empty s.heap I.big), rfl, h _ (I.hok.fresh (Nat.le_refl _))⟩
end
section
variable {X : Cx} {pins : List (Addr × Obj)} {σ : St} {H : Hp} {s : Shared} {a : Addr} {y d : V} {u r : Value} {o : Option V} {A : Around} {E : Value → Shared → Prop}
end
section
variable {X : Cx} {o e f : Expr} {apos cpos : Pos} {td ty tx : TE}
end
section
variable {X : Cx} {pins : List (Addr × Obj)} {σ : St} {H : Hp} {s : Shared} {a : Addr} {kvs : List (Key × V)} {A : Around} {E : Value → Shared → Prop}
end
section
variable {X : Cx} {pins : List (Addr × Obj)} {σ : St} {H : Hp} {s : Shared} {a : Addr} {y : V} {u : Value} {A : Around} {E : Value → Shared → Prop}
end
end L2
namespace DL
open PySem PySem.Spec PyProof.Rows L2
abbrev St := L2.St
abbrev DKey := List Key
abbrev dKo (kvs : List (DKey × V)) : HO := .dT kvs
inductive W where
 | non | bl (b : Bool) | int (i : Int) | str (x : Str) | ty (n : String)
 | tup (xs : List W) | lst (xs : List W) | dct (ks : List DKey) (vs : List W) | ref (n : Nat) | exn (x : Str)
instance : Inhabited W := ⟨.non⟩
def kT : Bool := false
inductive MO where
 | lst (xs : List W) | dct (ks : List DKey) (vs : List W)
structure S where
 nxt : Nat
 mu : Nat → Option MO
inductive R (α : Type) where
 | ok (a : α) (s : S) | ex (c : W) (s : S) | stuck
def R.bind {α β : Type} (r : R α) (f : α → S → R β) : R β := match r with
 | .ok a s => f a s
 | .ex c s => .ex c s
 | .stuck => .stuck
abbrev Ga := List (Option W)
section
variable (K : PySem.W.Frag) (ι : Nat → Addr) (N : Nat) (G : Hp)
mutual
inductive RelW : V → W → Prop
 | non : RelW .non .non
 | bl (b : Bool) : RelW (.bl b) (.bl b)
 | int (i : Int) : RelW (.int i) (.int i)
 | str (x : Str) : RelW (.str x) (.str x)
 | ty (n : String) : RelW (.ty n) (.ty n)
 | tup {a : Addr} {xs : List V} {ws : List W} : SqT K G a xs → (kT = false → G a = some (.tup xs)) → RelWs xs ws → RelW (.ref a) (.tup ws)
 | lst {a : Addr} {xs : List V} {ws : List W} : SqL K G a xs → RelWs xs ws → RelW (.ref a) (.lst ws)
 | dct {a : Addr} {xs : List V} {ks : List DKey} {ws : List W} : G a = some (dKo (ks.zip xs)) → xs.length = ks.length → RelWs xs ws → RelW (.ref a) (.dct ks ws)
 | ref {n : Nat} : n < N → RelW (.ref (ι n)) (.ref n)
 | exn {a C : Addr} {x : Str} : G a = some (.ext (exPh a (.ref C))) → PySem.W.nsIn K mainGlobals x = some (some (.ref C)) → RelW (.ref a) (.exn x)
inductive RelWs : List V → List W → Prop
 | nil : RelWs [] []
 | cons {x : V} {w : W} {xs : List V} {ws : List W} : RelW x w → RelWs xs ws → RelWs (x :: xs) (w :: ws)
end
end
structure Ext (ι : Nat → Addr) (N : Nat) (G : Hp) (ι' : Nat → Addr) (N' : Nat) (G' : Hp) : Prop where
 le : N ≤ N'
 ag : ∀ n, n < N → ι' n = ι n
 sm : Same G G'
theorem Ext.refl (ι : Nat → Addr) (N : Nat) (G : Hp) : Ext ι N G ι N G := ⟨Nat.le_refl _, fun _ _ => rfl, Same.refl G⟩
theorem Ext.trans {ι ι1 ι2 : Nat → Addr} {N N1 N2 : Nat} {G G1 G2 : Hp} (a : Ext ι N G ι1 N1 G1) (b : Ext ι1 N1 G1 ι2 N2 G2) : Ext ι N G ι2 N2 G2 :=
 ⟨Nat.le_trans a.le b.le, fun n h => (b.ag n (Nat.lt_of_lt_of_le h a.le)).trans (a.ag n h), a.sm.trans b.sm⟩
theorem sqT_same {K : PySem.W.Frag} {H H' : Hp} {a : Addr} {xs : List V} (e : Same H H') (h : SqT K H a xs) : SqT K H' a xs := by
 rcases h with (h | ⟨o, h⟩) | h
 ·exact .inl (.inl (e _ _ h))
 ·exact .inl (.inr ⟨o, e _ _ h⟩)
 ·exact .inr h
section
variable {K : PySem.W.Frag} {ι ι' : Nat → Addr} {N N' : Nat} {G G' : Hp}
theorem RelW.mono (e : Ext ι N G ι' N' G') {v : V} {w : W} (h : RelW K ι N G v w) : RelW K ι' N' G' v w := by
 refine RelW.rec (motive_1 := fun v w _ => RelW K ι' N' G' v w) (motive_2 := fun vs ws _ => RelWs K ι' N' G' vs ws) ?_ ?_ ?_ ?_ ?_ ?_ ?_ ?_ ?_ ?_ ?_ ?_ h
 ·exact .non
 ·exact .bl
 ·exact .int
 ·exact .str
 ·exact .ty
 ·intro a xs ws s c _ r; exact .tup (sqT_same e.sm s) (fun h => e.sm _ _ (c h)) r
 ·intro a xs ws s _ r; exact .lst (e.sm.seq s) r
 ·intro a xs ks ws s l _ r; exact .dct (e.sm _ _ s) l r
 ·intro n hn; rw [← e.ag n hn]; exact .ref (Nat.lt_of_lt_of_le hn e.le)
 ·intro a C x s n; exact .exn (e.sm _ _ s) n
 ·exact .nil
 ·intro x w xs ws _ _ r1 r2; exact .cons r1 r2
theorem RelWs.mono (e : Ext ι N G ι' N' G') : ∀ {vs : List V} {ws : List W}, RelWs K ι N G vs ws → RelWs K ι' N' G' vs ws
 | _, _, .nil => .nil
 | _, _, .cons r t => .cons (r.mono e) (RelWs.mono e t)
theorem RelWs.length : ∀ {vs : List V} {ws : List W}, RelWs K ι N G vs ws → vs.length = ws.length
 | _, _, .nil => rfl
 | _, _, .cons _ t => by rw [List.length_cons, List.length_cons, RelWs.length t]
theorem RelWs.get : ∀ {vs : List V} {ws : List W} {i : Nat} {w : W}, RelWs K ι N G vs ws → ws[i]? = some w → ∃ v, vs[i]? = some v ∧ RelW K ι N G v w
 | _, _, _, _, .nil, e => by simp at e
 | _, _, 0, _, .cons r _, e => by simp at e; subst e; exact ⟨_, rfl, r⟩
 | _, _, i + 1, x, .cons _ t, e => by
  obtain ⟨u, h1, h2⟩ := RelWs.get (i := i) (w := x) t (by simpa using e)
  exact ⟨u, by simpa using h1, h2⟩
theorem RelWs.get' : ∀ {vs : List V} {ws : List W} {i : Nat} {v : V}, RelWs K ι N G vs ws → vs[i]? = some v → ∃ w, ws[i]? = some w ∧ RelW K ι N G v w
 | _, _, _, _, .nil, e => by simp at e
 | _, _, 0, _, .cons r _, e => by simp at e; subst e; exact ⟨_, rfl, r⟩
 | _, _, i + 1, x, .cons _ t, e => by
  obtain ⟨u, h1, h2⟩ := RelWs.get' (i := i) (v := x) t (by simpa using e)
  exact ⟨u, by simpa using h1, h2⟩
theorem RelWs.append : ∀ {vs vs' : List V} {ws ws' : List W}, RelWs K ι N G vs ws → RelWs K ι N G vs' ws' → RelWs K ι N G (vs ++ vs') (ws ++ ws')
 | _, _, _, _, .nil, s => s
 | _, _, _, _, .cons r t, s => .cons r (RelWs.append t s)
theorem RelWs.take : ∀ {vs : List V} {ws : List W} (n : Nat), RelWs K ι N G vs ws → RelWs K ι N G (vs.take n) (ws.take n)
 | _, _, 0, _ => .nil
 | _, _, _ + 1, .nil => .nil
 | _, _, n + 1, .cons r t => .cons r (RelWs.take n t)
theorem RelWs.drop : ∀ {vs : List V} {ws : List W} (n : Nat), RelWs K ι N G vs ws → RelWs K ι N G (vs.drop n) (ws.drop n)
 | _, _, 0, r => r
 | _, _, _ + 1, .nil => .nil
 | _, _, n + 1, .cons _ t => RelWs.drop n t
theorem RelWs.set {v : V} {w : W} (r : RelW K ι N G v w) : ∀ {vs : List V} {ws : List W} (n : Nat), RelWs K ι N G vs ws → RelWs K ι N G (vs.set n v) (ws.set n w)
 | _, _, _, .nil => .nil
 | _, _, 0, .cons _ t => .cons r t
 | _, _, n + 1, .cons q t => .cons q (RelWs.set r n t)
theorem RelWs.ofInts (ns : List Int) : RelWs K ι N G (ns.map V.int) (ns.map W.int) := by
 induction ns with
 | nil => exact .nil
 | cons n ns ih => exact .cons (.int n) ih
def MOR (K : PySem.W.Frag) (ι : Nat → Addr) (N : Nat) (G H : Hp) (a : Addr) : MO → Prop
 | .lst ws => ∃ xs, H a = some (.lst xs) ∧ RelWs K ι N G xs ws
 | .dct ks ws => ∃ xs, H a = some (dKo (ks.zip xs)) ∧ xs.length = ks.length ∧ RelWs K ι N G xs ws
structure SR (K : PySem.W.Frag) (ι : Nat → Addr) (st : S) (G H : Hp) : Prop where
 sub : Same G H
 live : ∀ n o, st.mu n = some o → n < st.nxt ∧ G (ι n) = none ∧ MOR K ι st.nxt G H (ι n) o
 inj : ∀ n m o o', st.mu n = some o → st.mu m = some o' → ι n = ι m → n = m
end
structure EnvR (K : PySem.W.Frag) (ι : Nat → Addr) (N : Nat) (G : Hp) (σ : St) (Γ : Ga) : Prop where
 len : σ.length = Γ.length
 get : ∀ (i : Nat) (w : W), Γ[i]? = some (some w) → ∃ v, σ[i]? = some (some v) ∧ RelW K ι N G v w
theorem EnvR.mono {K : PySem.W.Frag} {ι ι' : Nat → Addr} {N N' : Nat} {G G' : Hp} {σ : St} {Γ : Ga} (e : Ext ι N G ι' N' G') (h : EnvR K ι N G σ Γ) : EnvR K ι' N' G' σ Γ :=
 ⟨h.len, fun i w q => let ⟨v, h1, h2⟩ := h.get i w q; ⟨v, h1, h2.mono e⟩⟩
theorem EnvR.set {K : PySem.W.Frag} {ι : Nat → Addr} {N : Nat} {G : Hp} {σ : St} {Γ : Ga} {v : V} {w : W} (h : EnvR K ι N G σ Γ) (i : Nat) (r : RelW K ι N G v w) : EnvR K ι N G (σ.set i (some v)) (Γ.set i (some w)) := by
 refine ⟨by rw [List.length_set, List.length_set]; exact h.len, fun j u q => ?_⟩
 rw [List.getElem?_set] at q ⊢
 by_cases hij : i = j
 ·rw [if_pos hij] at q ⊢
  subst hij
  by_cases hl : i < Γ.length
  ·rw [if_pos hl] at q
   rw [if_pos (by rw [h.len]; exact hl)]
   cases q
   exact ⟨v, rfl, r⟩
  ·rw [if_neg hl] at q; cases q
 ·rw [if_neg hij] at q ⊢
  exact h.get j u q
section
variable {K : PySem.W.Frag} {ι : Nat → Addr} {st : S} {G H : Hp}
theorem SR.laid (h : SR K ι st G H) {p : Addr} {o : HO} (hp : H p = none) : SR K ι st (upd G p o) (upd H p o) ∧ Ext ι st.nxt G ι st.nxt (upd G p o) := by
 have hG : G p = none := h.sub.free hp
 have sm : Same G (upd G p o) := fun b u e => by rw [upd_ne (ne_of_none e hG)]; exact e
 have ex : Ext ι st.nxt G ι st.nxt (upd G p o) := ⟨Nat.le_refl _, fun _ _ => rfl, sm⟩
 refine ⟨⟨fun b u e => ?_, fun n m e => ?_, h.inj⟩, ex⟩
 ·by_cases hb : b = p
  ·subst hb; rw [upd_same] at e ⊢; exact e
  ·rw [upd_ne hb] at e ⊢; exact h.sub b u e
 ·obtain ⟨h1, h2, h3⟩ := h.live n m e
  have hne : ι n ≠ p := by
   intro z
   cases m with
   | lst ws => obtain ⟨xs, q, _⟩ := h3; rw [z, hp] at q; cases q
   | dct ks ws => obtain ⟨xs, q, _⟩ := h3; rw [z, hp] at q; cases q
  refine ⟨h1, by rw [upd_ne hne]; exact h2, ?_⟩
  cases m with
  | lst ws => obtain ⟨xs, q, r⟩ := h3; exact ⟨xs, by rw [upd_ne hne]; exact q, r.mono ex⟩
  | dct ks ws => obtain ⟨xs, q, l, r⟩ := h3; exact ⟨xs, by rw [upd_ne hne]; exact q, l, r.mono ex⟩
def S.new (st : S) (o : MO) : S := ⟨st.nxt + 1, fun n => if n = st.nxt then some o else st.mu n⟩
def S.put (st : S) (n : Nat) (o : MO) : S := ⟨st.nxt, fun m => if m = n then some o else st.mu m⟩
theorem SR.newL (h : SR K ι st G H) {p : Addr} {xs : List V} {ws : List W} (hp : H p = none) (r : RelWs K ι st.nxt G xs ws) :
  ∃ ι', Ext ι st.nxt G ι' (st.nxt + 1) G ∧ SR K ι' (st.new (.lst ws)) G (upd H p (.lst xs)) ∧ ι' st.nxt = p := by
 have hG : G p = none := h.sub.free hp
 have ex : Ext ι st.nxt G (fun n => if n = st.nxt then p else ι n) (st.nxt + 1) G := ⟨Nat.le_succ _, fun n hn => if_neg (Nat.ne_of_lt hn), Same.refl G⟩
 have nep : ∀ n o, st.mu n = some o → ι n ≠ p := fun n o e z => by
  obtain ⟨_, _, h3⟩ := h.live n o e
  cases o with
  | lst ws => obtain ⟨xs, q, _⟩ := h3; rw [z, hp] at q; cases q
  | dct ks ws => obtain ⟨xs, q, _⟩ := h3; rw [z, hp] at q; cases q
 refine ⟨fun n => if n = st.nxt then p else ι n, ex, ⟨fun b u e => ?_, fun n o e => ?_, fun n m o o' e e' z => ?_⟩, if_pos rfl⟩
 ·rw [upd_ne (ne_of_none e hG)]; exact h.sub b u e
 ·by_cases hn : n = st.nxt
  ·subst hn
   have e' : (if st.nxt = st.nxt then some (MO.lst ws) else st.mu st.nxt) = some o := e
   rw [if_pos rfl] at e'
   cases e'
   refine ⟨Nat.lt_succ_self _, by (try dsimp only); rw [if_pos rfl]; exact hG, xs, by (try dsimp only); rw [if_pos rfl, upd_same], r.mono ex⟩
  ·have e' : (if n = st.nxt then some (MO.lst ws) else st.mu n) = some o := e
   rw [if_neg hn] at e'
   obtain ⟨h1, h2, h3⟩ := h.live n o e'
   have hne := nep n o e'
   refine ⟨Nat.lt_succ_of_lt h1, by (try dsimp only); rw [if_neg hn]; exact h2, ?_⟩
   cases o with
   | lst ws => obtain ⟨xs, q, r⟩ := h3; exact ⟨xs, by (try dsimp only); rw [if_neg hn, upd_ne hne]; exact q, r.mono ex⟩
   | dct ks ws => obtain ⟨xs, q, l, r⟩ := h3; exact ⟨xs, by (try dsimp only); rw [if_neg hn, upd_ne hne]; exact q, l, r.mono ex⟩
 ·have e1 : (if n = st.nxt then some (MO.lst ws) else st.mu n) = some o := e
  have e2 : (if m = st.nxt then some (MO.lst ws) else st.mu m) = some o' := e'
  (try dsimp only at z)
  by_cases hn : n = st.nxt
  ·by_cases hm : m = st.nxt
   ·rw [hn, hm]
   ·rw [if_neg hm] at e2
    rw [if_pos hn, if_neg hm] at z
    exact absurd z.symm (nep m o' e2)
  ·rw [if_neg hn] at e1
   by_cases hm : m = st.nxt
   ·rw [if_neg hn, if_pos hm] at z
    exact absurd z (nep n o e1)
   ·rw [if_neg hm] at e2
    rw [if_neg hn, if_neg hm] at z
    exact h.inj n m o o' e1 e2 z
theorem SR.putL (h : SR K ι st G H) {n : Nat} {o : MO} {xs : List V} {ws : List W} (hn : st.mu n = some o) (r : RelWs K ι st.nxt G xs ws) : SR K ι (st.put n (.lst ws)) G (upd H (ι n) (.lst xs)) := by
 obtain ⟨h1, h2, _⟩ := h.live n o hn
 refine ⟨fun b u e => ?_, fun m u e => ?_, fun a b u u' e e' z => ?_⟩
 ·rw [upd_ne (ne_of_none e h2)]; exact h.sub b u e
 ·have e' : (if m = n then some (MO.lst ws) else st.mu m) = some u := e
  by_cases hm : m = n
  ·subst hm
   rw [if_pos rfl] at e'
   cases e'
   exact ⟨h1, h2, xs, upd_same, r⟩
  ·rw [if_neg hm] at e'
   obtain ⟨g1, g2, g3⟩ := h.live m u e'
   have hne : ι m ≠ ι n := fun z => hm (h.inj m n u o e' hn z)
   refine ⟨g1, g2, ?_⟩
   cases u with
   | lst ws => obtain ⟨xs, q, r⟩ := g3; exact ⟨xs, by rw [upd_ne hne]; exact q, r⟩
   | dct ks ws => obtain ⟨xs, q, l, r⟩ := g3; exact ⟨xs, by rw [upd_ne hne]; exact q, l, r⟩
 ·have e1 : (if a = n then some (MO.lst ws) else st.mu a) = some u := e
  have e2 : (if b = n then some (MO.lst ws) else st.mu b) = some u' := e'
  have l1 : ∃ o, st.mu a = some o := by
   by_cases q : a = n
   ·exact ⟨o, by rw [q]; exact hn⟩
   ·rw [if_neg q] at e1; exact ⟨u, e1⟩
  have l2 : ∃ o, st.mu b = some o := by
   by_cases q : b = n
   ·exact ⟨o, by rw [q]; exact hn⟩
   ·rw [if_neg q] at e2; exact ⟨u', e2⟩
  obtain ⟨o1, l1⟩ := l1
  obtain ⟨o2, l2⟩ := l2
  exact h.inj a b o1 o2 l1 l2 z
end
def ClsR (K : PySem.W.Frag) (c : W) (cls : Value) : Prop := ∃ x C, c = .str x ∧ PySem.W.nsIn K mainGlobals x = some (some (.ref C)) ∧ cls = .ref C
def XW (X : Cx) (ι : Nat → Addr) (N : Nat) (G : Hp) (c : W) (st' : S) : Prop :=
 ∀ (H' : Hp) (ι' : Nat → Addr) (G' : Hp) (ea : Addr) (cls : Value) (s' : Shared), Ext ι N G ι' st'.nxt G' → SR X.K ι' st' G' H' → ClsR X.K c cls → ExcIn X H' ea cls s' → X.xe (.ref ea) s'
theorem XW.mono {X : Cx} {ι ι1 : Nat → Addr} {N N1 : Nat} {G G1 : Hp} {c : W} {st' : S} (e : Ext ι N G ι1 N1 G1) (h : XW X ι N G c st') : XW X ι1 N1 G1 c st' :=
 fun H' ι' G' x cl s' e' r q I => h H' ι' G' x cl s' (e.trans e') r q I
def wpR (X : Cx) {α : Type} (Rel : (ι : Nat → Addr) → Nat → Hp → α → V → Prop) (ι : Nat → Addr) (N : Nat) (G : Hp) (r : R α) (Q : VK) : Prop := match r with
 | .ok w st' => ∀ v ι' G' H', Ext ι N G ι' st'.nxt G' → SR X.K ι' st' G' H' → Rel ι' st'.nxt G' w v → Q v H'
 | .ex c st' => XW X ι N G c st'
 | .stuck => False
abbrev RW (X : Cx) : (ι : Nat → Addr) → Nat → Hp → W → V → Prop := fun ι N G w v => RelW X.K ι N G v w
abbrev wpW (X : Cx) := wpR X (RW X)
theorem wpW.bind {X : Cx} {ι : Nat → Addr} {N : Nat} {G : Hp} {r : R W} {f : W → S → R W} {Q Q' : VK} (h : wpW X ι N G (r.bind f) Q)
  (k : ∀ w st' v ι' G' H', r = .ok w st' → Ext ι N G ι' st'.nxt G' → SR X.K ι' st' G' H' → RelW X.K ι' st'.nxt G' v w → wpW X ι' st'.nxt G' (f w st') Q → Q' v H') : wpW X ι N G r Q' := by
 cases r with
 | stuck => exact h
 | ex c s => exact h
 | ok w st' =>
  intro v ι' G' H' e sr rel
  refine k w st' v ι' G' H' rfl e sr rel ?_
  have h' : wpW X ι N G (f w st') Q := h
  cases q : f w st' with
  | stuck => rw [q] at h'; exact h'
  | ex c s => rw [q] at h'; exact XW.mono e h'
  | ok w2 st2 =>
   rw [q] at h'
   exact fun v2 ι2 G2 H2 e2 sr2 rel2 => h' v2 ι2 G2 H2 (e.trans e2) sr2 rel2
theorem wpW.mono {X : Cx} {ι : Nat → Addr} {N : Nat} {G : Hp} {r : R W} {Q Q' : VK} (h : wpW X ι N G r Q) (k : ∀ v H, Q v H → Q' v H) : wpW X ι N G r Q' := by
 cases r with
 | stuck => exact h
 | ex c s => exact h
 | ok w st' => exact fun v ι' G' H' e sr rel => k _ _ (h v ι' G' H' e sr rel)
theorem wpW.later {X : Cx} {ι ι1 : Nat → Addr} {N N1 : Nat} {G G1 : Hp} {r : R W} {Q : VK} (e : Ext ι N G ι1 N1 G1) (h : wpW X ι N G r Q) : wpW X ι1 N1 G1 r Q := by
 cases r with
 | stuck => exact h
 | ex c s => exact XW.mono e h
 | ok w st' => exact fun v ι' G' H' e' sr rel => h v ι' G' H' (e.trans e') sr rel
abbrev Run := Ga → S → R W
def tD (X : Cx) (run : Run) : TE := fun σ H Q => ∃ ι G st Γ, EnvR X.K ι st.nxt G σ Γ ∧ SR X.K ι st G H ∧ wpW X ι st.nxt G (run Γ st) Q
abbrev PD (X : Cx) (e : Expr) (run : Run) : Prop := PE X e (tD X run)
theorem PE.imp {X : Cx} {e : Expr} {t t' : TE} (h : PE X e t) (k : ∀ σ H Q, t' σ H Q → t σ H Q) : PE X e t' := fun pins s σ H Q I q => h pins s σ H Q I (k σ H Q q)
theorem PT.imp {X : Cx} {e : Expr} {t t' : TT} (h : PT X e t) (k : ∀ σ H Q, t' σ H Q → t σ H Q) : PT X e t' := fun pins s σ H Q I q => h pins s σ H Q I (k σ H Q q)
theorem PS.imp {X : Cx} {e : Stmt} {t t' : TS} (h : PS X e t) (k : ∀ D σ H, t' D σ H → t D σ H) : PS X e t' := fun pins s σ H D I q => h pins s σ H D I (k D σ H q)
theorem PSs.imp {X : Cx} {e : List Stmt} {t t' : TS} (h : PSs X e t) (k : ∀ D σ H, t' D σ H → t D σ H) : PSs X e t' := fun pins s σ H D I q => h pins s σ H D I (k D σ H q)
theorem PA.imp {X : Cx} {e : List Expr} {t t' : TA} (h : PA X e t) (k : ∀ σ H Q, t' σ H Q → t σ H Q) : PA X e t' := fun pos pins s σ H Q I q => h pos pins s σ H Q I (k σ H Q q)
def tDT (X : Cx) (run : Run) : TT := fun σ H Q => tD X run σ H fun v H' => ∃ b, v = .bl b ∧ Q b H'
section
variable {X : Cx}
def rVar (i : Nat) : Run := fun Γ st => match Γ[i]? with
 | some (some w) => .ok w st
 | _ => .stuck
theorem pd_var {i : Nat} {x : Str} {pos : Pos} (hN : X.N[i]? = some x) (hv : Vis X.env.scope x) (hd : (x == ("__debug__" : Str)) = false) (hcd : (x == ("__classdict__" : Str)) = false) : PD X (.Name x pos) (rVar i) := by
 refine PE.imp (pe_var hN hv hd hcd) fun σ H Q h => ?_
 obtain ⟨ι, G, st, Γ, en, sr, q⟩ := h
 unfold rVar at q
 cases e : Γ[i]? with
 | none => rw [e] at q; exact q.elim
 | some o =>
  cases o with
  | none => rw [e] at q; exact q.elim
  | some w =>
   rw [e] at q
   obtain ⟨v, h1, h2⟩ := en.get i w e
   exact ⟨v, h1, q v ι G H (Ext.refl _ _ _) sr h2⟩
def rCon (w : W) : Run := fun _ st => .ok w st
theorem pd_con {e : Expr} {v : V} {w : W} (h : PE X e (tC v)) (r : ∀ ι N G, RelW X.K ι N G v w) : PD X e (rCon w) := by
 refine PE.imp h fun σ H Q h => ?_
 obtain ⟨ι, G, st, Γ, en, sr, q⟩ := h
 exact q v ι G H (Ext.refl _ _ _) sr (r _ _ _)
abbrev Op2 := W → W → S → R W
def OpW (X : Cx) (f : Value → Value → Sem Value) (op : Op2) : Prop :=
 ∀ (pins : List (Addr × Obj)) (s : Shared) (σ : St) (H : Hp) (ι : Nat → Addr) (G : Hp) (st : S) (x y : V) (w1 w2 : W) (v u : Value) (Q : VK), Inv X pins σ H s → SR X.K ι st G H → RelV x v → RelV y u → RelW X.K ι st.nxt G x w1 → RelW X.K ι st.nxt G y w2 →
  wpW X ι st.nxt G (op w1 w2 st) Q → wpAny (model X.prog X.w) X.A (f v u) (EP X pins σ Q) X.xe s
def rOp (X : Cx) (op : Op2) : R2 := fun x y H Q => ∃ ι G st w1 w2, SR X.K ι st G H ∧ RelW X.K ι st.nxt G x w1 ∧ RelW X.K ι st.nxt G y w2 ∧ wpW X ι st.nxt G (op w1 w2 st) Q
theorem OpW.r {f : Value → Value → Sem Value} {op : Op2} (h : OpW X f op) : OpR X f (rOp X op) :=
 fun pins s σ H x y v u Q I rx ry ⟨ι, G, st, w1, w2, sr, r1, r2, q⟩ => h pins s σ H ι G st x y w1 w2 v u Q I sr rx ry r1 r2 q
def run2 (ra rb : Run) (op : Op2) : Run := fun Γ st => (ra Γ st).bind fun w1 st1 => (rb Γ st1).bind fun w2 st2 => op w1 w2 st2
theorem tD_op {ra rb : Run} {op : Op2} {σ : St} {H : Hp} {Q : VK} (h : tD X (run2 ra rb op) σ H Q) : tOp (rOp X op) (tD X ra) (tD X rb) σ H Q := by
 obtain ⟨ι, G, st, Γ, en, sr, q⟩ := h
 refine ⟨ι, G, st, Γ, en, sr, wpW.bind q fun w1 st1 v1 ι1 G1 H1 _ e1 sr1 r1 q1 => ?_⟩
 refine ⟨ι1, G1, st1, Γ, en.mono e1, sr1, wpW.bind q1 fun w2 st2 v2 ι2 G2 H2 _ e2 sr2 r2 q2 => ?_⟩
 exact ⟨ι2, G2, st2, w1, w2, sr2, r1.mono e2, r2, q2⟩
theorem pd_op {a b : Expr} {op : Operator} {pos : Pos} {ra rb : Run} {o : Op2} (ho : OpW X (binaryOp op) o) (ha : PD X a ra) (hb : PD X b rb) : PD X (.BinOp a op b pos) (run2 ra rb o) :=
 PE.imp (pe_op ho.r ha hb) fun _ _ _ h => tD_op h
theorem pd_cmp {a b : Expr} {op : CmpOp} {pos : Pos} {ra rb : Run} {o : Op2} (ho : OpW X (compareOp op) o) (ha : PD X a ra) (hb : PD X b rb) (hm : behindInMarks op b = false) : PD X (.Compare a [op] [b] pos) (run2 ra rb o) :=
 PE.imp (pe_cmpR ho.r ha hb hm) fun _ _ _ h => tD_op h
theorem pdt_cmp {a b : Expr} {op : CmpOp} {pos : Pos} {ra rb : Run} {o : Op2} (ho : OpW X (compareOp op) o) (ha : PD X a ra) (hb : PD X b rb) (hm : behindInMarks op b = false) : PT X (.Compare a [op] [b] pos) (tDT X (run2 ra rb o)) :=
 PT.imp (pt_cmpR ho.r ha hb hm) fun _ _ _ h => tD_op h
def runC (ra rb rc : Run) (o o' : Op2) : Run := fun Γ st => (ra Γ st).bind fun w1 st1 => (rb Γ st1).bind fun w2 st2 => (o w1 w2 st2).bind fun w st3 => match w with
 | .bl true => (rc Γ st3).bind fun w3 st4 => o' w2 w3 st4
 | .bl false => .ok (.bl false) st3
 | _ => .stuck
theorem tD_chain {ra rb rc : Run} {o o' : Op2} {σ : St} {H : Hp} {Q : VK} (h : tD X (runC ra rb rc o o') σ H Q) : tChain (rOp X o) (rOp X o') (tD X ra) (tD X rb) (tD X rc) σ H Q := by
 obtain ⟨ι, G, st, Γ, en, sr, q⟩ := h
 refine ⟨ι, G, st, Γ, en, sr, wpW.bind q fun w1 st1 v1 ι1 G1 H1 _ e1 sr1 r1 q1 => ?_⟩
 refine ⟨ι1, G1, st1, Γ, en.mono e1, sr1, wpW.bind q1 fun w2 st2 v2 ι2 G2 H2 _ e2 sr2 r2 q2 => ?_⟩
 refine ⟨ι2, G2, st2, w1, w2, sr2, r1.mono e2, r2, wpW.bind q2 fun w st3 v ι3 G3 H3 _ e3 sr3 r3 q3 => ?_⟩
 cases w with
 | bl b =>
  cases r3
  refine ⟨b, rfl, ?_⟩
  cases b with
  | false => rw [if_neg Bool.false_ne_true]; exact q3 _ ι3 G3 H3 (Ext.refl _ _ _) sr3 (.bl false)
  | true =>
   rw [if_pos rfl]
   refine ⟨ι3, G3, st3, Γ, ((en.mono e1).mono e2).mono e3, sr3, wpW.bind q3 fun w3 st4 v3 ι4 G4 H4 _ e4 sr4 r4 q4 => ?_⟩
   exact ⟨ι4, G4, st4, w2, w3, sr4, (r2.mono e3).mono e4, r4, q4⟩
 | _ => exact (show False from q3).elim
theorem pd_chain {a b c : Expr} {op op' : CmpOp} {pos : Pos} {ra rb rc : Run} {o o' : Op2} (ho : OpW X (compareOp op) o) (ho' : OpW X (compareOp op') o') (ha : PD X a ra) (hb : PD X b rb) (hc : PD X c rc) (hm : lastMarks [op, op'] [b, c] = false) :
  PD X (.Compare a [op, op'] [b, c] pos) (runC ra rb rc o o') := PE.imp (pe_chain ho.r ho'.r ha hb hc hm) fun _ _ _ h => tD_chain h
theorem pdt_chain {a b c : Expr} {op op' : CmpOp} {pos : Pos} {ra rb rc : Run} {o o' : Op2} (ho : OpW X (compareOp op) o) (ho' : OpW X (compareOp op') o') (ha : PD X a ra) (hb : PD X b rb) (hc : PD X c rc) (hm : lastMarks [op, op'] [b, c] = false) :
  PT X (.Compare a [op, op'] [b, c] pos) (tDT X (runC ra rb rc o o')) := PT.imp (pt_chain ho.r ho'.r ha hb hc hm) fun _ _ _ h => tD_chain h
def runAnd (ra rb : Run) : Run := fun Γ st => (ra Γ st).bind fun w st1 => match w with
 | .bl true => rb Γ st1
 | .bl false => .ok (.bl false) st1
 | _ => .stuck
def runOr (ra rb : Run) : Run := fun Γ st => (ra Γ st).bind fun w st1 => match w with
 | .bl true => .ok (.bl true) st1
 | .bl false => rb Γ st1
 | _ => .stuck
def runNot (ra : Run) : Run := fun Γ st => (ra Γ st).bind fun w st1 => match w with
 | .bl b => .ok (.bl (!b)) st1
 | _ => .stuck
def runIf (rc ra rb : Run) : Run := fun Γ st => (rc Γ st).bind fun w st1 => match w with
 | .bl true => ra Γ st1
 | .bl false => rb Γ st1
 | _ => .stuck
theorem pd_one {a : Expr} {op : BoolOp} {pos : Pos} {ra : Run} (ha : PD X a ra) : PD X (.BoolOp op [a] pos) ra := pe_one ha
theorem pd_and {a b : Expr} {rest : List Expr} {pos : Pos} {ra rb : Run} (ha : PD X a ra) (hb : PD X (.BoolOp .And (b :: rest) pos) rb) : PD X (.BoolOp .And (a :: b :: rest) pos) (runAnd ra rb) := by
 refine PE.imp (pe_and ha hb) fun σ H Q h => ?_
 obtain ⟨ι, G, st, Γ, en, sr, q⟩ := h
 refine ⟨ι, G, st, Γ, en, sr, wpW.bind q fun w st1 v ι1 G1 H1 _ e1 sr1 r1 q1 => ?_⟩
 cases w with
 | bl b =>
  cases r1
  refine ⟨b, rfl, ?_⟩
  cases b with
  | false => rw [if_neg Bool.false_ne_true]; exact q1 _ ι1 G1 H1 (Ext.refl _ _ _) sr1 (.bl false)
  | true => rw [if_pos rfl]; exact ⟨ι1, G1, st1, Γ, en.mono e1, sr1, q1⟩
 | _ => exact (show False from q1).elim
theorem pd_or {a b : Expr} {rest : List Expr} {pos : Pos} {ra rb : Run} (ha : PD X a ra) (hb : PD X (.BoolOp .Or (b :: rest) pos) rb) : PD X (.BoolOp .Or (a :: b :: rest) pos) (runOr ra rb) := by
 refine PE.imp (pe_or ha hb) fun σ H Q h => ?_
 obtain ⟨ι, G, st, Γ, en, sr, q⟩ := h
 refine ⟨ι, G, st, Γ, en, sr, wpW.bind q fun w st1 v ι1 G1 H1 _ e1 sr1 r1 q1 => ?_⟩
 cases w with
 | bl b =>
  cases r1
  refine ⟨b, rfl, ?_⟩
  cases b with
  | true => rw [if_pos rfl]; exact q1 _ ι1 G1 H1 (Ext.refl _ _ _) sr1 (.bl true)
  | false => rw [if_neg Bool.false_ne_true]; exact ⟨ι1, G1, st1, Γ, en.mono e1, sr1, q1⟩
 | _ => exact (show False from q1).elim
theorem pd_not {a : Expr} {pos : Pos} {ra : Run} (ha : PD X a ra) : PD X (.UnaryOp .Not a pos) (runNot ra) := by
 refine PE.imp (pe_not ha) fun σ H Q h => ?_
 obtain ⟨ι, G, st, Γ, en, sr, q⟩ := h
 refine ⟨ι, G, st, Γ, en, sr, wpW.bind q fun w st1 v ι1 G1 H1 _ e1 sr1 r1 q1 => ?_⟩
 cases w with
 | bl b => cases r1; exact ⟨b, rfl, q1 _ ι1 G1 H1 (Ext.refl _ _ _) sr1 (.bl _)⟩
 | _ => exact (show False from q1).elim
theorem pdt_not {a : Expr} {pos : Pos} {ra : Run} (ha : PT X a (tDT X ra)) : PT X (.UnaryOp .Not a pos) (tDT X (runNot ra)) := by
 refine PT.imp (pt_not ha) fun σ H Q h => ?_
 obtain ⟨ι, G, st, Γ, en, sr, q⟩ := h
 refine ⟨ι, G, st, Γ, en, sr, wpW.bind q fun w st1 v ι1 G1 H1 _ e1 sr1 r1 q1 => ?_⟩
 cases w with
 | bl b =>
  cases r1
  obtain ⟨b', e, q'⟩ := q1 _ ι1 G1 H1 (Ext.refl _ _ _) sr1 (.bl _)
  cases e
  exact ⟨b, rfl, q'⟩
 | _ => exact (show False from q1).elim
theorem pwt_one {a : Expr} {op : BoolOp} {pos : Pos} {ra : Run} (ha : PT X a (tDT X ra)) : PW X (.BoolOp op [a] pos) (tDT X ra) := by
 cases op with
 | And => exact pw_and1 ha
 | Or => exact pw_or1 ha
theorem PW.imp {e : Expr} {t t' : TT} (h : PW X e t) (k : ∀ σ H Q, t' σ H Q → t σ H Q) : PW X e t' := fun whole pins s σ H Q I q => h whole pins s σ H Q I (k σ H Q q)
theorem pwt_and {a b : Expr} {rest : List Expr} {pos : Pos} {ra rb : Run} (ha : PT X a (tDT X ra)) (hb : PW X (.BoolOp .And (b :: rest) pos) (tDT X rb)) : PW X (.BoolOp .And (a :: b :: rest) pos) (tDT X (runAnd ra rb)) := by
 refine PW.imp (pw_and ha hb) fun σ H Q h => ?_
 obtain ⟨ι, G, st, Γ, en, sr, q⟩ := h
 refine ⟨ι, G, st, Γ, en, sr, wpW.bind q fun w st1 v ι1 G1 H1 _ e1 sr1 r1 q1 => ?_⟩
 cases w with
 | bl b =>
  cases r1
  refine ⟨b, rfl, ?_⟩
  cases b with
  | false =>
   rw [if_neg Bool.false_ne_true]
   obtain ⟨b', e, q'⟩ := q1 _ ι1 G1 H1 (Ext.refl _ _ _) sr1 (.bl false)
   cases e; exact q'
  | true => rw [if_pos rfl]; exact ⟨ι1, G1, st1, Γ, en.mono e1, sr1, q1⟩
 | _ => exact (show False from q1).elim
theorem pwt_or {a b : Expr} {rest : List Expr} {pos : Pos} {ra rb : Run} (ha : PT X a (tDT X ra)) (hb : PW X (.BoolOp .Or (b :: rest) pos) (tDT X rb)) : PW X (.BoolOp .Or (a :: b :: rest) pos) (tDT X (runOr ra rb)) := by
 refine PW.imp (pw_or ha hb) fun σ H Q h => ?_
 obtain ⟨ι, G, st, Γ, en, sr, q⟩ := h
 refine ⟨ι, G, st, Γ, en, sr, wpW.bind q fun w st1 v ι1 G1 H1 _ e1 sr1 r1 q1 => ?_⟩
 cases w with
 | bl b =>
  cases r1
  refine ⟨b, rfl, ?_⟩
  cases b with
  | true =>
   rw [if_pos rfl]
   obtain ⟨b', e, q'⟩ := q1 _ ι1 G1 H1 (Ext.refl _ _ _) sr1 (.bl true)
   cases e; exact q'
  | false => rw [if_neg Bool.false_ne_true]; exact ⟨ι1, G1, st1, Γ, en.mono e1, sr1, q1⟩
 | _ => exact (show False from q1).elim
theorem pd_if {c a b : Expr} {pos : Pos} {rc ra rb : Run} (hc : PT X c (tDT X rc)) (ha : PD X a ra) (hb : PD X b rb) : PD X (.IfExp c a b pos) (runIf rc ra rb) := by
 refine PE.imp (pe_ifExp hc ha hb) fun σ H Q h => ?_
 obtain ⟨ι, G, st, Γ, en, sr, q⟩ := h
 refine ⟨ι, G, st, Γ, en, sr, wpW.bind q fun w st1 v ι1 G1 H1 _ e1 sr1 r1 q1 => ?_⟩
 cases w with
 | bl b =>
  cases r1
  refine ⟨b, rfl, ?_⟩
  cases b with
  | true => rw [if_pos rfl]; exact ⟨ι1, G1, st1, Γ, en.mono e1, sr1, q1⟩
  | false => rw [if_neg Bool.false_ne_true]; exact ⟨ι1, G1, st1, Γ, en.mono e1, sr1, q1⟩
 | _ => exact (show False from q1).elim
theorem pdt_val {e : Expr} {r : Run} (h : PD X e r) (he : ∀ whole, isTrue e X.env whole = (do let v ← whole; standAt e.pos; holding [v] (truthy v))) : PT X e (tDT X r) := pt_val h he
abbrev Runs := Ga → S → R (List W)
def tDA (X : Cx) (run : Runs) : TA := fun σ H Q => ∃ ι G st Γ, EnvR X.K ι st.nxt G σ Γ ∧ SR X.K ι st G H ∧ (match run Γ st with
 | .ok ws st' => ∀ vs ι' G' H', Ext ι st.nxt G ι' st'.nxt G' → SR X.K ι' st' G' H' → RelWs X.K ι' st'.nxt G' vs ws → Q vs H'
 | .ex c st' => XW X ι st.nxt G c st'
 | .stuck => False)
abbrev PDA (X : Cx) (es : List Expr) (run : Runs) : Prop := PA X es (tDA X run)
def runsNil : Runs := fun _ st => .ok [] st
def runsCons (ra : Run) (rr : Runs) : Runs := fun Γ st => (ra Γ st).bind fun w st1 => (rr Γ st1).bind fun ws st2 => .ok (w :: ws) st2
theorem pda_nil : PDA X [] runsNil := by
 refine PA.imp pa_nil fun σ H Q h => ?_
 obtain ⟨ι, G, st, Γ, en, sr, q⟩ := h
 exact q [] ι G H (Ext.refl _ _ _) sr .nil
theorem pda_cons {e : Expr} {es : List Expr} {ra : Run} {rr : Runs} (ha : PD X e ra) (hr : PDA X es rr) (hs : starEach (e :: es) X.env = (false, eval e X.env) :: starEach es X.env) : PDA X (e :: es) (runsCons ra rr) := by
 refine PA.imp (pa_cons ha hr hs) fun σ H Q h => ?_
 obtain ⟨ι, G, st, Γ, en, sr, q⟩ := h
 refine ⟨ι, G, st, Γ, en, sr, ?_⟩
 unfold runsCons at q
 cases e1 : ra Γ st with
 | stuck => rw [e1] at q; exact q
 | ex c s => rw [e1] at q; exact q
 | ok w st1 =>
  rw [e1] at q
  intro v ι1 G1 H1 x1 sr1 r1
  refine ⟨ι1, G1, st1, Γ, en.mono x1, sr1, ?_⟩
  have q' : match (rr Γ st1).bind fun ws st2 => R.ok (w :: ws) st2 with
   | .ok ws st' => ∀ vs ι' G' H', Ext ι st.nxt G ι' st'.nxt G' → SR X.K ι' st' G' H' → RelWs X.K ι' st'.nxt G' vs ws → Q vs H'
   | .ex c st' => XW X ι st.nxt G c st'
   | .stuck => False := q
  cases e2 : rr Γ st1 with
  | stuck => rw [e2] at q'; exact q'
  | ex c s => rw [e2] at q'; exact XW.mono x1 q'
  | ok ws st2 =>
   rw [e2] at q'
   exact fun vs ι2 G2 H2 x2 sr2 r2 => q' (v :: vs) ι2 G2 H2 (x1.trans x2) sr2 (.cons (r1.mono x2) r2)
abbrev OpN := List W → S → R W
def runN (rr : Runs) (op : OpN) : Run := fun Γ st => (rr Γ st).bind op
theorem tD_args {rr : Runs} {op : OpN} {σ : St} {H : Hp} {Q : VK} {Q' : List V → Hp → Prop} (h : tD X (runN rr op) σ H Q)
  (k : ∀ ws st' vs ι' G' H', SR X.K ι' st' G' H' → RelWs X.K ι' st'.nxt G' vs ws → wpW X ι' st'.nxt G' (op ws st') Q → Q' vs H') : tDA X rr σ H Q' := by
 obtain ⟨ι, G, st, Γ, en, sr, q⟩ := h
 refine ⟨ι, G, st, Γ, en, sr, ?_⟩
 unfold runN at q
 cases e1 : rr Γ st with
 | stuck => rw [e1] at q; exact q
 | ex c s => rw [e1] at q; exact q
 | ok ws st1 =>
  rw [e1] at q
  intro vs ι1 G1 H1 x1 sr1 r1
  exact k ws st1 vs ι1 G1 H1 sr1 r1 (wpW.later x1 (show wpW X ι st.nxt G (op ws st1) Q from q))
def CallW (X : Cx) (f : Value) (op : OpN) : Prop :=
 ∀ (pins : List (Addr × Obj)) (s : Shared) (σ : St) (H : Hp) (ι : Nat → Addr) (G : Hp) (st : S) (xs : List V) (ws : List W) (us : List Value) (Q : VK), Inv X pins σ H s → SR X.K ι st G H → Vals xs us → RelWs X.K ι st.nxt G xs ws →
  wpW X ι st.nxt G (op ws st) Q → wpAny (model X.prog X.w) X.A (call f us) (EP X pins σ Q) X.xe s
def rCall (X : Cx) (op : OpN) : List V → Hp → VK → Prop := fun xs H Q => ∃ ι G st ws, SR X.K ι st G H ∧ RelWs X.K ι st.nxt G xs ws ∧ wpW X ι st.nxt G (op ws st) Q
theorem CallW.r {f : Value} {op : OpN} (h : CallW X f op) : CallR X f (rCall X op) := fun pins s σ H xs us Q I r ⟨ι, G, st, ws, sr, r1, q⟩ => h pins s σ H ι G st xs ws us Q I sr r r1 q
theorem tD_callB {rr : Runs} {op : OpN} {σ : St} {H : Hp} {Q : VK} (h : tD X (runN rr op) σ H Q) : tCB (rCall X op) (tDA X rr) σ H Q :=
 tD_args h fun ws st' vs ι' G' H' sr r q => ⟨ι', G', st', ws, sr, r, q⟩
def opTup : OpN := fun ws st => if ws.length ≤ sizeLine then .ok (.tup ws) st else .stuck
def opLst : OpN := fun ws st => if ws.length ≤ sizeLine then .ok (.lst ws) st else .stuck
def opNewL : OpN := fun ws st => if ws.length ≤ sizeLine then .ok (.ref st.nxt) (st.new (.lst ws)) else .stuck
theorem tup_laid {ι : Nat → Addr} {G H : Hp} {st : S} {xs : List V} {ws : List W} {Q : VK} (sr : SR X.K ι st G H) (r : RelWs X.K ι st.nxt G xs ws) (q : wpW X ι st.nxt G (opTup ws st) Q) : xs.length ≤ sizeLine ∧ ∀ p, H p = none → Q (.ref p) (upd H p (.tup xs)) := by
 unfold opTup at q
 by_cases hl : ws.length ≤ sizeLine
 ·rw [if_pos hl] at q
  refine ⟨by rw [r.length]; exact hl, fun p hp => ?_⟩
  obtain ⟨s2, e2⟩ := sr.laid (o := .tup xs) hp
  exact q _ ι _ _ e2 s2 (.tup (.inl (.inl upd_same)) (fun _ => upd_same) (r.mono e2))
 ·rw [if_neg hl] at q; exact q.elim
theorem lst_laid {ι : Nat → Addr} {G H : Hp} {st : S} {xs : List V} {ws : List W} {Q : VK} (sr : SR X.K ι st G H) (r : RelWs X.K ι st.nxt G xs ws) (q : wpW X ι st.nxt G (opLst ws st) Q) : xs.length ≤ sizeLine ∧ ∀ p, H p = none → Q (.ref p) (upd H p (.lst xs)) := by
 unfold opLst at q
 by_cases hl : ws.length ≤ sizeLine
 ·rw [if_pos hl] at q
  refine ⟨by rw [r.length]; exact hl, fun p hp => ?_⟩
  obtain ⟨s2, e2⟩ := sr.laid (o := .lst xs) hp
  exact q _ ι _ _ e2 s2 (.lst (.inl (.inl upd_same)) (r.mono e2))
 ·rw [if_neg hl] at q; exact q.elim
theorem newL_laid {ι : Nat → Addr} {G H : Hp} {st : S} {xs : List V} {ws : List W} {Q : VK} (sr : SR X.K ι st G H) (r : RelWs X.K ι st.nxt G xs ws) (q : wpW X ι st.nxt G (opNewL ws st) Q) : xs.length ≤ sizeLine ∧ ∀ p, H p = none → Q (.ref p) (upd H p (.lst xs)) := by
 unfold opNewL at q
 by_cases hl : ws.length ≤ sizeLine
 ·rw [if_pos hl] at q
  refine ⟨by rw [r.length]; exact hl, fun p hp => ?_⟩
  obtain ⟨ι', e2, s2, ep⟩ := sr.newL hp r
  have q' := q (.ref p) ι' G (upd H p (.lst xs)) e2 s2
  rw [← ep] at q' ⊢
  exact q' (.ref (Nat.lt_succ_self _))
 ·rw [if_neg hl] at q; exact q.elim
theorem pd_tup {es : List Expr} {k : Nat} {pos : Pos} {rr : Runs} (h : PDA X es rr) : PD X (.Tuple es k pos) (runN rr opTup) :=
 PE.imp (pe_tup h) fun _ _ _ h => tD_args h fun _ _ _ _ _ _ sr r q => tup_laid sr r q
theorem pd_lst {es : List Expr} {pos : Pos} {rr : Runs} (h : PDA X es rr) : PD X (.List es pos) (runN rr opLst) :=
 PE.imp (pe_lst h) fun _ _ _ h => tD_args h fun _ _ _ _ _ _ sr r q => lst_laid sr r q
theorem pd_newL {es : List Expr} {pos : Pos} {rr : Runs} (h : PDA X es rr) : PD X (.List es pos) (runN rr opNewL) :=
 PE.imp (pe_lst h) fun _ _ _ h => tD_args h fun _ _ _ _ _ _ sr r q => newL_laid sr r q
end
end DL
namespace DL
open PySem PySem.Spec PyProof.Rows L2
section
variable {X : Cx}
def MO.items : Option MO → Option (List W)
 | some (.lst xs) => some xs
 | _ => none
def catO (a b : Option (List W)) (st : S) : R W := match a, b with
 | some xs, some ys => if xs.length + ys.length ≤ sizeLine then .ok (.lst (xs ++ ys)) st else .stuck
 | _, _ => .stuck
def opAdd : Op2 := fun a b st => match a, b with
 | .int i, .int j => .ok (.int (i + j)) st
 | .str x, .str y => if x.length + y.length ≤ sizeLine then .ok (.str (x ++ y)) st else .stuck
 | .lst xs, .lst ys => catO (some xs) (some ys) st
 | .lst xs, .ref m => catO (some xs) (MO.items (st.mu m)) st
 | .ref n, .lst ys => catO (MO.items (st.mu n)) (some ys) st
 | .ref n, .ref m => catO (MO.items (st.mu n)) (MO.items (st.mu m)) st
 | .tup xs, .tup ys => if xs ≠ [] ∧ xs.length + ys.length ≤ sizeLine then .ok (.tup (xs ++ ys)) st else .stuck
 | _, _ => .stuck
def opSub : Op2 := fun a b st => match a, b with
 | .int i, .int j => .ok (.int (i - j)) st
 | _, _ => .stuck
instance (i j : Int) : Decidable (CMul i j) := by unfold CMul; infer_instance
instance (i j : Int) : Decidable (CDiv i j) := by unfold CDiv; infer_instance
def opMulI : Op2 := fun a b st => match a, b with
 | .int i, .int j => if CMul i j then .ok (.int (i * j)) st else .stuck
 | _, _ => .stuck
def repO (a : Option (List W)) (k : Int) (st : S) : R W := match a with
 | some xs => if (-(2 ^ 63) ≤ k ∧ k < 2 ^ 63) ∧ xs.length * k.toNat ≤ sizeLine then .ok (.lst (List.replicate k.toNat xs).flatten) st else .stuck
 | none => .stuck
def opMul : Op2 := fun a b st => match a, b with
 | .lst xs, .int k => repO (some xs) k st
 | .ref n, .int k => repO (MO.items (st.mu n)) k st
 | a, b => opMulI a b st
def opDiv : Op2 := fun a b st => match a, b with
 | .int i, .int j => if CDiv i j then .ok (.int (i / j)) st else .stuck
 | _, _ => .stuck
def opMod : Op2 := fun a b st => match a, b with
 | .int i, .int j => if 0 < j then .ok (.int (i % j)) st else .stuck
 | _, _ => .stuck
theorem op_catL : OpR X (binaryOp .Add) (fun x y H Q => ∃ l b xs zs, x = .ref l ∧ y = .ref b ∧ SqL X.K H l xs ∧ SqL X.K H b zs ∧ xs.length + zs.length ≤ sizeLine ∧ ∀ p, H p = none → Q (.ref p) (upd H p (.lst (xs ++ zs)))) := by
 intro pins s σ H x y v u Q I rx ry h
 obtain ⟨l, b, xs, zs, rfl, rfl, hH, hB, hz, q⟩ := h
 cases rx
 cases ry
 obtain ⟨its, r, pl, z⟩ := I.list hH
 obtain ⟨its2, r2, pl2, z2⟩ := I.list hB
 have hl := r.length
 have hl2 := r2.length
 obtain ⟨⟨cls, dd, data, sl⟩, n, e, ec, ed, es⟩ := pl
 obtain ⟨⟨cls2, dd2, data2, sl2⟩, n2, e2, ec2, ed2, es2⟩ := pl2
 simp only at ec es ec2 es2
 subst ec es ec2 es2
 have ea : its.toArray ++ its2.toArray = (its ++ its2).toArray := by simp
 refine concat_meets ⟨_, e, rfl⟩ ⟨_, e2, rfl⟩ noFill_list_add seq_list_add PySem.F.slot_list_add PySem.F.entry_list_add (PySem.F.args_list_add_2 _ _) (list_addW l b its.toArray its2.toArray n n2 dd dd2 sl sl2 (by rw [List.size_toArray, List.size_toArray]; omega)) ⟨e, e2, ?_⟩
 rw [ea]
 exact ⟨.ref _, _, I.lnew (t' := s.toks) (r.append r2) (by rw [List.length_append]; omega), rfl, q _ I.fresh⟩
theorem items_live {K : PySem.W.Frag} {ι : Nat → Addr} {st : S} {G H : Hp} {n : Nat} {ws : List W} (sr : SR K ι st G H) (h : MO.items (st.mu n) = some ws) : ∃ xs, SqL K H (ι n) xs ∧ RelWs K ι st.nxt G xs ws := by
 cases e : st.mu n with
 | none => rw [e] at h; cases h
 | some o =>
  obtain ⟨_, _, h3⟩ := sr.live n o e
  cases o with
  | lst zs =>
   rw [e] at h
   cases h
   obtain ⟨vs, q, r⟩ := h3
   exact ⟨vs, SqL.of q, r⟩
  | dct ks vs => rw [e] at h; cases h
theorem opw_add : OpW X (binaryOp .Add) opAdd := by
 intro pins s σ H ι G st x y w1 w2 v u Q I sr rx ry r1 r2 q
 have cat : ∀ {a b : Addr} {xs ys : List V} {ws ws' : List W}, RelV (.ref a) v → RelV (.ref b) u → SqL X.K H a xs → SqL X.K H b ys → RelWs X.K ι st.nxt G xs ws → RelWs X.K ι st.nxt G ys ws' → wpW X ι st.nxt G (catO (some ws) (some ws') st) Q →
   wpAny (model X.prog X.w) X.A (binaryOp .Add v u) (EP X pins σ Q) X.xe s := by
  intro a b xs ys ws ws' rx ry s1 s2 t1 t2 q
  have q' : wpW X ι st.nxt G (if ws.length + ws'.length ≤ sizeLine then .ok (.lst (ws ++ ws')) st else .stuck) Q := q
  by_cases hl : ws.length + ws'.length ≤ sizeLine
  ·rw [if_pos hl] at q'
   refine op_catL pins s σ H _ _ v u Q I rx ry ⟨_, _, _, _, rfl, rfl, s1, s2, by rw [t1.length, t2.length]; exact hl, fun p hp => ?_⟩
   obtain ⟨sr2, e2⟩ := sr.laid (o := .lst _) hp
   exact q' _ ι _ _ e2 sr2 (.lst (.inl (.inl upd_same)) ((t1.append t2).mono e2))
  ·rw [if_neg hl] at q'; exact q'.elim
 cases w1 with
 | int i =>
  cases w2 with
  | int j => cases r1; cases r2; exact op_add pins s σ H _ _ v u Q I rx ry ⟨i, j, rfl, rfl, q _ ι G H (Ext.refl _ _ _) sr (.int _)⟩
  | _ => exact (show False from q).elim
 | str i =>
  cases w2 with
  | str j =>
   cases r1; cases r2
   have q' : wpW X ι st.nxt G (if i.length + j.length ≤ sizeLine then .ok (.str (i ++ j)) st else .stuck) Q := q
   by_cases hl : i.length + j.length ≤ sizeLine
   ·rw [if_pos hl] at q'
    exact op_add_str pins s σ H _ _ v u Q I rx ry ⟨i, j, rfl, rfl, hl, q' _ ι G H (Ext.refl _ _ _) sr (.str _)⟩
   ·rw [if_neg hl] at q'; exact q'.elim
  | _ => exact (show False from q).elim
 | lst xs =>
  cases w2 with
  | lst ys =>
   cases r1 with
   | lst s1 t1 =>
    cases r2 with
    | lst s2 t2 => exact cat rx ry (sr.sub.seq s1) (sr.sub.seq s2) t1 t2 q
  | ref m =>
   cases r1 with
   | lst s1 t1 =>
    have q' : wpW X ι st.nxt G (catO (some xs) (MO.items (st.mu m)) st) Q := q
    cases hm : MO.items (st.mu m) with
    | none => rw [hm] at q'; exact (show False from q').elim
    | some ys =>
     rw [hm] at q'
     cases r2 with
     | ref hn =>
      obtain ⟨vs, h1, h2⟩ := items_live sr hm
      exact cat rx ry (sr.sub.seq s1) h1 t1 h2 q'
  | _ => exact (show False from q).elim
 | ref n =>
  cases w2 with
  | lst ys =>
   cases r2 with
   | lst s2 t2 =>
    have q' : wpW X ι st.nxt G (catO (MO.items (st.mu n)) (some ys) st) Q := q
    cases hm : MO.items (st.mu n) with
    | none => rw [hm] at q'; exact (show False from q').elim
    | some xs =>
     rw [hm] at q'
     cases r1 with
     | ref hn =>
      obtain ⟨vs, h1, h2⟩ := items_live sr hm
      exact cat rx ry h1 (sr.sub.seq s2) h2 t2 q'
  | ref m =>
   have q' : wpW X ι st.nxt G (catO (MO.items (st.mu n)) (MO.items (st.mu m)) st) Q := q
   cases hm : MO.items (st.mu n) with
   | none => rw [hm] at q'; exact (show False from q').elim
   | some xs =>
    cases hk : MO.items (st.mu m) with
    | none => rw [hm, hk] at q'; exact (show False from q').elim
    | some ys =>
     rw [hm, hk] at q'
     cases r1 with
     | ref hn =>
      cases r2 with
      | ref hn' =>
       obtain ⟨vs, h1, h2⟩ := items_live sr hm
       obtain ⟨vs', h3, h4⟩ := items_live sr hk
       exact cat rx ry h1 h3 h2 h4 q'
  | _ => exact (show False from q).elim
 | tup xs =>
  cases w2 with
  | tup ys =>
   cases r1 with
   | tup s1 c1 t1 =>
    cases r2 with
    | tup s2 c2 t2 =>
     have q' : wpW X ι st.nxt G (if xs ≠ [] ∧ xs.length + ys.length ≤ sizeLine then .ok (.tup (xs ++ ys)) st else .stuck) Q := q
     by_cases hl : xs ≠ [] ∧ xs.length + ys.length ≤ sizeLine
     ·rw [if_pos hl] at q'
      refine op_catT pins s σ H _ _ v u Q I rx ry ⟨_, _, _, _, rfl, rfl, sqT_same sr.sub s1, sqT_same sr.sub s2, fun z => hl.1 ?_, by rw [t1.length, t2.length]; exact hl.2, fun z => ?_, fun z p hp => ?_⟩
      ·subst z; cases t1; rfl
      ·subst z
       cases t2
       refine q' _ ι G H (Ext.refl _ _ _) sr (.tup s1 c1 ?_)
       rw [List.append_nil]; exact t1
      ·obtain ⟨sr2, e2⟩ := sr.laid (o := .tup _) hp
       exact q' _ ι _ _ e2 sr2 (.tup (.inl (.inl upd_same)) (fun _ => upd_same) ((t1.append t2).mono e2))
     ·rw [if_neg hl] at q'; exact q'.elim
  | _ => exact (show False from q).elim
 | _ => exact (show False from q).elim
theorem opw_sub : OpW X (binaryOp .Sub) opSub := by
 intro pins s σ H ι G st x y w1 w2 v u Q I sr rx ry r1 r2 q
 cases w1 with
 | int i =>
  cases w2 with
  | int j => cases r1; cases r2; exact op_sub pins s σ H _ _ v u Q I rx ry ⟨i, j, rfl, rfl, q _ ι G H (Ext.refl _ _ _) sr (.int _)⟩
  | _ => exact (show False from q).elim
 | _ => exact (show False from q).elim
theorem opw_I {f : Value → Value → Sem Value} {C : Int → Int → Prop} [∀ i j, Decidable (C i j)] {g : Int → Int → Int} {op : Op2} (h : OpR X f (rI C fun i j => .int (g i j)))
  (hi : ∀ i j st, op (.int i) (.int j) st = if C i j then .ok (.int (g i j)) st else .stuck) (ho : ∀ a b st, (∀ i j, ¬ (a = .int i ∧ b = .int j)) → op a b st = .stuck) : OpW X f op := by
 intro pins s σ H ι G st x y w1 w2 v u Q I sr rx ry r1 r2 q
 by_cases hw : ∃ i j, w1 = .int i ∧ w2 = .int j
 ·obtain ⟨i, j, rfl, rfl⟩ := hw
  cases r1; cases r2
  rw [hi] at q
  by_cases hc : C i j
  ·rw [if_pos hc] at q
   exact h pins s σ H _ _ v u Q I rx ry ⟨i, j, rfl, rfl, hc, q _ ι G H (Ext.refl _ _ _) sr (.int _)⟩
  ·rw [if_neg hc] at q; exact (show False from q).elim
 ·rw [ho _ _ _ fun i j z => hw ⟨i, j, z.1, z.2⟩] at q
  exact (show False from q).elim
theorem list_mulW (l : Addr) (items : Array Value) (n : Nat) (x : Int) (u : Tok) (dd : Option Addr) (sl : Array (Option Value)) (hc0 : ¬(!Builtin.List.listFitsIndex x) = true) (hc1 : ¬items.size * x.toNat > (2 ^ 63 - 1) / 8) (hc2 : ¬Builtin.List.listTooLong (items.size * x.toNat) = true) :
  Meets (Builtin.«list.__mul__» ⟨[.ref l, .int x u], []⟩) (fun _ R s => s.heap.get? l = some { cls := .type "list", dict := dd, data := .seq items n, slots := sl } ∧ R (.ok (.ret (Value.ref s.heap.objs.size))) { s with heap := s.heap.push { cls := Value.type "list", data := Data.seq (List.foldl (fun x1 x2 => x1 ++ x2) #[] (List.replicate (if items.isEmpty = true then 0 else x.toNat) items)) }, toks := s.toks }) :=
 .of_wp fun prog w A R s h => by
  obtain ⟨hp, g, d, tk, os⟩ := s
  obtain ⟨hl, h⟩ := h
  have hsz := AutoListH.joined_fits hc2
  wp_walk
  refine wpAny_ite_false (decide_eq_false (Nat.not_lt.mpr hsz)) ?_
  wp_walk
  exact ⟨_, rfl, h⟩
theorem int_rmulW (a : Int) (t : Tok) (l : Addr) (items : Array Value) (n : Nat) (dd : Option Addr) (sl : Array (Option Value)) :
  Meets (Builtin.«int.__rmul__» ⟨[.int a t, .ref l], []⟩) (fun _ R s => s.heap.get? l = some { cls := .type "list", dict := dd, data := .seq items n, slots := sl } ∧ R (.ok (.ret Value.notImplemented)) s) :=
 .of_wp fun prog w A R s h => by
  obtain ⟨hp, g, d, tk, os⟩ := s
  obtain ⟨hl, h⟩ := h
  wp_walk
  exact ⟨_, rfl, h⟩
theorem op_repL : OpR X (binaryOp .Mult) (fun x y H Q => ∃ l k xs, x = .ref l ∧ y = .int k ∧ SqL X.K H l xs ∧ -(2 ^ 63) ≤ k ∧ k < 2 ^ 63 ∧ xs.length * k.toNat ≤ sizeLine ∧ ∀ p, H p = none → Q (.ref p) (upd H p (.lst (List.replicate k.toNat xs).flatten))) := by
 intro pins s σ H x y v u Q I rx ry h
 obtain ⟨l, k, xs, rfl, rfl, hH, h1, h2, hz, q⟩ := h
 cases rx
 obtain ⟨t, rfl⟩ := ry
 obtain ⟨its, r, pl, z⟩ := I.list hH
 have hl := r.length
 obtain ⟨⟨cls, dd, data, sl⟩, n, e, ec, ed, es⟩ := pl
 simp only at ec es
 subst ec es
 have hlen : its.toArray.size * k.toNat ≤ sizeLine := by rw [List.size_toArray, ← hl]; exact hz
 have hcap : ¬ its.toArray.size * k.toNat > (2 ^ 63 - 1) / 8 := by
  have : (sizeLine : Nat) ≤ (2 ^ 63 - 1) / 8 := by decide
  omega
 have hfit : ¬ (!Builtin.List.listFitsIndex k) = true := by rw [fitsIndex_both h1 h2]; exact Bool.false_ne_true
 have hlong : ¬ Builtin.List.listTooLong (its.toArray.size * k.toNat) = true := by rw [notLongL hlen]; exact Bool.false_ne_true
 have f0 : ∀ m : Nat, List.foldl (fun x1 x2 => x1 ++ x2) #[] (List.replicate m its.toArray) = (List.replicate m its).flatten.toArray := fun m => by have := foldl_rep its m []; rw [List.nil_append] at this; exact this
 have hnew : List.foldl (fun x1 x2 => x1 ++ x2) #[] (List.replicate (if its.toArray.isEmpty = true then 0 else k.toNat) its.toArray) = (List.replicate k.toNat its).flatten.toArray := by
  rw [f0]
  cases its with
  | nil => simp
  | cons a r' => rw [if_neg (by simp)]
 refine wpAny_binaryOp_repeat_ref (T := "list") (U := "int") (by decide) ⟨_, e, rfl⟩ (fun s' => typeIs_int s' k t) noFill_list_mul F.fills_int_mul F.slot_int_rmul repeat_list F.slot_int_index.lookup
  (call_meets F.slot_int_rmul (typeIs_int s k t) F.entry_int_rmul (F.args_int_rmul_2 _ _) (int_rmulW k t l its.toArray n dd sl) ⟨e, rfl, ⟨_, e, rfl⟩, call_meets F.slot_list_mul ⟨_, e, rfl⟩ F.entry_list_mul (F.args_list_mul_2 _ _) (list_mulW l its.toArray n k t dd sl hfit hcap hlong) ⟨e, ?_⟩⟩)
 rw [hnew]
 exact ⟨.ref _, _, I.lnew (t' := s.toks) (r.rep k.toNat) (by rw [len_rep, Nat.mul_comm]; exact hz), rfl, q _ I.fresh⟩
theorem RelWs.rep {K : PySem.W.Frag} {ι : Nat → Addr} {N : Nat} {G : Hp} {vs : List V} {ws : List W} (r : RelWs K ι N G vs ws) : ∀ k : Nat, RelWs K ι N G (List.replicate k vs).flatten (List.replicate k ws).flatten
 | 0 => .nil
 | k + 1 => by rw [List.replicate_succ, List.replicate_succ, List.flatten_cons, List.flatten_cons]; exact r.append (RelWs.rep r k)
theorem opw_mulI : OpW X (binaryOp .Mult) opMulI := opw_I op_mul (fun _ _ _ => rfl) fun a b st h => by
 cases a <;> cases b <;> first | rfl | exact absurd ⟨rfl, rfl⟩ (h _ _)
theorem opw_mul : OpW X (binaryOp .Mult) opMul := by
 intro pins s σ H ι G st x y w1 w2 v u Q I sr rx ry r1 r2 q
 have rep : ∀ {a : Addr} {k : Int} {xs : List V} {ws : List W}, RelV (.ref a) v → RelV (.int k) u → SqL X.K H a xs → RelWs X.K ι st.nxt G xs ws → wpW X ι st.nxt G (repO (some ws) k st) Q → wpAny (model X.prog X.w) X.A (binaryOp .Mult v u) (EP X pins σ Q) X.xe s := by
  intro a k xs ws rx ry s1 t1 q
  have q' : wpW X ι st.nxt G (if (-(2 ^ 63) ≤ k ∧ k < 2 ^ 63) ∧ ws.length * k.toNat ≤ sizeLine then .ok (.lst (List.replicate k.toNat ws).flatten) st else .stuck) Q := q
  by_cases hl : (-(2 ^ 63) ≤ k ∧ k < 2 ^ 63) ∧ ws.length * k.toNat ≤ sizeLine
  ·rw [if_pos hl] at q'
   refine op_repL pins s σ H _ _ v u Q I rx ry ⟨_, _, _, rfl, rfl, s1, hl.1.1, hl.1.2, by rw [t1.length]; exact hl.2, fun p hp => ?_⟩
   obtain ⟨sr2, e2⟩ := sr.laid (o := .lst _) hp
   exact q' _ ι _ _ e2 sr2 (.lst (.inl (.inl upd_same)) ((t1.rep _).mono e2))
  ·rw [if_neg hl] at q'; exact q'.elim
 unfold opMul at q
 split at q
 ·cases r1 with
  | lst s1 t1 => cases r2; exact rep rx ry (sr.sub.seq s1) t1 q
 ·rename_i n k
  cases r1 with
  | ref hn =>
   cases r2
   cases hm : MO.items (st.mu n) with
   | none => rw [hm] at q; exact (show False from q).elim
   | some xs =>
    rw [hm] at q
    obtain ⟨vs, h1, h2⟩ := items_live sr hm
    exact rep rx ry h1 h2 q
 ·exact opw_mulI pins s σ H ι G st x y w1 w2 v u Q I sr rx ry r1 r2 q
theorem opw_div : OpW X (binaryOp .FloorDiv) opDiv := opw_I op_fdiv (fun _ _ _ => rfl) fun a b st h => by
 cases a <;> cases b <;> first | rfl | exact absurd ⟨rfl, rfl⟩ (h _ _)
theorem opw_mod : OpW X (binaryOp .Mod) opMod := opw_I op_mod (fun _ _ _ => rfl) fun a b st h => by
 cases a <;> cases b <;> first | rfl | exact absurd ⟨rfl, rfl⟩ (h _ _)
def opNeg : W → S → R W := fun a st => match a with
 | .int i => .ok (.int (-i)) st
 | _ => .stuck
def run1 (ra : Run) (op : W → S → R W) : Run := fun Γ st => (ra Γ st).bind op
theorem pd_neg {a : Expr} {pos : Pos} {ra : Run} (ha : PD X a ra) : PD X (.UnaryOp .USub a pos) (run1 ra opNeg) := by
 refine PE.imp (pe_un un_neg ha) fun σ H Q h => ?_
 obtain ⟨ι, G, st, Γ, en, sr, q⟩ := h
 refine ⟨ι, G, st, Γ, en, sr, wpW.bind q fun w st1 v ι1 G1 H1 _ e1 sr1 r1 q1 => ?_⟩
 cases w with
 | int i => cases r1; exact ⟨i, rfl, q1 _ ι1 G1 H1 (Ext.refl _ _ _) sr1 (.int _)⟩
 | _ => exact (show False from q1).elim
def opLt : Op2 := fun a b st => match a, b with
 | .int i, .int j => .ok (.bl (decide (i < j))) st
 | .str x, .str y => .ok (.bl (decide (x.cps.toList < y.cps.toList))) st
 | _, _ => .stuck
def opLe : Op2 := fun a b st => match a, b with
 | .int i, .int j => .ok (.bl (decide (i ≤ j))) st
 | _, _ => .stuck
def opGt : Op2 := fun a b st => match a, b with
 | .int i, .int j => .ok (.bl (decide (j < i))) st
 | _, _ => .stuck
theorem opw_B {f : Value → Value → Sem Value} {g : Int → Int → Bool} {op : Op2} (h : OpR X f (rI0 fun i j => .bl (g i j)))
  (hi : ∀ i j st, op (.int i) (.int j) st = .ok (.bl (g i j)) st) (ho : ∀ a b st, (∀ i j, ¬ (a = .int i ∧ b = .int j)) → op a b st = .stuck) : OpW X f op := by
 intro pins s σ H ι G st x y w1 w2 v u Q I sr rx ry r1 r2 q
 by_cases hw : ∃ i j, w1 = .int i ∧ w2 = .int j
 ·obtain ⟨i, j, rfl, rfl⟩ := hw
  cases r1; cases r2
  rw [hi] at q
  exact h pins s σ H _ _ v u Q I rx ry ⟨i, j, rfl, rfl, q _ ι G H (Ext.refl _ _ _) sr (.bl _)⟩
 ·rw [ho _ _ _ fun i j z => hw ⟨i, j, z.1, z.2⟩] at q
  exact (show False from q).elim
theorem opw_le : OpW X (compareOp .LtE) opLe := opw_B op_le (fun _ _ _ => rfl) fun a b st h => by
 cases a <;> cases b <;> first | rfl | exact absurd ⟨rfl, rfl⟩ (h _ _)
theorem opw_gt : OpW X (compareOp .Gt) opGt := opw_B op_gt (fun _ _ _ => rfl) fun a b st h => by
 cases a <;> cases b <;> first | rfl | exact absurd ⟨rfl, rfl⟩ (h _ _)
theorem opw_lt : OpW X (compareOp .Lt) opLt := by
 intro pins s σ H ι G st x y w1 w2 v u Q I sr rx ry r1 r2 q
 cases w1 with
 | int i =>
  cases w2 with
  | int j => cases r1; cases r2; exact op_lt pins s σ H _ _ v u Q I rx ry ⟨i, j, rfl, rfl, q _ ι G H (Ext.refl _ _ _) sr (.bl _)⟩
  | _ => exact (show False from q).elim
 | str i =>
  cases w2 with
  | str j => cases r1; cases r2; exact op_lt_str pins s σ H _ _ v u Q I rx ry ⟨i, j, rfl, rfl, q _ ι G H (Ext.refl _ _ _) sr (.bl _)⟩
  | _ => exact (show False from q).elim
 | _ => exact (show False from q).elim
def flatW : W → Option V
 | .non => some .non
 | .bl b => some (.bl b)
 | .int i => some (.int i)
 | .str x => some (.str x)
 | _ => none
def isSeq : W → Bool
 | .tup _ => true
 | .lst _ => true
 | _ => false
def eqItems (f : W → W → Option Bool) : List W → List W → Option Bool
 | x :: xs, y :: ys => match f x y, eqItems f xs ys with
  | some a, some b => some (a && b)
  | _, _ => none
 | _, _ => some true
def eqD : Nat → W → W → Option Bool
 | 0, _, _ => none
 | n + 1, a, b => match flatW a, flatW b with
  | some x, some y => some (eqV x y)
  | some _, none => if isSeq b then some false else none
  | none, some _ => if isSeq a then some false else none
  | none, none => match a, b with
   | .tup xs, .tup ys => (eqItems (eqD n) xs ys).map fun r => r && xs.length == ys.length
   | .lst xs, .lst ys => if xs.length = ys.length then eqItems (eqD n) xs ys else some false
   | .tup _, .lst _ => some false
   | .lst _, .tup _ => some false
   | _, _ => none
theorem eqItems_e {f : W → W → Option Bool} : ∀ {xs ys : List W} {r : Bool}, eqItems f xs ys = some r →
  ∃ e : Nat → Bool, (∀ (j : Nat) x y, xs[j]? = some x → ys[j]? = some y → f x y = some (e j)) ∧ (List.range (min xs.length ys.length)).all e = r
 | [], ys, r, h => by
  refine ⟨fun _ => true, fun j x y hx _ => by simp at hx, ?_⟩
  cases h
  simp
 | x :: xs, [], r, h => by
  refine ⟨fun _ => true, fun j x y _ hy => by simp at hy, ?_⟩
  cases h
  simp
 | x :: xs, y :: ys, r, h => by
  unfold eqItems at h
  cases e1 : f x y with
  | none => rw [e1] at h; cases h
  | some a =>
   cases e2 : eqItems f xs ys with
   | none => rw [e1, e2] at h; cases h
   | some b =>
    rw [e1, e2] at h
    obtain ⟨e, h1, h2⟩ := eqItems_e e2
    refine ⟨fun j => match j with | 0 => a | j + 1 => e j, fun j x' y' hx hy => ?_, ?_⟩
    ·cases j with
     | zero => simp at hx hy; subst hx hy; exact e1
     | succ j => exact h1 j x' y' (by simpa using hx) (by simpa using hy)
    ·have em : min (x :: xs).length (y :: ys).length = min xs.length ys.length + 1 := by simp only [List.length_cons]; omega
     rw [em, List.range_succ_eq_map, List.all_cons, List.all_map]
     cases h
     show (a && (List.range (min xs.length ys.length)).all e) = (a && b)
     rw [h2]
theorem flatW_rel {K : PySem.W.Frag} {ι : Nat → Addr} {N : Nat} {G : Hp} {v x : V} {w : W} (r : RelW K ι N G v w) (h : flatW w = some x) : v = x ∧ flatV x = true := by
 cases r <;> first | (cases h; exact ⟨rfl, rfl⟩) | cases h
theorem eqD_same {K : PySem.W.Frag} {ι : Nat → Addr} {N : Nat} {G : Hp} (inT : ∀ a xs ys, SqT K G a xs → SqT K G a ys → xs = ys) (inL : ∀ a xs ys, SqL K G a xs → SqL K G a ys → xs = ys) (ntl : ∀ a xs ys, SqT K G a xs → SqL K G a ys → False) :
  ∀ (n : Nat) {v : V} {w1 w2 : W} {b : Bool}, RelW K ι N G v w1 → RelW K ι N G v w2 → eqD n w1 w2 = some b → b = true
 | 0, _, _, _, _, _, _, h => by cases h
 | n + 1, v, w1, w2, b, r1, r2, h => by
  have items : ∀ {xs : List V} {ws1 ws2 : List W} {r : Bool}, RelWs K ι N G xs ws1 → RelWs K ι N G xs ws2 → eqItems (eqD n) ws1 ws2 = some r → r = true := by
   intro xs
   induction xs with
   | nil => intro ws1 ws2 r t1 t2 e; cases t1; cases t2; cases e; rfl
   | cons x xs ih =>
    intro ws1 ws2 r t1 t2 e
    cases t1 with
    | @cons _ w _ wt1 a1 t1 =>
     cases t2 with
     | @cons _ w' _ wt2 a2 t2 =>
      unfold eqItems at e
      cases e1 : eqD n w w' with
      | none => rw [e1] at e; cases e
      | some p =>
       cases e2 : eqItems (eqD n) wt1 wt2 with
       | none => rw [e1, e2] at e; cases e
       | some q =>
        rw [e1, e2] at e
        cases e
        rw [eqD_same inT inL ntl n a1 a2 e1, ih t1 t2 e2]; rfl
  unfold eqD at h
  cases f1 : flatW w1 with
  | some x =>
   obtain ⟨ex, fx⟩ := flatW_rel r1 f1
   cases f2 : flatW w2 with
   | some y =>
    obtain ⟨ey, fy⟩ := flatW_rel r2 f2
    rw [f1, f2] at h
    have h' : some (eqV x y) = some b := h
    cases h'
    rw [← ex, ← ey]
    exact eqV_refl (by rw [ex]; exact fx)
   | none =>
    rw [f1, f2] at h
    cases r2 <;> first | (cases f2; done) | (subst ex; cases fx; done)
  | none =>
   cases f2 : flatW w2 with
   | some y =>
    obtain ⟨ey, fy⟩ := flatW_rel r2 f2
    cases r1 <;> first | (cases f1; done) | (subst ey; cases fy; done)
   | none =>
    rw [f1, f2] at h
    cases r1 with
    | tup s1 c1 t1 =>
     rename_i a xs ws1
     cases w2 with
     | tup ws2 =>
      cases r2 with
      | tup s2 c2 t2 =>
       cases inT _ _ _ s1 s2
       have h' : (eqItems (eqD n) ws1 ws2).map (fun r => r && ws1.length == ws2.length) = some b := h
       cases e : eqItems (eqD n) ws1 ws2 with
       | none => rw [e] at h'; cases h'
       | some r =>
        rw [e] at h'
        cases h'
        rw [items t1 t2 e, ← t1.length, ← t2.length]
        simp
     | lst ws2 =>
      cases r2 with
      | lst s2 t2 => exact (ntl _ _ _ s1 s2).elim
     | _ => cases h
    | lst s1 t1 =>
     rename_i a xs ws1
     cases w2 with
     | lst ws2 =>
      cases r2 with
      | lst s2 t2 =>
       cases inL _ _ _ s1 s2
       have h' : (if ws1.length = ws2.length then eqItems (eqD n) ws1 ws2 else some false) = some b := h
       rw [if_pos (by rw [← t1.length, ← t2.length])] at h'
       exact items t1 t2 h'
     | tup ws2 =>
      cases r2 with
      | tup s2 c2 t2 => exact (ntl _ _ _ s2 s1).elim
     | _ => cases h
    | _ => first | (cases f1; done) | (cases w2 <;> cases h)
end
end DL
namespace DL
open PySem PySem.Spec PyProof.Rows L2
section
variable {X : Cx}
def EqB (A : Around) (s : Shared) (u v : Value) (b : Bool) : Prop := SeqAt.EqAt A s u v b ∧ SeqAt.RcAt A s u v b ∧ SeqAt.RcNeAt A s u v (!b)
theorem eqB_V {A : Around} {s : Shared} {y x : V} {u v : Value} (ry : RelV y u) (rx : RelV x v) (fy : flatV y = true) (fx : flatV x = true) : EqB A s u v (eqV y x) := by
 refine ⟨eqAt_V ry rx fy fx, ?_⟩
 cases y with
 | non =>
  cases ry
  cases x with
  | non => cases rx; exact ⟨SeqAt.RcAt.none_none, SeqAt.RcNeAt.none_none⟩
  | bl b => cases rx; exact ⟨SeqAt.RcAt.none_bool b, SeqAt.RcNeAt.none_bool b⟩
  | int b => obtain ⟨t, rfl⟩ := rx; exact ⟨SeqAt.RcAt.none_int b t, SeqAt.RcNeAt.none_int b t⟩
  | str b => obtain ⟨t, rfl⟩ := rx; exact ⟨SeqAt.RcAt.none_str b t, SeqAt.RcNeAt.none_str b t⟩
  | _ => exact absurd (show false = true from fx) Bool.false_ne_true
 | bl a =>
  cases ry
  cases x with
  | non => cases rx; exact ⟨SeqAt.RcAt.bool_none a, SeqAt.RcNeAt.bool_none a⟩
  | bl b => cases rx; exact ⟨SeqAt.RcAt.bool_bool a b, SeqAt.RcNeAt.bool_bool a b⟩
  | int b => obtain ⟨t, rfl⟩ := rx; exact ⟨SeqAt.RcAt.bool_int a b t, SeqAt.RcNeAt.bool_int a b t⟩
  | str b => obtain ⟨t, rfl⟩ := rx; exact ⟨SeqAt.RcAt.bool_str a b t, SeqAt.RcNeAt.bool_str a b t⟩
  | _ => exact absurd (show false = true from fx) Bool.false_ne_true
 | int a =>
  obtain ⟨t', rfl⟩ := ry
  cases x with
  | non => cases rx; exact ⟨SeqAt.RcAt.int_none a t', SeqAt.RcNeAt.int_none a t'⟩
  | bl b => cases rx; exact ⟨SeqAt.RcAt.int_bool a t' b, SeqAt.RcNeAt.int_bool a t' b⟩
  | int b => obtain ⟨t, rfl⟩ := rx; exact ⟨SeqAt.RcAt.int_int a t' b t, SeqAt.RcNeAt.int_int a t' b t⟩
  | str b => obtain ⟨t, rfl⟩ := rx; exact ⟨SeqAt.RcAt.int_str a t' b t, SeqAt.RcNeAt.int_str a t' b t⟩
  | _ => exact absurd (show false = true from fx) Bool.false_ne_true
 | str a =>
  obtain ⟨t', rfl⟩ := ry
  cases x with
  | non => cases rx; exact ⟨SeqAt.RcAt.str_none a t', SeqAt.RcNeAt.str_none a t'⟩
  | bl b => cases rx; exact ⟨SeqAt.RcAt.str_bool a t' b, SeqAt.RcNeAt.str_bool a t' b⟩
  | int b => obtain ⟨t, rfl⟩ := rx; exact ⟨SeqAt.RcAt.str_int a t' b t, SeqAt.RcNeAt.str_int a t' b t⟩
  | str b => obtain ⟨t, rfl⟩ := rx; exact ⟨SeqAt.RcAt.str_str a t' b t, SeqAt.RcNeAt.str_str a t' b t⟩
  | _ => exact absurd (show false = true from fx) Bool.false_ne_true
 | _ => exact absurd (show false = true from fy) Bool.false_ne_true
section
variable {A : Around} {s : Shared} {y : V} {u : Value} {l : Addr} {items : Array Value}
theorem eqB_flat_list (ry : RelV y u) (fy : flatV y = true) (hl : s.heap.IsList l items) (hu : A.units < cLine) : EqB A s u (.ref l) false := by
 cases y with
 | non => cases ry; exact ⟨SeqAt.EqAt.none_list hl hu, SeqAt.RcAt.none_list hl hu, SeqAt.RcNeAt.none_list hl hu⟩
 | bl b => cases ry; exact ⟨SeqAt.EqAt.bool_list b hl hu, SeqAt.RcAt.bool_list b hl hu, SeqAt.RcNeAt.bool_list b hl hu⟩
 | int b => obtain ⟨t, rfl⟩ := ry; exact ⟨SeqAt.EqAt.int_list b t hl hu, SeqAt.RcAt.int_list b t hl hu, SeqAt.RcNeAt.int_list b t hl hu⟩
 | str b => obtain ⟨t, rfl⟩ := ry; exact ⟨SeqAt.EqAt.str_list b t hl hu, SeqAt.RcAt.str_list b t hl hu, SeqAt.RcNeAt.str_list b t hl hu⟩
 | _ => exact absurd (show false = true from fy) Bool.false_ne_true
theorem eqB_list_flat (ry : RelV y u) (fy : flatV y = true) (hl : s.heap.IsList l items) (hu : A.units < cLine) : EqB A s (.ref l) u false := by
 cases y with
 | non => cases ry; exact ⟨SeqAt.EqAt.list_none hl hu, SeqAt.RcAt.list_none hl hu, SeqAt.RcNeAt.list_none hl hu⟩
 | bl b => cases ry; exact ⟨SeqAt.EqAt.list_bool b hl hu, SeqAt.RcAt.list_bool b hl hu, SeqAt.RcNeAt.list_bool b hl hu⟩
 | int b => obtain ⟨t, rfl⟩ := ry; exact ⟨SeqAt.EqAt.list_int b t hl hu, SeqAt.RcAt.list_int b t hl hu, SeqAt.RcNeAt.list_int b t hl hu⟩
 | str b => obtain ⟨t, rfl⟩ := ry; exact ⟨SeqAt.EqAt.list_str b t hl hu, SeqAt.RcAt.list_str b t hl hu, SeqAt.RcNeAt.list_str b t hl hu⟩
 | _ => exact absurd (show false = true from fy) Bool.false_ne_true
theorem eqB_flat_tuple (ry : RelV y u) (fy : flatV y = true) (hl : s.heap.IsTuple l items) (hu : A.units < cLine) : EqB A s u (.ref l) false := by
 cases y with
 | non => cases ry; exact ⟨SeqAt.EqAt.none_tuple hl hu, SeqAt.RcAt.none_tuple hl hu, SeqAt.RcNeAt.none_tuple hl hu⟩
 | bl b => cases ry; exact ⟨SeqAt.EqAt.bool_tuple b hl hu, SeqAt.RcAt.bool_tuple b hl hu, SeqAt.RcNeAt.bool_tuple b hl hu⟩
 | int b => obtain ⟨t, rfl⟩ := ry; exact ⟨SeqAt.EqAt.int_tuple b t hl hu, SeqAt.RcAt.int_tuple b t hl hu, SeqAt.RcNeAt.int_tuple b t hl hu⟩
 | str b => obtain ⟨t, rfl⟩ := ry; exact ⟨SeqAt.EqAt.str_tuple b t hl hu, SeqAt.RcAt.str_tuple b t hl hu, SeqAt.RcNeAt.str_tuple b t hl hu⟩
 | _ => exact absurd (show false = true from fy) Bool.false_ne_true
theorem eqB_tuple_flat (ry : RelV y u) (fy : flatV y = true) (hl : s.heap.IsTuple l items) (hu : A.units < cLine) : EqB A s (.ref l) u false := by
 cases y with
 | non => cases ry; exact ⟨SeqAt.EqAt.tuple_none hl hu, SeqAt.RcAt.tuple_none hl hu, SeqAt.RcNeAt.tuple_none hl hu⟩
 | bl b => cases ry; exact ⟨SeqAt.EqAt.tuple_bool b hl hu, SeqAt.RcAt.tuple_bool b hl hu, SeqAt.RcNeAt.tuple_bool b hl hu⟩
 | int b => obtain ⟨t, rfl⟩ := ry; exact ⟨SeqAt.EqAt.tuple_int b t hl hu, SeqAt.RcAt.tuple_int b t hl hu, SeqAt.RcNeAt.tuple_int b t hl hu⟩
 | str b => obtain ⟨t, rfl⟩ := ry; exact ⟨SeqAt.EqAt.tuple_str b t hl hu, SeqAt.RcAt.tuple_str b t hl hu, SeqAt.RcNeAt.tuple_str b t hl hu⟩
 | _ => exact absurd (show false = true from fy) Bool.false_ne_true
end
section
variable {pins : List (Addr × Obj)} {σ : St} {H : Hp} {s : Shared} {ι : Nat → Addr} {N : Nat}
theorem list_inj (I : Inv X pins σ H s) {a : Addr} {xs ys : List V} (h1 : SqL X.K H a xs) (h2 : SqL X.K H a ys) : xs = ys := by
 obtain ⟨its, r, pl, _⟩ := I.list h1
 obtain ⟨its2, r2, pl2, _⟩ := I.list h2
 obtain ⟨o, n, e, _, _, d⟩ := pl
 obtain ⟨o2, n2, e2, _, _, d2⟩ := pl2
 rw [e] at e2; cases e2
 rw [d] at d2; cases d2
 exact r.inj r2
theorem not_both (I : Inv X pins σ H s) {a : Addr} {xs ys : List V} (h1 : SqT X.K H a xs) (h2 : SqL X.K H a ys) : False := by
 obtain ⟨its, r, pl, _⟩ := I.tuple h1
 obtain ⟨its2, r2, pl2, _⟩ := I.list h2
 obtain ⟨o, e, c, _⟩ := pl
 obtain ⟨o2, n2, e2, c2, _, _⟩ := pl2
 rw [e] at e2; cases e2
 rw [c] at c2
 injection c2 with h
 exact absurd h (by decide)
theorem eqD_at (I : Inv X pins σ H s) : ∀ (n : Nat) {w1 w2 : W} {b : Bool} {v1 v2 : V} {u1 u2 : Value} {A : Around}, eqD n w1 w2 = some b → RelW X.K ι N H v1 w1 → RelW X.K ι N H v2 w2 → RelV v1 u1 → RelV v2 u2 → A.units + n < cLine → EqB A s u1 u2 b
 | 0, _, _, _, _, _, _, _, _, h, _, _, _, _, _ => by cases h
 | n + 1, w1, w2, b, v1, v2, u1, u2, A, h, r1, r2, q1, q2, hA => by
  have hA1 : A.units < cLine := by omega
  have its_at : ∀ {xs ys : List V} {ws1 ws2 : List W} {its its2 : List Value} {e : Nat → Bool}, RelWs X.K ι N H xs ws1 → RelWs X.K ι N H ys ws2 → Vals xs its → Vals ys its2 → (∀ (j : Nat) x y, ws1[j]? = some x → ws2[j]? = some y → eqD n x y = some (e j)) →
    ∀ j (h1 : j < its.toArray.size) (h2 : j < its2.toArray.size), SeqAt.EqAt A.in1 s its.toArray[j] its2.toArray[j] (e j) := by
   intro xs ys ws1 ws2 its its2 e t1 t2 p1 p2 he j h1 h2
   have h1' : j < its.length := by simpa using h1
   have h2' : j < its2.length := by simpa using h2
   obtain ⟨x', ex, rx⟩ := p1.at h1'
   obtain ⟨y', ey, ry⟩ := p2.at h2'
   obtain ⟨w, ew, rw1⟩ := t1.get' ex
   obtain ⟨w', ew', rw2⟩ := t2.get' ey
   have z1 : its.toArray[j] = its[j] := by simp
   have z2 : its2.toArray[j] = its2[j] := by simp
   rw [z1, z2]
   exact (eqD_at I n (A := A.in1) (he j w w' ew ew') rw1 rw2 rx ry (by show A.units + 1 + n < cLine; omega)).1
  have keep := h
  unfold eqD at h
  cases f1 : flatW w1 with
  | some x =>
   obtain ⟨ex, fx⟩ := flatW_rel r1 f1
   subst ex
   cases f2 : flatW w2 with
   | some y =>
    obtain ⟨ey, fy⟩ := flatW_rel r2 f2
    subst ey
    rw [f1, f2] at h
    have h' : some (eqV v1 v2) = some b := h
    cases h'
    exact eqB_V q1 q2 fx fy
   | none =>
    rw [f1, f2] at h
    have h' : (if isSeq w2 then some false else none) = some b := h
    cases r2 with
    | tup s2 c2 t2 =>
     cases h'
     cases q2
     obtain ⟨its, _, pl, _⟩ := I.tuple s2
     exact eqB_flat_tuple q1 fx pl hA1
    | lst s2 t2 =>
     cases h'
     cases q2
     obtain ⟨its, _, pl, _⟩ := I.list s2
     exact eqB_flat_list q1 fx pl.isList hA1
    | _ => first | (cases f2; done) | (cases h'; done)
  | none =>
   cases f2 : flatW w2 with
   | some y =>
    obtain ⟨ey, fy⟩ := flatW_rel r2 f2
    subst ey
    rw [f1, f2] at h
    have h' : (if isSeq w1 then some false else none) = some b := h
    cases r1 with
    | tup s1 c1 t1 =>
     cases h'
     cases q1
     obtain ⟨its, _, pl, _⟩ := I.tuple s1
     exact eqB_tuple_flat q2 fy pl hA1
    | lst s1 t1 =>
     cases h'
     cases q1
     obtain ⟨its, _, pl, _⟩ := I.list s1
     exact eqB_list_flat q2 fy pl.isList hA1
    | _ => first | (cases f1; done) | (cases h'; done)
   | none =>
    rw [f1, f2] at h
    cases r1 with
    | tup s1 c1 t1 =>
     rename_i a xs ws1
     cases q1
     obtain ⟨its, p1, pl1, _⟩ := I.tuple s1
     cases w2 with
     | tup ws2 =>
      cases r2 with
      | tup s2 c2 t2 =>
       rename_i a2 ys
       cases q2
       obtain ⟨its2, p2, pl2, _⟩ := I.tuple s2
       have h' : (eqItems (eqD n) ws1 ws2).map (fun r => r && ws1.length == ws2.length) = some b := h
       cases e : eqItems (eqD n) ws1 ws2 with
       | none => rw [e] at h'; cases h'
       | some r =>
        rw [e] at h'
        obtain ⟨ef, he1, he2⟩ := eqItems_e e
        have l1 : ws1.length = its.toArray.size := by rw [List.size_toArray, ← p1.length, t1.length]
        have l2 : ws2.length = its2.toArray.size := by rw [List.size_toArray, ← p2.length, t2.length]
        have eb : b = ((List.range (min its.toArray.size its2.toArray.size)).all ef && its.toArray.size == its2.toArray.size) := by
         cases h'
         rw [← l1, ← l2, he2]
        have at1 := its_at t1 t2 p1 p2 he1
        have rc : SeqAt.RcAt A s (.ref a) (.ref a2) b := by
         rw [eb]
         exact SeqAt.RcAt.tuples (e := ef) pl1 pl2 hA1 at1
        refine ⟨?_, rc, ?_⟩
        ·by_cases ha : a = a2
         ·subst ha
          have ht : b = true := eqD_same (fun a xs ys h1 h2 => I.tuple_inj h1 h2) (fun a xs ys h1 h2 => list_inj I h1 h2) (fun a xs ys h1 h2 => not_both I h1 h2) (n + 1) (.tup s1 c1 t1) (.tup s2 c2 t2) keep
          rw [ht]; exact SeqAt.EqAt.same _
         ·exact SeqAt.EqAt.of_refs ha rc
        ·rw [eb]
         exact SeqAt.RcNeAt.tuples (e := ef) pl1 pl2 hA1 at1
     | lst ws2 =>
      cases r2 with
      | lst s2 t2 =>
       cases q2
       cases h
       obtain ⟨its2, p2, pl2, _⟩ := I.list s2
       exact ⟨SeqAt.EqAt.tuple_list pl1 pl2.isList hA1, SeqAt.RcAt.tuple_list pl1 pl2.isList hA1, SeqAt.RcNeAt.tuple_list pl1 pl2.isList hA1⟩
     | _ => cases h
    | lst s1 t1 =>
     rename_i a xs ws1
     cases q1
     obtain ⟨its, p1, pl1, _⟩ := I.list s1
     cases w2 with
     | lst ws2 =>
      cases r2 with
      | lst s2 t2 =>
       rename_i a2 ys
       cases q2
       obtain ⟨its2, p2, pl2, _⟩ := I.list s2
       have l1 : ws1.length = its.toArray.size := by rw [List.size_toArray, ← p1.length, t1.length]
       have l2 : ws2.length = its2.toArray.size := by rw [List.size_toArray, ← p2.length, t2.length]
       have h' : (if ws1.length = ws2.length then eqItems (eqD n) ws1 ws2 else some false) = some b := h
       by_cases hl : ws1.length = ws2.length
       ·rw [if_pos hl] at h'
        obtain ⟨ef, he1, he2⟩ := eqItems_e h'
        have hsz : its.toArray.size = its2.toArray.size := by rw [← l1, ← l2, hl]
        have eb : b = (List.range its.toArray.size).all ef := by
         rw [← he2, ← l1, ← hl, Nat.min_self]
        have at1 := its_at t1 t2 p1 p2 he1
        have rc : SeqAt.RcAt A s (.ref a) (.ref a2) b := by
         rw [eb]
         exact SeqAt.RcAt.lists (e := ef) pl1.isList pl2.isList hsz hA1 at1
        refine ⟨?_, rc, ?_⟩
        ·by_cases ha : a = a2
         ·subst ha
          have ht : b = true := eqD_same (fun a xs ys h1 h2 => I.tuple_inj h1 h2) (fun a xs ys h1 h2 => list_inj I h1 h2) (fun a xs ys h1 h2 => not_both I h1 h2) (n + 1) (.lst s1 t1) (.lst s2 t2) keep
          rw [ht]; exact SeqAt.EqAt.same _
         ·exact SeqAt.EqAt.of_refs ha rc
        ·rw [eb]
         exact SeqAt.RcNeAt.lists (e := ef) pl1.isList pl2.isList hsz hA1 at1
       ·rw [if_neg hl] at h'
        cases h'
        have hsz : (its.toArray.size != its2.toArray.size) = true := by
         rw [← l1, ← l2]; simpa using hl
        have rc : SeqAt.RcAt A s (.ref a) (.ref a2) false := SeqAt.RcAt.lists_lengths pl1.isList pl2.isList hsz hA1
        refine ⟨SeqAt.EqAt.of_refs (fun ha => ?_) rc, rc, SeqAt.RcNeAt.lists_lengths pl1.isList pl2.isList hsz hA1⟩
        subst ha
        have := list_inj I s1 s2
        subst this
        exact hl (by rw [← t1.length, ← t2.length])
     | tup ws2 =>
      cases r2 with
      | tup s2 c2 t2 =>
       cases q2
       cases h
       obtain ⟨its2, p2, pl2, _⟩ := I.tuple s2
       exact ⟨SeqAt.EqAt.list_tuple pl1.isList pl2 hA1, SeqAt.RcAt.list_tuple pl1.isList pl2 hA1, SeqAt.RcNeAt.list_tuple pl1.isList pl2 hA1⟩
     | _ => cases h
    | _ => first | (cases f1; done) | (cases w2 <;> cases h)
end
theorem SR.look {K : PySem.W.Frag} {ι : Nat → Addr} {st : S} {G H : Hp} (h : SR K ι st G H) : Ext ι st.nxt G ι st.nxt H := ⟨Nat.le_refl _, fun _ _ => rfl, h.sub⟩
def inStr (i j : Str) : Bool := !(Builtin.Str.occurrences j i 0 j.length 1).isEmpty
def inD (x : W) : List W → Option Bool
 | [] => some false
 | y :: ys => match eqD 12 y x, inD x ys with
  | some a, some b => some (a || b)
  | _, _ => none
def itemsOf (st : S) : W → Option (List W)
 | .lst xs => some xs
 | .tup xs => some xs
 | .ref n => MO.items (st.mu n)
 | _ => none
def inW (st : S) (a b : W) : Option Bool := match a, b with
 | .str i, .str j => some (inStr i j)
 | x, y => match itemsOf st y with
  | some ys => inD x ys
  | none => none
def opIn0 : Op2 := fun a b st => match inW st a b with
 | some r => .ok (.bl r) st
 | none => .stuck
def opNotIn0 : Op2 := fun a b st => match inW st a b with
 | some r => .ok (.bl (!r)) st
 | none => .stuck
theorem items_rel {K : PySem.W.Frag} {ι : Nat → Addr} {st : S} {G H : Hp} {v : V} {w : W} {ws : List W} (sr : SR K ι st G H) (r : RelW K ι st.nxt G v w) (h : itemsOf st w = some ws) : ∃ a xs, v = .ref a ∧ (SqL K H a xs ∨ SqT K H a xs) ∧ RelWs K ι st.nxt G xs ws := by
 cases r with
 | tup s1 c1 t1 => cases h; exact ⟨_, _, rfl, .inr (sqT_same sr.sub s1), t1⟩
 | lst s1 t1 => cases h; exact ⟨_, _, rfl, .inl (sr.sub.seq s1), t1⟩
 | ref hn =>
  rename_i n
  have h : MO.items (st.mu n) = some ws := h
  cases e : st.mu n with
  | none => rw [e] at h; cases h
  | some o =>
   obtain ⟨_, _, h3⟩ := sr.live n o e
   cases o with
   | lst xs =>
    rw [e] at h
    cases h
    obtain ⟨vs, q, r⟩ := h3
    exact ⟨_, vs, rfl, .inl (SqL.of q), r⟩
   | dct ks vs => rw [e] at h; cases h
 | _ => cases h
theorem eqD_det {K : PySem.W.Frag} {ι : Nat → Addr} {N : Nat} {G : Hp} (inT : ∀ a xs ys, SqT K G a xs → SqT K G a ys → xs = ys) (inL : ∀ a xs ys, SqL K G a xs → SqL K G a ys → xs = ys) (ntl : ∀ a xs ys, SqT K G a xs → SqL K G a ys → False) :
  ∀ (n : Nat) {v : V} {w w' x : W} {c c' : Bool}, RelW K ι N G v w → RelW K ι N G v w' → eqD n w x = some c → eqD n w' x = some c' → c = c'
 | 0, _, _, _, _, _, _, _, _, h, _ => by cases h
 | n + 1, v, w, w', x, c, c', r1, r2, h1, h2 => by
  have items : ∀ {vs : List V} {ws1 ws2 ys : List W} {r r' : Bool}, RelWs K ι N G vs ws1 → RelWs K ι N G vs ws2 → eqItems (eqD n) ws1 ys = some r → eqItems (eqD n) ws2 ys = some r' → r = r' := by
   intro vs
   induction vs with
   | nil => intro ws1 ws2 ys r r' t1 t2 e e'; cases t1; cases t2; rw [e] at e'; exact Option.some.inj e'
   | cons x xs ih =>
    intro ws1 ws2 ys r r' t1 t2 e e'
    cases t1 with
    | @cons _ w1 _ wt1 a1 t1 =>
     cases t2 with
     | @cons _ w2 _ wt2 a2 t2 =>
      cases ys with
      | nil => cases e; cases e'; rfl
      | cons y ys =>
       unfold eqItems at e e'
       cases e1 : eqD n w1 y with
       | none => rw [e1] at e; cases e
       | some p =>
        cases e2 : eqItems (eqD n) wt1 ys with
        | none => rw [e1, e2] at e; cases e
        | some q =>
         cases e3 : eqD n w2 y with
         | none => rw [e3] at e'; cases e'
         | some p' =>
          cases e4 : eqItems (eqD n) wt2 ys with
          | none => rw [e3, e4] at e'; cases e'
          | some q' =>
           rw [e1, e2] at e
           rw [e3, e4] at e'
           cases e; cases e'
           rw [eqD_det inT inL ntl n a1 a2 e1 e3, ih t1 t2 e2 e4]
  unfold eqD at h1 h2
  cases f1 : flatW w with
  | some y =>
   obtain ⟨ey, fy⟩ := flatW_rel r1 f1
   cases f2 : flatW w' with
   | some z =>
    obtain ⟨ez, fz⟩ := flatW_rel r2 f2
    have : y = z := by rw [← ey, ← ez]
    subst this
    cases f3 : flatW x with
    | some z =>
     rw [f1, f3] at h1; rw [f2, f3] at h2
     have g1 : some (eqV y z) = some c := h1
     have g2 : some (eqV y z) = some c' := h2
     rw [g1] at g2; exact Option.some.inj g2
    | none =>
     rw [f1, f3] at h1; rw [f2, f3] at h2
     have g1 : (if isSeq x then some false else none) = some c := h1
     have g2 : (if isSeq x then some false else none) = some c' := h2
     rw [g1] at g2; exact Option.some.inj g2
   | none => cases r2 <;> first | (cases f2; done) | (subst ey; cases fy; done)
  | none =>
   cases f2 : flatW w' with
   | some z =>
    obtain ⟨ez, fz⟩ := flatW_rel r2 f2
    cases r1 <;> first | (cases f1; done) | (subst ez; cases fz; done)
   | none =>
    rw [f1] at h1; rw [f2] at h2
    cases r1 with
    | tup s1 c1 t1 =>
     rename_i a xs ws1
     cases w' with
     | tup ws2 =>
      cases r2 with
      | tup s2 c2 t2 =>
       cases inT _ _ _ s1 s2
       cases f3 : flatW x with
       | some z => rw [f3] at h1 h2; cases h1; cases h2; rfl
       | none =>
        rw [f3] at h1 h2
        cases x with
        | tup ys =>
         have g1 : (eqItems (eqD n) ws1 ys).map (fun r => r && ws1.length == ys.length) = some c := h1
         have g2 : (eqItems (eqD n) ws2 ys).map (fun r => r && ws2.length == ys.length) = some c' := h2
         cases e1 : eqItems (eqD n) ws1 ys with
         | none => rw [e1] at g1; cases g1
         | some p =>
          cases e2 : eqItems (eqD n) ws2 ys with
          | none => rw [e2] at g2; cases g2
          | some q =>
           rw [e1] at g1; rw [e2] at g2
           cases g1; cases g2
           rw [items t1 t2 e1 e2, ← t1.length, ← t2.length]
        | lst ys => cases h1; cases h2; rfl
        | _ => cases h1
     | lst ws2 => cases r2 with | lst s2 t2 => exact (ntl _ _ _ s1 s2).elim
     | _ => first | (cases f2; done) | (cases f3 : flatW x <;> rw [f3] at h2 <;> first | (cases h2; done) | (cases x <;> cases h2))
    | lst s1 t1 =>
     rename_i a xs ws1
     cases w' with
     | lst ws2 =>
      cases r2 with
      | lst s2 t2 =>
       cases inL _ _ _ s1 s2
       cases f3 : flatW x with
       | some z => rw [f3] at h1 h2; cases h1; cases h2; rfl
       | none =>
        rw [f3] at h1 h2
        cases x with
        | lst ys =>
         have g1 : (if ws1.length = ys.length then eqItems (eqD n) ws1 ys else some false) = some c := h1
         have g2 : (if ws2.length = ys.length then eqItems (eqD n) ws2 ys else some false) = some c' := h2
         have hl : ws1.length = ws2.length := by rw [← t1.length, ← t2.length]
         rw [← hl] at g2
         by_cases hy : ws1.length = ys.length
         ·rw [if_pos hy] at g1 g2
          exact items t1 t2 g1 g2
         ·rw [if_neg hy] at g1 g2
          cases g1; cases g2; rfl
        | tup ys => cases h1; cases h2; rfl
        | _ => cases h1
     | tup ws2 => cases r2 with | tup s2 c2 t2 => exact (ntl _ _ _ s2 s1).elim
     | _ => first | (cases f2; done) | (cases f3 : flatW x <;> rw [f3] at h2 <;> first | (cases h2; done) | (cases x <;> cases h2))
    | _ => first | (cases f1; done) | (cases f3 : flatW x <;> rw [f3] at h1 <;> first | (cases h1; done) | (cases x <;> cases h1))
theorem mem_fun {pins : List (Addr × Obj)} {σ : St} {H : Hp} {s : Shared} {ι : Nat → Addr} {N : Nat} {A : Around} {x : W} {vx : V} {ux : Value} (I : Inv X pins σ H s) (rx : RelW X.K ι N H vx x) (qx : RelV vx ux) (hA : A.units + 12 < cLine) :
  ∀ {ws : List W} {vs : List V} {us : List Value} {b : Bool}, inD x ws = some b → RelWs X.K ι N H vs ws → Vals vs us →
   ∃ e : Value → Bool, (∀ u ∈ us, SeqAt.EqAt A s u ux (e u)) ∧ us.any e = b ∧ ∀ (j : Nat) v u w, vs[j]? = some v → us[j]? = some u → ws[j]? = some w → eqD 12 w x = some (e u) := by
 intro ws
 induction ws with
 | nil => intro vs us b h t q; cases t; cases q; cases h; exact ⟨fun _ => false, fun u hu => (by cases hu), rfl, fun j v u w hv => (by simp at hv)⟩
 | cons w ws ih =>
  intro vs us b h t q
  cases t with
  | cons r t =>
   cases q with
   | cons qv q =>
    rename_i v vs u us
    unfold inD at h
    cases e1 : eqD 12 w x with
    | none => rw [e1] at h; cases h
    | some a =>
     cases e2 : inD x ws with
     | none => rw [e1, e2] at h; cases h
     | some c =>
      rw [e1, e2] at h
      obtain ⟨e, h1, h2, h3⟩ := ih e2 t q
      have at1 := (eqD_at I 12 (A := A) e1 r rx qv qx hA).1
      have keep : ∀ u' ∈ us, u' = u → e u' = a := fun u' hu hue => by
       obtain ⟨j, hj, ej⟩ := List.mem_iff_getElem.mp hu
       have g1 : us[j]? = some u' := by rw [List.getElem?_eq_getElem hj, ej]
       obtain ⟨v', gv, rv'⟩ := Vals.at q hj
       obtain ⟨w', gw, rw'⟩ := t.get' gv
       have d := h3 j v' u' w' gv g1 gw
       rw [ej, hue] at rv'
       have ev : v' = v := rv'.inj qv
       subst ev
       exact eqD_det (fun a xs ys h1 h2 => I.tuple_inj h1 h2) (fun a xs ys h1 h2 => list_inj I h1 h2) (fun a xs ys h1 h2 => not_both I h1 h2) 12 rw' r d e1
      refine ⟨fun z => if z = u then a else e z, fun z hz => ?_, ?_, fun j v' u' w' hv hu hw => ?_⟩
      ·by_cases hzu : z = u
       ·(try dsimp only); rw [if_pos hzu, hzu]; exact at1
       ·(try dsimp only); rw [if_neg hzu]
        rcases List.mem_cons.mp hz with hz | hz
        ·exact absurd hz hzu
        ·exact h1 z hz
      ·rw [List.any_cons, if_pos rfl]
       have e3 : us.any (fun z => if z = u then a else e z) = us.any e := by
        rw [Bool.eq_iff_iff, List.any_eq_true, List.any_eq_true]
        constructor
        ·rintro ⟨z, hz, hq⟩
         refine ⟨z, hz, ?_⟩
         by_cases hzu : z = u
         ·rw [if_pos hzu] at hq; rw [keep z hz hzu]; exact hq
         ·rw [if_neg hzu] at hq; exact hq
        ·rintro ⟨z, hz, hq⟩
         refine ⟨z, hz, ?_⟩
         by_cases hzu : z = u
         ·rw [if_pos hzu, ← keep z hz hzu]; exact hq
         ·rw [if_neg hzu]; exact hq
       rw [e3, h2]
       cases h; rfl
      ·cases j with
       | zero =>
        simp at hv hu hw
        subst hv hu hw
        (try dsimp only); rw [if_pos rfl]; exact e1
       | succ j =>
        have hv' : vs[j]? = some v' := by simpa using hv
        have hu' : us[j]? = some u' := by simpa using hu
        have hw' : ws[j]? = some w' := by simpa using hw
        have d := h3 j v' u' w' hv' hu' hw'
        dsimp only
        by_cases hzu : u' = u
        ·rw [if_pos hzu, ← keep u' (List.mem_of_getElem? hu') hzu]; exact d
        ·rw [if_neg hzu]; exact d
theorem opw_inG {neg : Bool} {op : CmpOp} {o : Op2} (ho : o = fun a b st => match inW st a b with | some r => .ok (.bl (if neg then !r else r)) st | none => .stuck)
  (hs : OpR X (compareOp op) (fun x y H Q => ∃ i j, x = .str i ∧ y = .str j ∧ Q (.bl (if neg then !(!(Builtin.Str.occurrences j i 0 j.length 1).isEmpty) else (!(Builtin.Str.occurrences j i 0 j.length 1).isEmpty))) H))
  (hl : ∀ {s : Shared} {l : Addr} {items : Array Value} {x : Value} {Q : Value → Shared → Prop} (e : Value → Bool), s.heap.IsList l items → (∀ y, y ∈ items → SeqAt.EqAt X.A.in1 s y x (e y)) → Q (.bool (if neg then !items.any e else items.any e)) s → wpAny (model X.prog X.w) X.A (compareOp op x (.ref l)) Q X.xe s)
  (ht : ∀ {s : Shared} {l : Addr} {items : Array Value} {x : Value} {Q : Value → Shared → Prop} (e : Value → Bool), s.heap.IsTuple l items → (∀ y, y ∈ items → SeqAt.EqAt X.A.in1 s y x (e y)) → Q (.bool (if neg then !items.any e else items.any e)) s → wpAny (model X.prog X.w) X.A (compareOp op x (.ref l)) Q X.xe s)
  (hu : X.A.units + 64 < cLine) : OpW X (compareOp op) o := by
 subst ho
 intro pins s σ H ι G st x y w1 w2 v u Q I sr rx ry r1 r2 q
 dsimp only at q
 cases e : inW st w1 w2 with
 | none => rw [e] at q; exact (show False from q).elim
 | some b =>
  rw [e] at q
  have qq : ∀ (H' : Hp), H' = H → Q (.bl (if neg then !b else b)) H' := fun H' hh => by rw [hh]; exact q _ ι G H (Ext.refl _ _ _) sr (.bl _)
  have seq : ∀ {ys : List W}, itemsOf st w2 = some ys → inD w1 ys = some b → wpAny (model X.prog X.w) X.A (compareOp op v u) (EP X pins σ Q) X.xe s := by
   intro ys hi hd
   obtain ⟨a, xs, ea, hq, t⟩ := items_rel sr r2 hi
   subst ea
   cases ry
   rcases hq with hq | hq
   ·obtain ⟨its, r, pl, hz⟩ := I.list hq
    obtain ⟨f, h1, h2, _⟩ := mem_fun (A := X.A.in1) I (r1.mono sr.look) rx (by show X.A.units + 1 + 12 < cLine; omega) hd (t.mono sr.look) r
    refine hl f pl.isList (fun w hw => h1 w (by simpa using hw)) ⟨.bl (if neg then !b else b), H, I, ?_, qq H rfl⟩
    rw [show its.toArray.any f = its.any f by simp, h2]; rfl
   ·obtain ⟨its, r, pl, hz⟩ := I.tuple hq
    obtain ⟨f, h1, h2, _⟩ := mem_fun (A := X.A.in1) I (r1.mono sr.look) rx (by show X.A.units + 1 + 12 < cLine; omega) hd (t.mono sr.look) r
    refine ht f pl (fun w hw => h1 w (by simpa using hw)) ⟨.bl (if neg then !b else b), H, I, ?_, qq H rfl⟩
    rw [show its.toArray.any f = its.any f by simp, h2]; rfl
  by_cases hb : ∃ i j, w1 = .str i ∧ w2 = .str j
  ·obtain ⟨i, j, rfl, rfl⟩ := hb
   cases r1; cases r2
   have e' : some (inStr i j) = some b := e
   cases e'
   exact hs pins s σ H _ _ v u Q I rx ry ⟨i, j, rfl, rfl, qq H rfl⟩
  ·have e' : (match itemsOf st w2 with | some ys => inD w1 ys | none => none) = some b := by
    rw [← e]
    unfold inW
    cases w1 <;> cases w2 <;> first | rfl | exact absurd ⟨_, _, rfl, rfl⟩ hb
   cases hi : itemsOf st w2 with
   | none => rw [hi] at e'; cases e'
   | some ys => rw [hi] at e'; exact seq hi e'
theorem opw_in0 (hu : X.A.units + 64 < cLine) : OpW X (compareOp .In) opIn0 := opw_inG (neg := false) rfl op_in_str (fun e h1 h2 h3 => SeqAt.in_listAt e h1 h2 h3) (fun e h1 h2 h3 => SeqAt.in_tupleAt e h1 h2 h3) hu
theorem opw_notIn0 (hu : X.A.units + 64 < cLine) : OpW X (compareOp .NotIn) opNotIn0 := opw_inG (neg := true) rfl op_notIn_str (fun e h1 h2 h3 => SeqAt.notIn_listAt e h1 h2 h3) (fun e h1 h2 h3 => SeqAt.notIn_tupleAt e h1 h2 h3) hu
end
end DL
namespace DL
open PySem PySem.Spec PyProof.Rows L2
section
variable {X : Cx}
def opIdx0 : Op2 := fun a b st => match b with
 | .int i => match a with
  | .str z => if z.length ≤ sizeLine then (match atI z.cps.toList i with | some c => .ok (.str ⟨#[c]⟩) st | none => .stuck) else .stuck
  | a => match itemsOf st a with
   | some ws => (match atI ws i with | some w => .ok w st | none => .stuck)
   | none => .stuck
 | _ => .stuck
theorem atI_rel {K : PySem.W.Frag} {ι : Nat → Addr} {N : Nat} {G : Hp} {xs : List V} {ws : List W} {i : Int} {w : W} (t : RelWs K ι N G xs ws) (h : atI ws i = some w) : ∃ v, atI xs i = some v ∧ RelW K ι N G v w := by
 unfold atI at h ⊢
 rw [t.length]
 cases e : ixN ws.length i with
 | none => rw [e] at h; cases h
 | some j =>
  rw [e] at h
  exact t.get (show ws[j]? = some w from h)
theorem ix_w : IxR X (rOp X opIdx0) := by
 intro value slice pins s σ H x y v u Q I rx ry h hs
 obtain ⟨ι, G, st, w1, w2, sr, r1, r2, q⟩ := h
 cases w2 with
 | int i =>
  cases r2
  have seq : ∀ {ws : List W}, itemsOf st w1 = some ws → wpW X ι st.nxt G (match atI ws i with | some w => .ok w st | none => .stuck) Q → wpAny (model X.prog X.w) X.A (subscriptTail value slice v u) (EP X pins σ Q) X.xe s := by
   intro ws hi q
   cases e : atI ws i with
   | none => rw [e] at q; exact (show False from q).elim
   | some w =>
    rw [e] at q
    obtain ⟨a, xs, ea, hq, t⟩ := items_rel sr r1 hi
    subst ea
    obtain ⟨z, hz, rz⟩ := atI_rel t e
    have fin := q z ι G H (Ext.refl _ _ _) sr rz
    rcases hq with hq | hq
    ·exact ix_list value slice pins s σ H _ _ v u Q I rx ry ⟨a, xs, i, z, rfl, rfl, hq, hz, fin⟩ hs
    ·exact ix_tup value slice pins s σ H _ _ v u Q I rx ry ⟨a, xs, i, z, rfl, rfl, hq, hz, fin⟩ hs
  cases w1 with
  | str z =>
   cases r1
   have q' : wpW X ι st.nxt G (if z.length ≤ sizeLine then (match atI z.cps.toList i with | some c => .ok (.str ⟨#[c]⟩) st | none => .stuck) else .stuck) Q := q
   by_cases hl : z.length ≤ sizeLine
   ·rw [if_pos hl] at q'
    cases e : atI z.cps.toList i with
    | none => rw [e] at q'; exact (show False from q').elim
    | some c =>
     rw [e] at q'
     exact ix_str value slice pins s σ H _ _ v u Q I rx ry ⟨z, i, c, rfl, rfl, hl, e, q' _ ι G H (Ext.refl _ _ _) sr (.str _)⟩ hs
   ·rw [if_neg hl] at q'; exact (show False from q').elim
  | tup ws => exact seq (ws := ws) rfl q
  | lst ws => exact seq (ws := ws) rfl q
  | ref n =>
   cases hi : itemsOf st (.ref n) with
   | none =>
    have q' : wpW X ι st.nxt G (match itemsOf st (.ref n) with | some ws => (match atI ws i with | some w => .ok w st | none => .stuck) | none => .stuck) Q := q
    rw [hi] at q'; exact (show False from q').elim
   | some ws =>
    have q' : wpW X ι st.nxt G (match itemsOf st (.ref n) with | some ws => (match atI ws i with | some w => .ok w st | none => .stuck) | none => .stuck) Q := q
    rw [hi] at q'; exact seq hi q'
  | _ => exact (show False from q).elim
 | _ => exact (show False from q).elim
theorem pd_ix0 {a b : Expr} {pos : Pos} {ra rb : Run} (ha : PD X a ra) (hb : PD X b rb) (hs : PlainIx b) : PD X (.Subscript a b pos) (run2 ra rb opIdx0) :=
 PE.imp (pe_ix ix_w ha hb hs) fun _ _ _ h => tD_op h
def cutW (xs : List W) (lo hi : Option Int) : List W := (xs.drop (HT.sIx xs.length 0 lo)).take (HT.sIx xs.length xs.length hi - HT.sIx xs.length 0 lo)
def opSl (m : Bool) (lo hi : Option Int) (a : W) (st : S) : R W := match a with
 | .str z => if z.length ≤ sizeLine then .ok (.str (Txt.slice z lo hi)) st else .stuck
 | .tup ws => .ok (.tup (cutW ws lo hi)) st
 | a => match itemsOf st a with
  | some ws => if m then opNewL (cutW ws lo hi) st else opLst (cutW ws lo hi) st
  | none => .stuck
theorem cut_rel {K : PySem.W.Frag} {ι : Nat → Addr} {N : Nat} {G : Hp} {xs : List V} {ws : List W} (t : RelWs K ι N G xs ws) (lo hi : Option Int) : RelWs K ι N G (cutV xs lo hi) (cutW ws lo hi) := by
 unfold cutV cutW
 rw [t.length]
 exact (t.drop _).take _
theorem tupleIsExact_ {prog : Program} {w : World} {A : Around} {E : Value → Shared → Prop} {s : Shared} {t : Addr} {items : Array Value} {Q : Bool → Shared → Prop} (ht : IsTup s.heap t items) (h : Q true s) : wpAny (model prog w) A (Builtin.Tuple.tupleIsExact (.ref t)) Q E s := by
 unfold Builtin.Tuple.tupleIsExact
 refine wpAny_bind (wpAny_typeOf ht.typeIs (wpAny_pure ?_))
 exact h
theorem getItem_tuple_whole {prog : Program} {w : World} {A : Around} {E : Value → Shared → Prop} {s : Shared} {t sl : Addr} {items : Array Value} {vl vu : Value} {lo hi : Option Int} {Q : Value → Shared → Prop} (ht : IsTup s.heap t items) (hs : s.heap.IsSliceOf sl vl vu .none) (pl : IsPart vl lo) (pu : IsPart vu hi)
  (h0 : HT.sIx items.size 0 lo = 0) (h1 : HT.sIx items.size items.size hi = items.size) (h : Q (.ref t) s) : wpAny (model prog w) A (getItem (.ref t) (.ref sl)) Q E s := by
 obtain ⟨os, hos, hcs, hds⟩ := id hs
 have hTs : s.TypeIs (.ref sl) "slice" := ⟨os, hos, hcs⟩
 unfold getItem
 try with_reducible refine wpAny_holding ?_
 first | refine wpAny_bind (wpAny_pure ?_) | skip
 refine wpAny_bind (wpAny_sequenceKey ht.typeIs (by decide) ?_)
 refine wpAny_bind (wpAny_callSpecial?_slot (name := Str.ofString "__getitem__") ht.typeIs PyProof.Rows.slot_tuple_getitem
  (wpAny_call_entry PyProof.Rows.slot_tuple_getitem ht.typeIs entry_tuple_getitem ?_ (args_tuple_getitem _ _)))
 show wpAny _ _ (Builtin.Tuple.tupleItemsOf (.ref t) >>= _) _ _ s
 refine wpAny_bind (tupleItemsOf_ ht ?_)
 refine wpAny_bind (wpAny_typeOf hTs ?_)
 rw [if_pos (by decide)]
 refine wpAny_bind (HT.sliceApplied_gen hs pl pu ?_)
 show wpAny _ _ (if (((HT.sIx items.size 0 lo : Nat) : Int) == 0 && (1 : Int) == 1 && (HT.sIx items.size items.size hi - HT.sIx items.size 0 lo) == items.size) = true then _ else _) _ _ s
 rw [h0, h1, if_pos (by simp)]
 refine wpAny_bind (tupleIsExact_ ht ?_)
 rw [if_pos rfl]
 refine wpAny_bind (wpAny_rule ?_)
 exact wpAny_pure ⟨_, rfl, wpAny_pure h⟩
theorem sl_tupAll : SlR X (fun x lo hi H Q => ∃ a xs, x = .ref a ∧ SqT X.K H a xs ∧ HT.sIx xs.length 0 lo = 0 ∧ HT.sIx xs.length xs.length hi = xs.length ∧ Q (.ref a) H) := by
 intro pins s σ H x v vl vu lo hi sl Q I rx hs pl pu h
 obtain ⟨a, xs, rfl, hx, h0, h1, q⟩ := h
 cases rx
 obtain ⟨its, r, ht, hz⟩ := I.tuple hx
 have hlen : its.toArray.size = xs.length := by rw [List.size_toArray]; exact r.length.symm
 refine ⟨"tuple", _, PyProof.Rows.slot_tuple_getitem.lookup, ht.typeIs, ?_⟩
 exact getItem_tuple_whole ht hs pl pu (by rw [hlen]; exact h0) (by rw [hlen]; exact h1) ⟨.ref a, H, I, rfl, q⟩
def rSlW (X : Cx) (m : Bool) : V → Option Int → Option Int → Hp → VK → Prop := fun x lo hi H Q => ∃ ι G st w, SR X.K ι st G H ∧ RelW X.K ι st.nxt G x w ∧ wpW X ι st.nxt G (opSl m lo hi w st) Q
theorem sl_w {m : Bool} : SlR X (rSlW X m) := by
 intro pins s σ H x v vl vu lo hi sl Q I rx hs pl pu h
 obtain ⟨ι, G, st, w, sr, r1, q⟩ := h
 have seq : ∀ {a : Addr} {xs : List V} {ws : List W}, v = .ref a → x = .ref a → SqL X.K H a xs → RelWs X.K ι st.nxt G xs ws → wpW X ι st.nxt G (if m then opNewL (cutW ws lo hi) st else opLst (cutW ws lo hi) st) Q →
   ∃ T id, typeLookup (.type T) "__getitem__" = pure (some (.builtin id)) ∧ s.TypeIs v T ∧ wpAny (model X.prog X.w) X.A (getItem v (.ref sl)) (EP X pins σ Q) X.xe s := by
  intro a xs ws ev ex hq t q
  refine sl_list pins s σ H x v vl vu lo hi sl Q I rx hs pl pu ⟨a, xs, ex, hq, ?_⟩
  cases m with
  | true => rw [if_pos rfl] at q; exact (newL_laid sr (cut_rel t lo hi) q).2
  | false => rw [if_neg Bool.false_ne_true] at q; exact (lst_laid sr (cut_rel t lo hi) q).2
 cases r1 with
 | str z =>
  have q' : wpW X ι st.nxt G (if z.length ≤ sizeLine then .ok (.str (Txt.slice z lo hi)) st else .stuck) Q := q
  by_cases hl : z.length ≤ sizeLine
  ·rw [if_pos hl] at q'
   exact sl_str pins s σ H _ v vl vu lo hi sl Q I rx hs pl pu ⟨z, rfl, hl, q' _ ι G H (Ext.refl _ _ _) sr (.str _)⟩
  ·rw [if_neg hl] at q'; exact (show False from q').elim
 | tup s1 c1 t1 =>
  rename_i a xs ws
  have hq := sqT_same sr.sub s1
  by_cases hw : HT.sIx xs.length 0 lo = 0 ∧ HT.sIx xs.length xs.length hi = xs.length
  ·refine sl_tupAll pins s σ H _ v vl vu lo hi sl Q I rx hs pl pu ⟨a, xs, rfl, hq, hw.1, hw.2, q _ ι G H (Ext.refl _ _ _) sr (.tup s1 c1 ?_)⟩
   have ec : cutW ws lo hi = ws := by
    unfold cutW
    rw [← t1.length, hw.1, hw.2, List.drop_zero, Nat.sub_zero, t1.length, List.take_length]
   rw [ec]; exact t1
  ·refine sl_tup pins s σ H _ v vl vu lo hi sl Q I rx hs pl pu ⟨a, xs, rfl, hq, hw, fun p hp => ?_⟩
   obtain ⟨sr2, e2⟩ := sr.laid (o := .tup (cutV xs lo hi)) hp
   exact q _ ι _ _ e2 sr2 (.tup (.inl (.inl upd_same)) (fun _ => upd_same) ((cut_rel t1 lo hi).mono e2))
 | lst s1 t1 => exact seq rx rfl (sr.sub.seq s1) t1 q
 | ref hn =>
  rename_i n
  have q' : wpW X ι st.nxt G (match itemsOf st (.ref n) with | some ws => if m then opNewL (cutW ws lo hi) st else opLst (cutW ws lo hi) st | none => .stuck) Q := q
  cases hi' : itemsOf st (.ref n) with
  | none => rw [hi'] at q'; exact (show False from q').elim
  | some ws =>
   rw [hi'] at q'
   obtain ⟨a, xs, ea, hq, t⟩ := items_rel sr (.ref hn) hi'
   rcases hq with hq | hq
   ·exact seq (by cases ea; exact rx) ea hq t q'
   ·exfalso
    have hi2 := hi'
    have hi2 : MO.items (st.mu n) = some ws := hi2
    cases e : st.mu n with
    | none => rw [e] at hi2; cases hi2
    | some o =>
     obtain ⟨_, _, h3⟩ := sr.live n o e
     cases o with
     | lst zs =>
      obtain ⟨vs, qv, _⟩ := h3
      cases ea
      exact not_both I hq (SqL.of qv)
     | dct ks vs => rw [e] at hi2; cases hi2
 | _ => exact (show False from q).elim
def runSlNN (m : Bool) (ra : Run) : Run := fun Γ st => (ra Γ st).bind fun w st1 => opSl m none none w st1
def runSlSN (m : Bool) (ra rl : Run) : Run := fun Γ st => (ra Γ st).bind fun w st1 => (rl Γ st1).bind fun l st2 => (match l with | .int i => opSl m (some i) none w st2 | _ => .stuck)
def runSlNS (m : Bool) (ra rh : Run) : Run := fun Γ st => (ra Γ st).bind fun w st1 => (rh Γ st1).bind fun h st2 => (match h with | .int i => opSl m none (some i) w st2 | _ => .stuck)
def runSlSS (m : Bool) (ra rl rh : Run) : Run := fun Γ st => (ra Γ st).bind fun w st1 => (rl Γ st1).bind fun l st2 => (match l with | .int i => (rh Γ st2).bind fun h st3 => (match h with | .int j => opSl m (some i) (some j) w st3 | _ => .stuck) | _ => .stuck)
section
variable {e lo hi : Expr} {pos p2 : Pos} {ra rl rh : Run} {m : Bool}
theorem pd_slNN (ha : PD X e ra) : PD X (.Subscript e (.Slice none none none p2) pos) (runSlNN m ra) := by
 refine PE.imp (pe_slice (sl_w (m := m)) ha po_none po_none) fun σ H Q h => ?_
 obtain ⟨ι, G, st, Γ, en, sr, q⟩ := h
 exact ⟨ι, G, st, Γ, en, sr, wpW.bind q fun w st1 v ι1 G1 H1 _ e1 sr1 r1 q1 => ⟨ι1, G1, st1, w, sr1, r1, q1⟩⟩
theorem pd_slSN (ha : PD X e ra) (hl : PD X lo rl) : PD X (.Subscript e (.Slice (some lo) none none p2) pos) (runSlSN m ra rl) := by
 refine PE.imp (pe_slice (sl_w (m := m)) ha (po_some hl) po_none) fun σ H Q h => ?_
 obtain ⟨ι, G, st, Γ, en, sr, q⟩ := h
 refine ⟨ι, G, st, Γ, en, sr, wpW.bind q fun w st1 v ι1 G1 H1 _ e1 sr1 r1 q1 => ?_⟩
 refine ⟨ι1, G1, st1, Γ, en.mono e1, sr1, wpW.bind q1 fun l st2 v2 ι2 G2 H2 _ e2 sr2 r2 q2 => ?_⟩
 cases l with
 | int i => cases r2; exact ⟨i, rfl, ι2, G2, st2, w, sr2, r1.mono e2, q2⟩
 | _ => exact (show False from q2).elim
theorem pd_slNS (ha : PD X e ra) (hh : PD X hi rh) : PD X (.Subscript e (.Slice none (some hi) none p2) pos) (runSlNS m ra rh) := by
 refine PE.imp (pe_slice (sl_w (m := m)) ha po_none (po_some hh)) fun σ H Q h => ?_
 obtain ⟨ι, G, st, Γ, en, sr, q⟩ := h
 refine ⟨ι, G, st, Γ, en, sr, wpW.bind q fun w st1 v ι1 G1 H1 _ e1 sr1 r1 q1 => ?_⟩
 refine ⟨ι1, G1, st1, Γ, en.mono e1, sr1, wpW.bind q1 fun l st2 v2 ι2 G2 H2 _ e2 sr2 r2 q2 => ?_⟩
 cases l with
 | int i => cases r2; exact ⟨i, rfl, ι2, G2, st2, w, sr2, r1.mono e2, q2⟩
 | _ => exact (show False from q2).elim
theorem pd_slSS (ha : PD X e ra) (hl : PD X lo rl) (hh : PD X hi rh) : PD X (.Subscript e (.Slice (some lo) (some hi) none p2) pos) (runSlSS m ra rl rh) := by
 refine PE.imp (pe_slice (sl_w (m := m)) ha (po_some hl) (po_some hh)) fun σ H Q h => ?_
 obtain ⟨ι, G, st, Γ, en, sr, q⟩ := h
 refine ⟨ι, G, st, Γ, en, sr, wpW.bind q fun w st1 v ι1 G1 H1 _ e1 sr1 r1 q1 => ?_⟩
 refine ⟨ι1, G1, st1, Γ, en.mono e1, sr1, wpW.bind q1 fun l st2 v2 ι2 G2 H2 _ e2 sr2 r2 q2 => ?_⟩
 cases l with
 | int i =>
  cases r2
  refine ⟨i, rfl, ι2, G2, st2, Γ, (en.mono e1).mono e2, sr2, wpW.bind q2 fun h st3 v3 ι3 G3 H3 _ e3 sr3 r3 q3 => ?_⟩
  cases h with
  | int j => cases r3; exact ⟨j, rfl, ι3, G3, st3, w, sr3, (r1.mono e2).mono e3, q3⟩
  | _ => exact (show False from q3).elim
 | _ => exact (show False from q2).elim
end
def opLen : OpN := fun ws st => match ws with
 | [.str z] => if z.length ≤ sizeLine then .ok (.int z.length) st else .stuck
 | [w] => match itemsOf st w with
  | some xs => .ok (.int xs.length) st
  | none => .stuck
 | _ => .stuck
def opTuple : OpN := fun ws st => match ws with
 | [.tup xs] => .ok (.tup xs) st
 | [w] => match itemsOf st w with
  | some xs => opTup xs st
  | none => .stuck
 | _ => .stuck
def opList (m : Bool) : OpN := fun ws st => match ws with
 | [w] => match itemsOf st w with
  | some xs => if m then opNewL xs st else opLst xs st
  | none => .stuck
 | _ => .stuck
theorem rel1 {K : PySem.W.Frag} {ι : Nat → Addr} {N : Nat} {G : Hp} {xs : List V} {w : W} (t : RelWs K ι N G xs [w]) : ∃ v, xs = [v] ∧ RelW K ι N G v w := by
 cases t with
 | cons r t => cases t; exact ⟨_, rfl, r⟩
theorem rel2 {K : PySem.W.Frag} {ι : Nat → Addr} {N : Nat} {G : Hp} {xs : List V} {w w' : W} (t : RelWs K ι N G xs [w, w']) : ∃ v v', xs = [v, v'] ∧ RelW K ι N G v w ∧ RelW K ι N G v' w' := by
 cases t with
 | cons r t => obtain ⟨v, rfl, r'⟩ := rel1 t; exact ⟨_, _, rfl, r, r'⟩
theorem cw_len : CallW X (.builtin "len") opLen := by
 intro pins s σ H ι G st xs ws us Q I sr rv t q
 match ws, t, q with
 | [w], t, q =>
  obtain ⟨v, rfl, r⟩ := rel1 t
  have seq : ∀ {zs : List W}, itemsOf st w = some zs → wpW X ι st.nxt G (.ok (.int zs.length) st) Q → wpAny (model X.prog X.w) X.A (call (.builtin "len") us) (EP X pins σ Q) X.xe s := by
   intro zs hi q
   obtain ⟨a, ys, ea, hq, t2⟩ := items_rel sr r hi
   subst ea
   refine call_len_seq pins s σ H _ us Q I rv ⟨a, ys, rfl, hq, ?_⟩
   rw [t2.length]
   exact q _ ι G H (Ext.refl _ _ _) sr (.int _)
  cases w with
  | str z =>
   cases r
   have q' : wpW X ι st.nxt G (if z.length ≤ sizeLine then .ok (.int z.length) st else .stuck) Q := q
   by_cases hl : z.length ≤ sizeLine
   ·rw [if_pos hl] at q'
    exact call_len_str pins s σ H _ us Q I rv ⟨z, rfl, hl, q' _ ι G H (Ext.refl _ _ _) sr (.int _)⟩
   ·rw [if_neg hl] at q'; exact (show False from q').elim
  | tup zs => exact seq rfl q
  | lst zs => exact seq rfl q
  | ref n =>
   have q' : wpW X ι st.nxt G (match itemsOf st (.ref n) with | some xs => .ok (.int xs.length) st | none => .stuck) Q := q
   cases hi : itemsOf st (.ref n) with
   | none => rw [hi] at q'; exact (show False from q').elim
   | some zs => rw [hi] at q'; exact seq hi q'
  | _ => exact (show False from q).elim
 | [], _, q => exact (show False from q).elim
 | w :: w' :: ws, _, q => exact (show False from (by cases w <;> exact q)).elim
theorem cw_list {m : Bool} : CallW X (.type "list") (opList m) := by
 intro pins s σ H ι G st xs ws us Q I sr rv t q
 unfold opList at q
 split at q
 ·rename_i w
  cases hi : itemsOf st w with
  | none => rw [hi] at q; exact (show False from q).elim
  | some zs =>
   rw [hi] at q
   obtain ⟨v, rfl, r⟩ := rel1 t
   obtain ⟨a, ys, ea, hq, t2⟩ := items_rel sr r hi
   subst ea
   refine call_list_of pins s σ H _ us Q I rv ⟨a, ys, rfl, hq, ?_⟩
   cases m with
   | true => exact (newL_laid sr t2 q).2
   | false => exact (lst_laid sr t2 q).2
 ·exact (show False from q).elim
theorem cw_tuple : CallW X (.type "tuple") opTuple := by
 intro pins s σ H ι G st xs ws us Q I sr rv t q
 unfold opTuple at q
 split at q
 ·rename_i zs
  obtain ⟨v, rfl, r⟩ := rel1 t
  cases r with
  | tup s1 c1 t1 => exact call_tuple_of pins s σ H _ us Q I rv ⟨_, _, rfl, .inr ⟨sqT_same sr.sub s1, q _ ι G H (Ext.refl _ _ _) sr (.tup s1 c1 t1)⟩⟩
 ·rename_i w hne
  cases hi : itemsOf st w with
  | none => rw [hi] at q; exact (show False from q).elim
  | some zs =>
   rw [hi] at q
   obtain ⟨v, rfl, r⟩ := rel1 t
   obtain ⟨a, ys, ea, hq, t2⟩ := items_rel sr r hi
   subst ea
   rcases hq with hq | hq
   ·exact call_tuple_of pins s σ H _ us Q I rv ⟨a, ys, rfl, .inl ⟨hq, (tup_laid sr t2 q).2⟩⟩
   ·exfalso
    cases r with
    | tup s1 c1 t1 => exact hne _ rfl
    | lst s1 t1 => exact not_both I hq (sr.sub.seq s1)
    | @ref n hn =>
     have hi : MO.items (st.mu n) = some zs := hi
     cases e : st.mu n with
     | none => rw [e] at hi; cases hi
     | some o =>
      obtain ⟨_, _, h3⟩ := sr.live n o e
      cases o with
      | lst zs => obtain ⟨vs, qv, _⟩ := h3; exact not_both I hq (SqL.of qv)
      | dct ks vs => rw [e] at hi; cases hi
    | _ => cases hi
 ·exact (show False from q).elim
def MO.kind : Option MO → Option String
 | some (.lst _) => some "list"
 | some (.dct _ _) => some "dict"
 | none => none
def kindW (st : S) : W → Option String
 | .non => some "NoneType"
 | .bl _ => some "bool"
 | .int _ => some "int"
 | .str _ => some "str"
 | .tup _ => some "tuple"
 | .lst _ => some "list"
 | .dct _ _ => some "dict"
 | .ref n => MO.kind (st.mu n)
 | .ty _ => none
 | .exn _ => none
def isKind (k T : String) : Bool := k == T || (k == "bool" && T == "int")
def kinds : List String := ["NoneType", "bool", "int", "str", "tuple", "list", "dict"]
def opIsi : OpN := fun ws st => match ws with
 | [w, .ty T] => if kinds.contains T then (match kindW st w with | some k => .ok (.bl (isKind k T)) st | none => .stuck) else .stuck
 | _ => .stuck
end
end DL
namespace DL
open PySem PySem.Spec PyProof.Rows L2
section
variable {X : Cx}
structure SrcR (K : PySem.W.Frag) (J : It) (items : List W) (ι : Nat → Addr) (N : Nat) (G : Hp) : Prop where
 go : ∀ (i : Nat) (w : W) (ι' : Nat → Addr) (N' : Nat) (G' H' : Hp), items[i]? = some w → Ext ι N G ι' N' G' → Same G' H' → J.go i H' ∧ ∀ v H'', J.yld i H' v H'' → H'' = H' ∧ RelW K ι' N' G' v w
 stop : ∀ (G' H' : Hp), Same G G' → Same G' H' → J.stop items.length H'
abbrev Src := Ga → S → R (List W)
def tDI (X : Cx) (src : Src) : TI := fun σ H Rr => ∃ ι G st Γ, EnvR X.K ι st.nxt G σ Γ ∧ SR X.K ι st G H ∧ (match src Γ st with
 | .ok items st' => ∀ J ι' G' H', Ext ι st.nxt G ι' st'.nxt G' → SR X.K ι' st' G' H' → SrcR X.K J items ι' st'.nxt G' → Rr J H'
 | .ex c st' => XW X ι st.nxt G c st'
 | .stuck => False)
abbrev PDI (X : Cx) (tg iter : Expr) (src : Src) : Prop := PI X tg iter (tDI X src)
theorem PI.imp {tg e : Expr} {t t' : TI} (h : PI X tg e t) (k : ∀ σ H Q, t' σ H Q → t σ H Q) : PI X tg e t' := fun pins s σ H Q I q => h pins s σ H Q I (k σ H Q q)
def iSeq (K : PySem.W.Frag) (tl : TE) : TI := fun σ H R => tl σ H fun x H1 => (∃ a, x = .ref a ∧ (∃ xs, SqL K H1 a xs) ∧ R (Itl K a) H1) ∨ (∃ a, x = .ref a ∧ (∃ xs, SqT K H1 a xs) ∧ R (Itt K a) H1) ∨ ∃ z, x = .str z ∧ R (Its z) H1
theorem pi_seq {y : Str} {py : Pos} {l : Expr} {tl : TE} (hl : PE X l tl) : PI X (.Name y py) l (iSeq X.K tl) := by
 intro pins s σ H R I h
 refine thn (hl pins s σ H _ I h) fun v s1 ⟨x, H1, I1, r1, q1⟩ => ?_
 rcases q1 with ⟨a, e, ⟨xs, hq⟩, q⟩ | ⟨a, e, ⟨xs, hq⟩, q⟩ | ⟨z, e, q⟩
 ·subst e
  cases r1
  obtain ⟨its, rv, p, hz⟩ := I1.list hq
  refine wpAny_pyIter_list p.isList ?_
  refine ⟨s1.heap.objs.size, [s1.heap.objs.size], _, _, H1, rfl, I1.kept (t' := s1.toks) fun b o e => Heap.get?_push_of_some _ e, turn_list a _, ⟨_, Heap.get?_push_size _ rfl, rfl, rfl⟩, fun b hb => ?_, q⟩
  have e : b = s1.heap.objs.size := by simpa using hb
  subst e
  exact I1.fpOk (Nat.le_refl _) (I1.hok.fresh (Nat.le_refl _))
 ·subst e
  cases r1
  obtain ⟨its, rv, p, hz⟩ := I1.tuple hq
  refine wpAny_pyIter_tuple (show s1.heap.IsTuple a its.toArray from p) ?_
  refine ⟨s1.heap.objs.size, [s1.heap.objs.size], _, _, H1, rfl, I1.kept (t' := s1.toks) fun b o e => Heap.get?_push_of_some _ e, turn_tuple a _, ⟨_, Heap.get?_push_size _ rfl, rfl, rfl⟩, fun b hb => ?_, q⟩
  have e : b = s1.heap.objs.size := by simpa using hb
  subst e
  exact I1.fpOk (Nat.le_refl _) (I1.hok.fresh (Nat.le_refl _))
 ·subst e
  obtain ⟨t, rfl⟩ := r1
  have fp : ∀ b ∈ [s1.heap.objs.size], FpOk X pins H1 b := fun b hb => by
   have e : b = s1.heap.objs.size := by simpa using hb
   subst e
   exact I1.fpOk (Nat.le_refl _) (I1.hok.fresh (Nat.le_refl _))
  cases ha : z.cps.all (· < 128)
  ·refine wpAny_pyIter_wide ha ?_
   exact ⟨s1.heap.objs.size, [s1.heap.objs.size], _, _, H1, rfl, I1.kept (t' := s1.toks) fun b o e => Heap.get?_push_of_some _ e,
    turn_str (fun A' hA => Walks.strWide hA _ z t) (fun i h st => by obtain ⟨o, e, c, d⟩ := st; exact ⟨o, e, fun v z => by rw [d] at z; cases z⟩) (fun _ _ _ _ _ st h => wpAny_pyIter_striter_wide st h),
    ⟨Nat.zero_le _, ⟨_, Heap.get?_push_size _ rfl, rfl, rfl⟩⟩, fp, q⟩
  ·refine wpAny_pyIter_ascii ha ?_
   exact ⟨s1.heap.objs.size, [s1.heap.objs.size], _, _, H1, rfl, I1.kept (t' := s1.toks) fun b o e => Heap.get?_push_of_some _ e,
    turn_str (fun A' hA => Walks.strAscii hA _ z t) (fun i h st => by obtain ⟨o, e, c, d⟩ := st; exact ⟨o, e, fun v z => by rw [d] at z; cases z⟩) (fun _ _ _ _ _ st h => wpAny_pyIter_striter_ascii st h),
    ⟨Nat.zero_le _, ⟨_, Heap.get?_push_size _ rfl, rfl, rfl⟩⟩, fp, q⟩
def signs (z : Str) : List W := z.cps.toList.map fun c => W.str ⟨#[c]⟩
def srcOf : W → Option (List W)
 | .lst xs => some xs
 | .tup xs => some xs
 | .str z => some (signs z)
 | _ => none
def runSrc (r : Run) : Src := fun Γ st => (r Γ st).bind fun w st1 => match srcOf w with
 | some xs => .ok xs st1
 | none => .stuck
theorem src_list {K : PySem.W.Frag} {ι : Nat → Addr} {N : Nat} {G : Hp} {a : Addr} {xs : List V} {ws : List W} (h : SqL K G a xs) (t : RelWs K ι N G xs ws) : SrcR K (Itl K a) ws ι N G where
 go := fun i w ι' N' G' H' hw e sm => by
  obtain ⟨v, hv, rv⟩ := (t.mono e).get hw
  have hq : SqL K H' a xs := sm.seq (e.sm.seq h)
  refine ⟨⟨xs, v, hq, hv⟩, fun v' H'' ⟨e1, y⟩ => ⟨e1, ?_⟩⟩
  have := y xs hq
  rw [hv] at this
  cases this
  exact rv
 stop := fun G' H' sm sm' => ⟨xs, sm'.seq (sm.seq h), by rw [t.length]; exact Nat.le_refl _⟩
theorem src_tup {K : PySem.W.Frag} {ι : Nat → Addr} {N : Nat} {G : Hp} {a : Addr} {xs : List V} {ws : List W} (h : SqT K G a xs) (t : RelWs K ι N G xs ws) : SrcR K (Itt K a) ws ι N G where
 go := fun i w ι' N' G' H' hw e sm => by
  obtain ⟨v, hv, rv⟩ := (t.mono e).get hw
  have hq : SqT K H' a xs := sqT_same sm (sqT_same e.sm h)
  refine ⟨⟨xs, v, hq, hv⟩, fun v' H'' ⟨e1, y⟩ => ⟨e1, ?_⟩⟩
  have := y xs hq
  rw [hv] at this
  cases this
  exact rv
 stop := fun G' H' sm sm' => ⟨xs, sqT_same sm' (sqT_same sm h), by rw [t.length]; exact Nat.le_refl _⟩
theorem src_str {K : PySem.W.Frag} {ι : Nat → Addr} {N : Nat} {G : Hp} (z : Str) : SrcR K (Its z) (signs z) ι N G where
 go := fun i w ι' N' G' H' hw e sm => by
  unfold signs at hw
  rw [List.getElem?_map] at hw
  cases hc : z.cps.toList[i]? with
  | none => rw [hc] at hw; cases hw
  | some c =>
   rw [hc] at hw
   cases hw
   have hc' : z.cps[i]? = some c := by simpa using hc
   have hi : i < z.cps.size := (Array.getElem?_eq_some_iff.mp hc').1
   refine ⟨hi, fun v' H'' ⟨e1, c', h1, h2⟩ => ⟨e1, ?_⟩⟩
   rw [hc'] at h1
   cases h1
   rw [h2]
   exact .str _
 stop := fun G' H' sm sm' => by
  show z.cps.size ≤ (signs z).length
  unfold signs
  simp
def rangeW (lo : Int) (n : Nat) : List W := (List.range n).map fun (i : Nat) => W.int (lo + i)
theorem src_range {K : PySem.W.Frag} {ι : Nat → Addr} {N : Nat} {G : Hp} (lo : Int) (n : Nat) : SrcR K (Itr lo n) (rangeW lo n) ι N G where
 go := fun i w ι' N' G' H' hw e sm => by
  unfold rangeW at hw
  rw [List.getElem?_map] at hw
  by_cases hi : i < n
  ·rw [List.getElem?_range hi] at hw
   cases hw
   refine ⟨hi, fun v' H'' ⟨e1, h2⟩ => ⟨e1, ?_⟩⟩
   rw [h2]
   exact .int _
  ·rw [List.getElem?_eq_none (by simp; omega)] at hw; cases hw
 stop := fun G' H' sm sm' => by
  show n ≤ (rangeW lo n).length
  unfold rangeW
  simp
theorem pdi_val {y : Str} {py : Pos} {l : Expr} {r : Run} (h : PD X l r) : PDI X (.Name y py) l (runSrc r) := by
 refine PI.imp (pi_seq h) fun σ H Q hq => ?_
 obtain ⟨ι, G, st, Γ, en, sr, q⟩ := hq
 refine ⟨ι, G, st, Γ, en, sr, ?_⟩
 unfold runSrc at q
 cases e1 : r Γ st with
 | stuck => rw [e1] at q; exact q
 | ex c s => rw [e1] at q; exact q
 | ok w st1 =>
  rw [e1] at q
  intro v ι1 G1 H1 x1 sr1 r1
  have q' : match (match srcOf w with | some xs => R.ok xs st1 | none => R.stuck) with
   | .ok items st' => ∀ J ι' G' H', Ext ι st.nxt G ι' st'.nxt G' → SR X.K ι' st' G' H' → SrcR X.K J items ι' st'.nxt G' → Q J H'
   | .ex c st' => XW X ι st.nxt G c st'
   | .stuck => False := q
  cases r1 with
  | tup s1 c1 t1 => exact .inr (.inl ⟨_, rfl, ⟨_, sqT_same sr1.sub s1⟩, q' _ ι1 G1 H1 x1 sr1 (src_tup s1 t1)⟩)
  | lst s1 t1 => exact .inl ⟨_, rfl, ⟨_, sr1.sub.seq s1⟩, q' _ ι1 G1 H1 x1 sr1 (src_list s1 t1)⟩
  | str z => exact .inr (.inr ⟨z, rfl, q' _ ι1 G1 H1 x1 sr1 (src_str z)⟩)
  | _ => exact q'.elim
def inRange (j : Int) : Prop := -(2 ^ 62) ≤ j ∧ j < 2 ^ 62
instance (j : Int) : Decidable (inRange j) := by unfold inRange; infer_instance
def runRng1 (r : Run) : Src := fun Γ st => (r Γ st).bind fun w st1 => match w with
 | .int j => if inRange j then .ok (rangeW 0 j.toNat) st1 else .stuck
 | _ => .stuck
theorem pdi_range1 {tg a : Expr} {p pos : Pos} {ra : Run} (hg : Gl X "range") (hm : X.mg "range" = none) (ha : PD X a ra) (hs : starEach [a] X.env = [(false, eval a X.env)]) : PDI X tg (.Call (.Name "range" p) [a] [] pos) (runRng1 ra) := by
 refine PI.imp (pi_range1 hg hm (pda_cons ha pda_nil hs) hs) fun σ H Q hq => ?_
 obtain ⟨ι, G, st, Γ, en, sr, q⟩ := hq
 refine ⟨ι, G, st, Γ, en, sr, ?_⟩
 unfold runRng1 at q
 unfold runsCons runsNil
 cases e1 : ra Γ st with
 | stuck => rw [e1] at q; exact q
 | ex c s => rw [e1] at q; exact q
 | ok w st1 =>
  rw [e1] at q
  intro vs ι1 G1 H1 x1 sr1 r1
  obtain ⟨v, rfl, r2⟩ := rel1 r1
  cases r2 with
  | int j =>
   by_cases hr : inRange j
   ·have q' : match (if inRange j then R.ok (rangeW 0 j.toNat) st1 else R.stuck) with
     | .ok items st' => ∀ J ι' G' H', Ext ι st.nxt G ι' st'.nxt G' → SR X.K ι' st' G' H' → SrcR X.K J items ι' st'.nxt G' → Q J H'
     | .ex c st' => XW X ι st.nxt G c st'
     | .stuck => False := q
    rw [if_pos hr] at q'
    exact ⟨j, rfl, hr.1, hr.2, q' _ ι1 G1 H1 x1 sr1 (src_range 0 _)⟩
   ·have q' : match (if inRange j then R.ok (rangeW 0 j.toNat) st1 else R.stuck) with
     | .ok items st' => ∀ J ι' G' H', Ext ι st.nxt G ι' st'.nxt G' → SR X.K ι' st' G' H' → SrcR X.K J items ι' st'.nxt G' → Q J H'
     | .ex c st' => XW X ι st.nxt G c st'
     | .stuck => False := q
    rw [if_neg hr] at q'
    exact q'.elim
  | _ => exact (show False from q).elim
def R.calm {α : Type} : R α → R α
 | .ok a s => .ok a s
 | _ => .stuck
def wp0 (K : PySem.W.Frag) (ι : Nat → Addr) (N : Nat) (G : Hp) (r : R W) (Q : VK) : Prop := match r with
 | .ok w st' => ∀ v ι' G' H', Ext ι N G ι' st'.nxt G' → SR K ι' st' G' H' → RelW K ι' st'.nxt G' v w → Q v H'
 | _ => False
def tD0 (K : PySem.W.Frag) (run : Run) : TE := fun σ H Q => ∃ ι G st Γ, EnvR K ι st.nxt G σ Γ ∧ SR K ι st G H ∧ wp0 K ι st.nxt G (run Γ st) Q
def tT0 (K : PySem.W.Frag) (run : Run) : TT := fun σ H Q => tD0 K run σ H fun v H' => ∃ b, v = .bl b ∧ Q b H'
theorem tD0_tD {run : Run} {σ : St} {H : Hp} {Q : VK} (h : tD0 X.K run σ H Q) : tD X run σ H Q := by
 obtain ⟨ι, G, st, Γ, en, sr, q⟩ := h
 refine ⟨ι, G, st, Γ, en, sr, ?_⟩
 cases e : run Γ st with
 | ok w st' => rw [e] at q; exact q
 | ex c s => rw [e] at q; exact q.elim
 | stuck => rw [e] at q; exact q
theorem PD.calm {e : Expr} {run : Run} (h : PD X e run) : PE X e (tD0 X.K run) := PE.imp h fun _ _ _ q => tD0_tD q
theorem PT.calm {e : Expr} {run : Run} (h : PT X e (tDT X run)) : PT X e (tT0 X.K run) := PT.imp h fun _ _ _ q => tD0_tD q
def compGo (rt re : Run) (Γc : Ga) : List W → List W → S → R (List W)
 | [], acc, st => .ok acc st
 | x :: xs, acc, st => (rt (some x :: Γc) st).calm.bind fun b st1 => match b with
  | .bl true => (re (some x :: Γc) st1).calm.bind fun y st2 => compGo rt re Γc xs (acc ++ [y]) st2
  | .bl false => compGo rt re Γc xs acc st1
  | _ => .stuck
def capG (cap : List Nat) (Γ : Ga) : Ga := cap.map fun j => (Γ[j]?).getD none
def opL (m : Bool) : OpN := if m then opNewL else opLst
def runComp (m : Bool) (src : Src) (cap : List Nat) (rt re : Run) : Run := fun Γ st => (src Γ st).bind fun items st1 => if items.length < sizeLine then (compGo rt re (capG cap Γ) items [] st1).bind (opL m) else .stuck
theorem cap_env {K : PySem.W.Frag} {ι : Nat → Addr} {N : Nat} {G : Hp} {σ : St} {Γ : Ga} {v : V} {w : W} (cap : List Nat) (en : EnvR K ι N G σ Γ) (r : RelW K ι N G v w) : EnvR K ι N G (capS cap σ (some v)) (some w :: capG cap Γ) := by
 refine ⟨by unfold capS capG; simp, fun i u h => ?_⟩
 cases i with
 | zero =>
  have h' : some (some w) = some (some u) := by simpa using h
  cases h'
  exact ⟨v, by unfold capS; simp, r⟩
 | succ i =>
  have h' : (capG cap Γ)[i]? = some (some u) := by simpa using h
  unfold capG at h'
  rw [List.getElem?_map] at h'
  cases hj : cap[i]? with
  | none => rw [hj] at h'; cases h'
  | some j =>
   rw [hj] at h'
   have h2 : (Γ[j]?).getD none = some u := Option.some.inj h'
   cases hg : Γ[j]? with
   | none => rw [hg] at h2; cases h2
   | some o =>
    rw [hg] at h2
    have h3 : o = some u := h2
    subst h3
    obtain ⟨z, h4, h5⟩ := en.get j u hg
    refine ⟨z, ?_, h5⟩
    unfold capS
    rw [List.getElem?_cons_succ, List.getElem?_map, hj]
    show some ((σ[j]?).getD none) = some (some z)
    rw [h4]; rfl
def wpL (X : Cx) (m : Bool) (ι : Nat → Addr) (N : Nat) (G : Hp) (r : R (List W)) (Q : VK) : Prop := match r with
 | .ok ys st => wpW X ι N G (opL m ys st) Q
 | .ex c st => XW X ι N G c st
 | .stuck => False
theorem wpL_bind {m : Bool} {ι : Nat → Addr} {N : Nat} {G : Hp} {r : R (List W)} {Q : VK} (h : wpW X ι N G (r.bind (opL m)) Q) : wpL X m ι N G r Q := by
 cases r <;> exact h
theorem wpL.later {m : Bool} {ι ι1 : Nat → Addr} {N N1 : Nat} {G G1 : Hp} {r : R (List W)} {Q : VK} (e : Ext ι N G ι1 N1 G1) (h : wpL X m ι N G r Q) : wpL X m ι1 N1 G1 r Q := by
 cases r with
 | stuck => exact h
 | ex c s => exact XW.mono e h
 | ok w st' => exact wpW.later e h
theorem wpL_step {m : Bool} {ι : Nat → Addr} {N : Nat} {G : Hp} {r : R W} {f : W → S → R (List W)} {Q : VK} {Q' : VK} {K : PySem.W.Frag} (hK : K = X.K) (h : wpL X m ι N G (r.calm.bind f) Q)
  (k : ∀ w st' v ι' G' H', Ext ι N G ι' st'.nxt G' → SR X.K ι' st' G' H' → RelW X.K ι' st'.nxt G' v w → wpL X m ι' st'.nxt G' (f w st') Q → Q' v H') : wp0 K ι N G r Q' := by
 subst hK
 cases r with
 | stuck => exact h
 | ex c s => exact (show False from h).elim
 | ok w st' => exact fun v ι' G' H' e sr rel => k w st' v ι' G' H' e sr rel (wpL.later e (show wpL X m ι N G (f w st') Q from h))
theorem pd_comp {scope : Scope} {x : Str} {px pos : Pos} {cl : List (Str × Addr)} {N : List Str} {cap : List Nat} {elt iter : Expr} {ifs : List Expr} {src : Src} {rt re : Run} {m : Bool} (hc : X.calm = true) (hi : PDI X (.Name x px) iter src) (Sc : CompSc X scope x cl N cap)
  (ht : ∀ C s H ex, PTs (cxComp X scope cl C N s H ex) ifs (tT0 X.K rt)) (he : ∀ C s H ex, PE (cxComp X scope cl C N s H ex) elt (tD0 X.K re)) (hs : ∀ z, foldedSetIterable iter X.env z = pure z) :
  PD X (.ListComp elt [⟨.Name x px, iter, ifs, 0⟩] scope pos) (runComp m src cap rt re) ∧
  (∀ {i : Nat} {y : Str} {py spos : Pos}, X.N.Nodup → X.N[i]? = some y → X.env.scope.names.lookup y = some .local → swapsWith (.ListComp elt [⟨.Name x px, iter, ifs, 0⟩] scope pos) (some (.Name y py)) spos.line X.env = pure true →
   PS X (.Assign [.Name y py] (.ListComp elt [⟨.Name x px, iter, ifs, 0⟩] scope pos) spos) (tAsg (tD X (runComp m src cap rt re)) (gName i))) := by
 have key : ∀ σ H Q, tD X (runComp m src cap rt re) σ H Q → tComp (tDI X src) cap (tT0 X.K rt) (tD0 X.K re) σ H Q := by
  intro σ H Q h
  obtain ⟨ι, G, st, Γ, en, sr, q⟩ := h
  refine ⟨ι, G, st, Γ, en, sr, ?_⟩
  unfold runComp at q
  cases e1 : src Γ st with
  | stuck => rw [e1] at q; exact q
  | ex c s => rw [e1] at q; exact q
  | ok items st1 =>
   rw [e1] at q
   intro J ι1 G1 H1 x1 sr1 sc
   have q' : wpW X ι st.nxt G (if items.length < sizeLine then (compGo rt re (capG cap Γ) items [] st1).bind (opL m) else .stuck) Q := q
   by_cases hl : items.length < sizeLine
   ·rw [if_pos hl] at q'
    have q1 := wpL.later x1 (wpL_bind q')
    have en1 := en.mono x1
    refine ⟨fun i k ys H' => k = items.length - i ∧ i ≤ items.length ∧ ys.length ≤ i ∧ ∃ ι2 G2 st2 acc, Ext ι1 st1.nxt G1 ι2 st2.nxt G2 ∧ SR X.K ι2 st2 G2 H' ∧ RelWs X.K ι2 st2.nxt G2 ys acc ∧ wpL X m ι2 st2.nxt G2 (compGo rt re (capG cap Γ) (items.drop i) acc st2) Q,
     ⟨items.length, by simp, Nat.zero_le _, Nat.zero_le _, ι1, G1, st1, [], Ext.refl _ _ _, sr1, .nil, by rw [List.drop_zero]; exact q1⟩, ?_⟩
    rintro i k ys H' ⟨rfl, hi', hy, ι2, G2, st2, acc, e2, sr2, ra, q2⟩
    refine ⟨by omega, ?_⟩
    by_cases hlt : i < items.length
    ·have hd : items.drop i = items[i] :: items.drop (i + 1) := List.drop_eq_getElem_cons hlt
     have hg : items[i]? = some items[i] := List.getElem?_eq_getElem hlt
     obtain ⟨g1, g2⟩ := sc.go i items[i] ι2 st2.nxt G2 H' hg e2 sr2.sub
     refine .inr ⟨g1, fun v H'' hy' => ?_⟩
     obtain ⟨eh, rv⟩ := g2 v H'' hy'
     subst eh
     rw [hd] at q2
     have q2' : wpL X m ι2 st2.nxt G2 ((rt (some items[i] :: capG cap Γ) st2).calm.bind fun b st3 => match b with
      | .bl true => (re (some items[i] :: capG cap Γ) st3).calm.bind fun y st4 => compGo rt re (capG cap Γ) (items.drop (i + 1)) (acc ++ [y]) st4
      | .bl false => compGo rt re (capG cap Γ) (items.drop (i + 1)) acc st3
      | _ => .stuck) Q := q2
     have en2 : EnvR X.K ι2 st2.nxt G2 (capS cap σ (some v)) (some items[i] :: capG cap Γ) := cap_env cap (en1.mono e2) rv
     refine ⟨ι2, G2, st2, some items[i] :: capG cap Γ, en2, sr2, wpL_step rfl q2' fun b st3 vb ι3 G3 H3 e3 sr3 rb q3 => ?_⟩
     cases b with
     | bl b =>
      cases rb
      refine ⟨b, rfl, ?_⟩
      cases b with
      | true =>
       rw [if_pos rfl]
       refine ⟨ι3, G3, st3, some items[i] :: capG cap Γ, en2.mono e3, sr3, wpL_step rfl q3 fun y st4 vy ι4 G4 H4 e4 sr4 ry q4 => ?_⟩
       refine ⟨items.length - (i + 1), by omega, rfl, hlt, by rw [List.length_append, List.length_singleton]; omega, ι4, G4, st4, acc ++ [y], (e2.trans e3).trans e4, sr4, ((ra.mono e3).mono e4).append (.cons ry .nil), q4⟩
      | false =>
       rw [if_neg Bool.false_ne_true]
       exact ⟨items.length - (i + 1), by omega, rfl, hlt, by omega, ι3, G3, st3, acc, e2.trans e3, sr3, ra.mono e3, q3⟩
     | _ => exact (show False from q3).elim
    ·have ei : i = items.length := by omega
     subst ei
     rw [List.drop_length] at q2
     refine .inl ⟨sc.stop G2 H' e2.sm sr2.sub, ?_⟩
     have q3 : wpW X ι2 st2.nxt G2 (opL m acc st2) Q := q2
     cases m with
     | true => exact (newL_laid sr2 ra q3).2
     | false => exact (lst_laid sr2 ra q3).2
   ·rw [if_neg hl] at q'; exact (show False from q').elim
 refine ⟨PE.imp (pe_comp hc hi Sc ht he hs) key, fun {i y py spos} hN hy hL hsw => ?_⟩
 exact PS.imp (ps_setComp hN hy hL hc hi Sc ht he hsw hs) fun D σ H h => key σ H _ h
def SpD (K : PySem.W.Frag) (n : Nat) (op : OpN) : Sp := fun vs H Q _ => vs.length = n ∧ ∃ ι G st ws, SR K ι st G H ∧ RelWs K ι st.nxt G vs ws ∧ wp0 K ι st.nxt G (op ws st) Q
def calmOp (op : OpN) : OpN := fun ws st => (op ws st).calm
theorem wp0_calm {ι : Nat → Addr} {N : Nat} {G : Hp} {r : R W} {Q : VK} (h : wpW X ι N G r.calm Q) : wp0 X.K ι N G r Q := by
 cases r with
 | ok w st => exact h
 | ex c s => exact (show False from h).elim
 | stuck => exact h
theorem pd_call {k n : Nat} {f : Addr} {fd : FuncData} {ps : List Str} {op : OpN} {x : Str} {p pos : Pos} {e : Expr} {es : List Expr} {rr : Runs} (F : FnOk X.prog X.w X.K X.mg X.base CX0 k f fd ps (SpD X.K n op)) (hr : Room k X.A) (hg : Gl X x) (hm : X.mg x = some (.ref f)) (hk : PySem.W.keepIn X.K (.ref f) = true)
  (hb : Binds X.K fd ps []) (ha : PDA X (e :: es) rr) (hn : ∀ Γ st ws st', rr Γ st = .ok ws st' → ws.length = n) (hdb : (x == ("__debug__" : Str)) = false) (he : starEach (e :: es) X.env = (false, eval e X.env) :: starEach es X.env) (hpl : (backTo pos (starEach es X.env)).any (·.1) = false) :
  PD X (.Call (.Name x p) (e :: es) [] pos) (runN rr (calmOp op)) := by
 refine PE.imp (pe_call F hr hg hm hk hb .nil pass0 ha hdb he hpl) fun σ H Q h => ?_
 obtain ⟨ι, G, st, Γ, en, sr, q⟩ := h
 refine ⟨ι, G, st, Γ, en, sr, ?_⟩
 unfold runN at q
 cases e1 : rr Γ st with
 | stuck => rw [e1] at q; exact q
 | ex c s => rw [e1] at q; exact q
 | ok ws st1 =>
  rw [e1] at q
  intro vs ι1 G1 H1 x1 sr1 r1
  rw [List.append_nil]
  exact ⟨by rw [r1.length]; exact hn Γ st ws st1 e1, ι1, G1, st1, ws, sr1, r1, wp0_calm (wpW.later x1 (show wpW X ι st.nxt G (calmOp op ws st1) Q from q))⟩
end
end DL
namespace DL
open PySem PySem.Spec PyProof.Rows L2
inductive Fl where
 | nx (Γ : Ga) | rt (w : W) | bk (Γ : Ga) | ct (Γ : Ga)
abbrev RunS := Ga → S → R Fl
section
variable {X : Cx}
def wpF (X : Cx) (ι : Nat → Addr) (N : Nat) (G : Hp) (r : R Fl) (D : Ends) : Prop := match r with
 | .ok fl st' => ∀ ι' G' H', Ext ι N G ι' st'.nxt G' → SR X.K ι' st' G' H' → (match fl with
  | .nx Γ' => ∀ σ', EnvR X.K ι' st'.nxt G' σ' Γ' → D.nx σ' H'
  | .rt w => ∀ v, RelW X.K ι' st'.nxt G' v w → D.rt v H'
  | .bk Γ' => ∀ σ', EnvR X.K ι' st'.nxt G' σ' Γ' → D.bk σ' H'
  | .ct Γ' => ∀ σ', EnvR X.K ι' st'.nxt G' σ' Γ' → D.ct σ' H')
 | .ex c st' => XW X ι N G c st'
 | .stuck => False
theorem wpF.later {ι ι1 : Nat → Addr} {N N1 : Nat} {G G1 : Hp} {r : R Fl} {D : Ends} (e : Ext ι N G ι1 N1 G1) (h : wpF X ι N G r D) : wpF X ι1 N1 G1 r D := by
 cases r with
 | stuck => exact h
 | ex c s => exact XW.mono e h
 | ok w st' => exact fun ι' G' H' e' sr => h ι' G' H' (e.trans e') sr
theorem wpF_bind {ι : Nat → Addr} {N : Nat} {G : Hp} {r : R W} {f : W → S → R Fl} {D : Ends} {Q' : VK} (h : wpF X ι N G (r.bind f) D)
  (k : ∀ w st' v ι' G' H', Ext ι N G ι' st'.nxt G' → SR X.K ι' st' G' H' → RelW X.K ι' st'.nxt G' v w → wpF X ι' st'.nxt G' (f w st') D → Q' v H') : wpW X ι N G r Q' := by
 cases r with
 | stuck => exact h
 | ex c s => exact h
 | ok w st' => exact fun v ι' G' H' e sr rel => k w st' v ι' G' H' e sr rel (wpF.later e (show wpF X ι N G (f w st') D from h))
def tDS (X : Cx) (run : RunS) : TS := fun D σ H => ∃ ι G st Γ, EnvR X.K ι st.nxt G σ Γ ∧ SR X.K ι st G H ∧ wpF X ι st.nxt G (run Γ st) D
abbrev PDS (X : Cx) (s : Stmt) (run : RunS) : Prop := PS X s (tDS X run)
abbrev PDSs (X : Cx) (s : List Stmt) (run : RunS) : Prop := PSs X s (tDS X run)
def sPass : RunS := fun Γ st => .ok (.nx Γ) st
def sBrk : RunS := fun Γ st => .ok (.bk Γ) st
def sCnt : RunS := fun Γ st => .ok (.ct Γ) st
def sRetN : RunS := fun _ st => .ok (.rt .non) st
def sRet (r : Run) : RunS := fun Γ st => (r Γ st).bind fun w st' => .ok (.rt w) st'
def sDrop (r : Run) : RunS := fun Γ st => (r Γ st).bind fun _ st' => .ok (.nx Γ) st'
def sSet (i : Nat) (r : Run) : RunS := fun Γ st => (r Γ st).bind fun w st' => .ok (.nx (Γ.set i (some w))) st'
def sIf (rc : Run) (a b : RunS) : RunS := fun Γ st => (rc Γ st).bind fun w st' => match w with
 | .bl true => a Γ st'
 | .bl false => b Γ st'
 | _ => .stuck
def sSeq (a b : RunS) : RunS := fun Γ st => (a Γ st).bind fun fl st' => match fl with
 | .nx Γ' => b Γ' st'
 | fl => .ok fl st'
theorem pds_pass {pos : Pos} : PDS X (.Pass pos) sPass := PS.imp ps_pass fun D σ H ⟨ι, G, _, _, en, sr, q⟩ => q ι G H (Ext.refl _ _ _) sr σ en
theorem pds_brk {pos : Pos} : PDS X (.Break pos) sBrk := PS.imp ps_break fun D σ H ⟨ι, G, _, _, en, sr, q⟩ => q ι G H (Ext.refl _ _ _) sr σ en
theorem pds_cnt {pos : Pos} : PDS X (.Continue pos) sCnt := PS.imp ps_continue fun D σ H ⟨ι, G, _, _, en, sr, q⟩ => q ι G H (Ext.refl _ _ _) sr σ en
theorem pds_retN {pos : Pos} : PDS X (.Return none pos) sRetN := PS.imp ps_retN fun D σ H ⟨ι, G, _, _, en, sr, q⟩ => q ι G H (Ext.refl _ _ _) sr .non .non
theorem pds_ret {e : Expr} {pos : Pos} {r : Run} (he : PD X e r) : PDS X (.Return (some e) pos) (sRet r) := by
 refine PS.imp (ps_ret he) fun D σ H ⟨ι, G, st, Γ, en, sr, q⟩ => ⟨ι, G, st, Γ, en, sr, wpF_bind q fun w st1 v ι1 G1 H1 e1 sr1 r1 q1 => ?_⟩
 exact q1 ι1 G1 H1 (Ext.refl _ _ _) sr1 v r1
theorem pds_drop {e : Expr} {pos : Pos} {r : Run} (he : PD X e r) (hs : swapsWith e none pos.line X.env = pure false) : PDS X (.Expr e pos) (sDrop r) := by
 refine PS.imp (ps_expr he hs) fun D σ H ⟨ι, G, st, Γ, en, sr, q⟩ => ⟨ι, G, st, Γ, en, sr, wpF_bind q fun w st1 v ι1 G1 H1 e1 sr1 r1 q1 => ?_⟩
 exact q1 ι1 G1 H1 (Ext.refl _ _ _) sr1 σ (en.mono e1)
theorem asg_set {r : Run} {i : Nat} {D : Ends} {σ : St} {H : Hp} (h : tDS X (sSet i r) D σ H) : tAsg (tD X r) (gName i) D σ H := by
 obtain ⟨ι, G, st, Γ, en, sr, q⟩ := h
 refine ⟨ι, G, st, Γ, en, sr, wpF_bind q fun w st1 v ι1 G1 H1 e1 sr1 r1 q1 => ?_⟩
 exact q1 ι1 G1 H1 (Ext.refl _ _ _) sr1 _ ((en.mono e1).set i r1)
theorem pds_set {i : Nat} {x : Str} {e : Expr} {pos pos' : Pos} {r : Run} (hN : X.N.Nodup) (hi : X.N[i]? = some x) (hx : Loc X.env.scope x) (he : PD X e r) (hs : swapsWith e (some (.Name x pos')) pos.line X.env = pure false) (hf : X.fn x = true ∨ X.env.scope.names.lookup x = some .local) :
  PDS X (.Assign [.Name x pos'] e pos) (sSet i r) := PS.imp (ps_set hN hi hx he hs hf) fun D σ H h => asg_set h
theorem pds_if {c : Expr} {a b : List Stmt} {pos : Pos} {rc : Run} {ra rb : RunS} (hc : PT X c (tDT X rc)) (ha : PDSs X a ra) (hb : PDSs X b rb) : PDS X (.If c a b pos) (sIf rc ra rb) := by
 refine PS.imp (ps_if hc ha hb) fun D σ H ⟨ι, G, st, Γ, en, sr, q⟩ => ⟨ι, G, st, Γ, en, sr, wpF_bind q fun w st1 v ι1 G1 H1 e1 sr1 r1 q1 => ?_⟩
 cases w with
 | bl b =>
  cases r1
  refine ⟨b, rfl, ?_⟩
  cases b with
  | true => rw [if_pos rfl]; exact ⟨ι1, G1, st1, Γ, en.mono e1, sr1, q1⟩
  | false => rw [if_neg Bool.false_ne_true]; exact ⟨ι1, G1, st1, Γ, en.mono e1, sr1, q1⟩
 | _ => exact (show False from q1).elim
theorem pdss_nil : PDSs X [] sPass := PSs.imp pss_nil fun D σ H ⟨ι, G, _, _, en, sr, q⟩ => q ι G H (Ext.refl _ _ _) sr σ en
theorem pdss_cons {s : Stmt} {ss : List Stmt} {a b : RunS} (h1 : PDS X s a) (h2 : PDSs X ss b) : PDSs X (s :: ss) (sSeq a b) := by
 refine PSs.imp (pss_cons h1 h2) fun D σ H ⟨ι, G, st, Γ, en, sr, q⟩ => ⟨ι, G, st, Γ, en, sr, ?_⟩
 unfold sSeq at q
 cases e1 : a Γ st with
 | stuck => rw [e1] at q; exact q
 | ex c s => rw [e1] at q; exact q
 | ok fl st1 =>
  rw [e1] at q
  intro ι1 G1 H1 x1 sr1
  cases fl with
  | nx Γ1 => exact fun σ1 en1 => ⟨ι1, G1, st1, Γ1, en1, sr1, wpF.later x1 (show wpF X ι st.nxt G (b Γ1 st1) D from q)⟩
  | rt w => exact q ι1 G1 H1 x1 sr1
  | bk Γ1 => exact q ι1 G1 H1 x1 sr1
  | ct Γ1 => exact q ι1 G1 H1 x1 sr1
def loopS (i : Nat) (body : RunS) : List W → Ga → S → R Fl
 | [], Γ, st => .ok (.nx Γ) st
 | x :: xs, Γ, st => (body (Γ.set i (some x)) st).bind fun fl st' => match fl with
  | .nx Γ' => loopS i body xs Γ' st'
  | .ct Γ' => loopS i body xs Γ' st'
  | .bk Γ' => .ok (.nx Γ') st'
  | .rt w => .ok (.rt w) st'
def sFor (i : Nat) (src : Src) (body : RunS) : RunS := fun Γ st => (src Γ st).bind fun items st' => loopS i body items Γ st'
theorem pds_for {i : Nat} {x : Str} {px pos : Pos} {iter : Expr} {body : List Stmt} {src : Src} {rb : RunS} (hp : PassesOwn (model X.prog X.w) X.A X.env X.xe) (hc : X.calm = true) (hi : PDI X (.Name x px) iter src) (hg : PG X (.Name x px) (gName i)) (hb : PDSs X body rb) (hs : ∀ z, foldedSetIterable iter X.env z = pure z) :
  PDS X (.For (.Name x px) iter body [] pos) (sFor i src rb) := by
 refine PS.imp (ps_for hp hc hi hg hb hs) fun D σ H ⟨ι, G, st, Γ, en, sr, q⟩ => ⟨ι, G, st, Γ, en, sr, ?_⟩
 unfold sFor at q
 cases e1 : src Γ st with
 | stuck => rw [e1] at q; exact q
 | ex c s => rw [e1] at q; exact q
 | ok items st1 =>
  rw [e1] at q
  intro J ι1 G1 H1 x1 sr1 sc
  have q1 : wpF X ι1 st1.nxt G1 (loopS i rb items Γ st1) D := wpF.later x1 (show wpF X ι st.nxt G (loopS i rb items Γ st1) D from q)
  refine ⟨fun k m σ' H' => m = items.length - k ∧ k ≤ items.length ∧ ∃ ι2 G2 st2 Γ2, Ext ι1 st1.nxt G1 ι2 st2.nxt G2 ∧ SR X.K ι2 st2 G2 H' ∧ EnvR X.K ι2 st2.nxt G2 σ' Γ2 ∧ wpF X ι2 st2.nxt G2 (loopS i rb (items.drop k) Γ2 st2) D,
   ⟨items.length, by simp, Nat.zero_le _, ι1, G1, st1, Γ, Ext.refl _ _ _, sr1, en.mono x1, by rw [List.drop_zero]; exact q1⟩, ?_⟩
  rintro k m σ' H' ⟨rfl, hk, ι2, G2, st2, Γ2, e2, sr2, en2, q2⟩
  by_cases hlt : k < items.length
  ·have hd : items.drop k = items[k] :: items.drop (k + 1) := List.drop_eq_getElem_cons hlt
   have hg' : items[k]? = some items[k] := List.getElem?_eq_getElem hlt
   obtain ⟨g1, g2⟩ := sc.go k items[k] ι2 st2.nxt G2 H' hg' e2 sr2.sub
   rw [hd] at q2
   refine .inr ⟨g1, fun σ3 H3 => ∃ ι3 G3 st3 Γ3, Ext ι1 st1.nxt G1 ι3 st3.nxt G3 ∧ SR X.K ι3 st3 G3 H3 ∧ EnvR X.K ι3 st3.nxt G3 σ3 Γ3 ∧ wpF X ι3 st3.nxt G3 (loopS i rb (items.drop (k + 1)) Γ3 st3) D,
    fun σ3 H3 h3 => ⟨items.length - (k + 1), by omega, rfl, hlt, h3⟩, fun v H'' hy => ?_⟩
   obtain ⟨eh, rv⟩ := g2 v H'' hy
   subst eh
   refine ⟨ι2, G2, st2, Γ2.set i (some items[k]), en2.set i rv, sr2, ?_⟩
   have q2' : wpF X ι2 st2.nxt G2 ((rb (Γ2.set i (some items[k])) st2).bind fun fl st' => match fl with
    | .nx Γ' => loopS i rb (items.drop (k + 1)) Γ' st'
    | .ct Γ' => loopS i rb (items.drop (k + 1)) Γ' st'
    | .bk Γ' => .ok (.nx Γ') st'
    | .rt w => .ok (.rt w) st') D := q2
   cases e3 : rb (Γ2.set i (some items[k])) st2 with
   | stuck => rw [e3] at q2'; exact q2'
   | ex c s => rw [e3] at q2'; exact q2'
   | ok fl st3 =>
    rw [e3] at q2'
    intro ι3 G3 H3 x3 sr3
    cases fl with
    | nx Γ3 => exact fun σ3 en3 => ⟨ι3, G3, st3, Γ3, e2.trans x3, sr3, en3, wpF.later x3 q2'⟩
    | ct Γ3 => exact fun σ3 en3 => ⟨ι3, G3, st3, Γ3, e2.trans x3, sr3, en3, wpF.later x3 q2'⟩
    | bk Γ3 => exact q2' ι3 G3 H3 x3 sr3
    | rt w => exact q2' ι3 G3 H3 x3 sr3
  ·have ek : k = items.length := by omega
   subst ek
   rw [List.drop_length] at q2
   exact .inl ⟨sc.stop G2 H' e2.sm sr2.sub, q2 ι2 G2 H' (Ext.refl _ _ _) sr2 σ' en2⟩
def putAt (n : Nat) (k : Int) (v : W) (st : S) : Option MO → R Unit
 | some (.lst ws) => (match ixN ws.length k with | some j => .ok () (st.put n (.lst (ws.set j v))) | none => .stuck)
 | _ => .stuck
def opSetIx0 : W → W → W → S → R Unit := fun o i v st => match o, i with
 | .ref n, .int k => putAt n k v st (st.mu n)
 | _, _ => .stuck
def sSetIx0 (ro ri rv : Run) : RunS := fun Γ st => (rv Γ st).bind fun v st1 => (ro Γ st1).bind fun o st2 => (ri Γ st2).bind fun i st3 => (opSetIx0 o i v st3).bind fun _ st4 => .ok (.nx Γ) st4
theorem pds_setIx0 {o i e : Expr} {pos tpos : Pos} {ro ri rv : Run} (ho : PD X o ro) (hi : PD X i ri) (he : PD X e rv) (hg : ∀ {t : TSet}, PSet X t → PG X (.Subscript o i tpos) (gSub (tD X ro) (tD X ri) t)) (hs : swapsWithSole [.Subscript o i tpos] e pos.line X.env = pure false) (hw : swappedStores [.Subscript o i tpos] e X.env = pure none) :
  PDS X (.Assign [.Subscript o i tpos] e pos) (sSetIx0 ro ri rv) := by
 refine PS.imp (ps_asg he (hg set_list) hs hw) fun D σ H ⟨ι, G, st, Γ, en, sr, q⟩ => ⟨ι, G, st, Γ, en, sr, wpF_bind q fun w st1 v ι1 G1 H1 e1 sr1 r1 q1 => ?_⟩
 refine ⟨ι1, G1, st1, Γ, en.mono e1, sr1, wpF_bind q1 fun wo st2 vo ι2 G2 H2 e2 sr2 r2 q2 => ?_⟩
 refine ⟨ι2, G2, st2, Γ, (en.mono e1).mono e2, sr2, wpF_bind q2 fun wi st3 vi ι3 G3 H3 e3 sr3 r3 q3 => ?_⟩
 have r1' := (r1.mono e2).mono e3
 have r2' := r2.mono e3
 cases wo with
 | ref n =>
  cases wi with
  | int k =>
   cases r3
   cases r2'
   have q3 : wpF X ι3 st3.nxt G3 ((putAt n k w st3 (st3.mu n)).bind fun x st4 => .ok (.nx Γ) st4) D := q3
   cases em : st3.mu n with
   | none => rw [em] at q3; exact (show False from q3).elim
   | some ob =>
    cases ob with
    | dct ks vs => rw [em] at q3; exact (show False from q3).elim
    | lst ws =>
     rw [em] at q3
     have q3 : wpF X ι3 st3.nxt G3 ((match ixN ws.length k with | some j => R.ok () (st3.put n (.lst (ws.set j w))) | none => R.stuck).bind fun x st4 => .ok (.nx Γ) st4) D := q3
     cases ej : ixN ws.length k with
     | none => rw [ej] at q3; exact (show False from q3).elim
     | some j =>
      rw [ej] at q3
      obtain ⟨_, _, xs, hx, rx⟩ := sr3.live n _ em
      refine ⟨_, xs, k, j, rfl, rfl, hx, by rw [rx.length]; exact ej, ?_⟩
      have sr4 := sr3.putL em (rx.set r1' j)
      exact q3 ι3 G3 _ (Ext.refl _ _ _) sr4 σ (((en.mono e1).mono e2).mono e3)
  | _ => exact (show False from q3).elim
 | _ => exact (show False from q3).elim
def frzs (f : W → Option W) : List W → Option (List W)
 | [] => some []
 | x :: xs => match f x, frzs f xs with
  | some y, some ys => some (y :: ys)
  | _, _ => none
def frz (N : Nat) (mu : Nat → Option MO) : Nat → W → Option W
 | 0, _ => none
 | k + 1, w => match w with
  | .ref n => if n < N then some (.ref n) else (match mu n with
   | some (.lst xs) => (frzs (frz N mu k) xs).map W.lst
   | some (.dct ks xs) => (frzs (frz N mu k) xs).map (W.dct ks)
   | none => none)
  | .tup xs => (frzs (frz N mu k) xs).map W.tup
  | .lst xs => (frzs (frz N mu k) xs).map W.lst
  | .dct ks xs => (frzs (frz N mu k) xs).map (W.dct ks)
  | w => some w
section
variable {K : PySem.W.Frag} {ι ι' : Nat → Addr} {N N' : Nat} {G G' : Hp}
theorem RelW.low {v0 : V} {w : W} (h : RelW K ι N G v0 w) : ∀ v, RelW K ι' N' G' v w → RelW K ι' N G' v w := by
 refine RelW.rec (motive_1 := fun _ w _ => ∀ v, RelW K ι' N' G' v w → RelW K ι' N G' v w) (motive_2 := fun _ ws _ => ∀ vs, RelWs K ι' N' G' vs ws → RelWs K ι' N G' vs ws) ?_ ?_ ?_ ?_ ?_ ?_ ?_ ?_ ?_ ?_ ?_ ?_ h
 ·intro v r; cases r; exact .non
 ·intro b v r; cases r; exact .bl b
 ·intro i v r; cases r; exact .int i
 ·intro x v r; cases r; exact .str x
 ·intro n v r; cases r; exact .ty n
 ·intro a xs ws _ _ _ ih v r; cases r with | tup s c t => exact .tup s c (ih _ t)
 ·intro a xs ws _ _ ih v r; cases r with | lst s t => exact .lst s (ih _ t)
 ·intro a xs ks ws _ _ _ ih v r; cases r with | dct s l t => exact .dct s l (ih _ t)
 ·intro n hn v r; cases r; exact .ref hn
 ·intro a C x _ _ v r; cases r with | exn s n => exact .exn s n
 ·intro vs r; cases r; exact .nil
 ·intro x w xs ws _ _ i1 i2 vs r; cases r with | cons r t => exact .cons (i1 _ r) (i2 _ t)
theorem RelWs.low : ∀ {vs0 : List V} {ws : List W} {vs : List V}, RelWs K ι N G vs0 ws → RelWs K ι' N' G' vs ws → RelWs K ι' N G' vs ws
 | _, _, _, .nil, .nil => .nil
 | _, _, _, .cons r0 t0, .cons r t => .cons (r0.low _ r) (RelWs.low t0 t)
theorem frzs_rel {f : W → Option W} (hf : ∀ v w w', RelW K ι N' G v w → f w = some w' → RelW K ι N G' v w') : ∀ {vs : List V} {ws ws' : List W}, RelWs K ι N' G vs ws → frzs f ws = some ws' → RelWs K ι N G' vs ws'
 | _, _, _, .nil, h => by cases h; exact .nil
 | _, w :: ws, ws', .cons r t, h => by
  unfold frzs at h
  cases e1 : f w with
  | none => rw [e1] at h; cases h
  | some y =>
   cases e2 : frzs f ws with
   | none => rw [e1, e2] at h; cases h
   | some ys =>
    rw [e1, e2] at h
    cases h
    exact .cons (hf _ _ _ r e1) (frzs_rel hf t e2)
theorem frz_rel {mu : Nat → Option MO} (sm : Same G G') (hmu : ∀ n o, N ≤ n → mu n = some o → MOR K ι N' G G' (ι n) o) : ∀ (k : Nat) (v : V) (w w' : W), RelW K ι N' G v w → frz N mu k w = some w' → RelW K ι N G' v w'
 | 0, _, _, _, _, h => by cases h
 | k + 1, v, w, w', r, h => by
  have ih := frz_rel sm hmu k
  unfold frz at h
  cases r with
  | non => cases h; exact .non
  | bl b => cases h; exact .bl b
  | int i => cases h; exact .int i
  | str x => cases h; exact .str x
  | ty n => cases h; exact .ty n
  | exn s n => cases h; exact .exn (sm _ _ s) n
  | @tup a xs ws s c t =>
   have h : (frzs (frz N mu k) ws).map W.tup = some w' := h
   cases e : frzs (frz N mu k) ws with
   | none => rw [e] at h; cases h
   | some ys => rw [e] at h; cases h; exact .tup (sqT_same sm s) (fun h => sm _ _ (c h)) (frzs_rel ih t e)
  | @lst a xs ws s t =>
   have h : (frzs (frz N mu k) ws).map W.lst = some w' := h
   cases e : frzs (frz N mu k) ws with
   | none => rw [e] at h; cases h
   | some ys => rw [e] at h; cases h; exact .lst (sm.seq s) (frzs_rel ih t e)
  | @dct a xs ks ws s l t =>
   have h : (frzs (frz N mu k) ws).map (W.dct ks) = some w' := h
   cases e : frzs (frz N mu k) ws with
   | none => rw [e] at h; cases h
   | some ys => rw [e] at h; cases h; exact .dct (sm _ _ s) l (frzs_rel ih t e)
  | @ref n hn =>
   have h : (if n < N then some (W.ref n) else (match mu n with
    | some (.lst xs) => (frzs (frz N mu k) xs).map W.lst
    | some (.dct ks xs) => (frzs (frz N mu k) xs).map (W.dct ks)
    | none => none)) = some w' := h
   by_cases hl : n < N
   ·rw [if_pos hl] at h; cases h; exact .ref hl
   ·rw [if_neg hl] at h
    cases em : mu n with
    | none => rw [em] at h; cases h
    | some o =>
     rw [em] at h
     have m := hmu n o (Nat.le_of_not_lt hl) em
     cases o with
     | lst ws =>
      obtain ⟨xs, h1, t⟩ := m
      have h : (frzs (frz N mu k) ws).map W.lst = some w' := h
      cases e : frzs (frz N mu k) ws with
      | none => rw [e] at h; cases h
      | some ys => rw [e] at h; cases h; exact .lst (SqL.of h1) (frzs_rel ih t e)
     | dct ks ws =>
      obtain ⟨xs, h1, l, t⟩ := m
      have h : (frzs (frz N mu k) ws).map (W.dct ks) = some w' := h
      cases e : frzs (frz N mu k) ws with
      | none => rw [e] at h; cases h
      | some ys => rw [e] at h; cases h; exact .dct h1 l (frzs_rel ih t e)
end
theorem SR.kept {K : PySem.W.Frag} {ι ι' : Nat → Addr} {st st' : S} {G G' H H' : Hp} (sr0 : SR K ι st G H) (e : Ext ι st.nxt G ι' st'.nxt G') (sr1 : SR K ι' st' G' H') (hs : ∀ n, n < st.nxt → st'.mu n = st.mu n) :
  ∃ G'', Ext ι st.nxt G ι' st.nxt G'' ∧ SR K ι' st G'' H' ∧ (∀ (k : Nat) (v : V) (w w' : W), RelW K ι' st'.nxt G' v w → frz st.nxt st'.mu k w = some w' → RelW K ι' st.nxt G'' v w') ∧
   ∀ a, (¬ ∃ n o, st.nxt ≤ n ∧ st'.mu n = some o ∧ ι' n = a) → G'' a = G' a := by
 have hold : ∀ n o, st.mu n = some o → n < st.nxt ∧ st'.mu n = some o := fun n o h => by
  have l := (sr0.live n o h).1
  exact ⟨l, by rw [hs n l]; exact h⟩
 let P : Addr → Prop := fun a => ∃ n o, st.nxt ≤ n ∧ st'.mu n = some o ∧ ι' n = a
 let G'' : Hp := fun a => @ite _ (P a) (Classical.propDecidable _) (H' a) (G' a)
 have g1 : ∀ a, P a → G'' a = H' a := fun a h => @if_pos _ (Classical.propDecidable _) h _ _ _
 have g2 : ∀ a, ¬ P a → G'' a = G' a := fun a h => @if_neg _ (Classical.propDecidable _) h _ _ _
 have sm : Same G' G'' := fun a u h => by
  by_cases p : P a
  ·obtain ⟨n, o, _, h2, h3⟩ := p
   have := (sr1.live n o h2).2.1
   rw [h3, h] at this
   cases this
  ·rw [g2 a p]; exact h
 have sub : Same G'' H' := fun a u h => by
  by_cases p : P a
  ·rw [g1 a p] at h; exact h
  ·rw [g2 a p] at h; exact sr1.sub a u h
 refine ⟨G'', ⟨Nat.le_refl _, e.ag, e.sm.trans sm⟩, ⟨sub, fun n o h => ?_, fun n m o o' h h' z => sr1.inj n m o o' (hold n o h).2 (hold m o' h').2 z⟩, ?_, g2⟩
 ·obtain ⟨l, h'⟩ := hold n o h
  have np : ¬ P (ι' n) := fun ⟨m, o', h1, h2, h3⟩ => by
   have := sr1.inj m n o' o h2 h' h3
   omega
  obtain ⟨_, a2, a3⟩ := sr1.live n o h'
  have ex : Ext ι' st'.nxt G' ι' st'.nxt G'' := ⟨Nat.le_refl _, fun _ _ => rfl, sm⟩
  refine ⟨l, by rw [g2 _ np]; exact a2, ?_⟩
  have b3 := (sr0.live n o h).2.2
  cases o with
  | lst ws => obtain ⟨xs, q, t⟩ := a3; obtain ⟨_, _, t0⟩ := b3; exact ⟨xs, q, RelWs.low t0 (t.mono ex)⟩
  | dct ks ws => obtain ⟨xs, q, z, t⟩ := a3; obtain ⟨_, _, _, t0⟩ := b3; exact ⟨xs, q, z, RelWs.low t0 (t.mono ex)⟩
 ·refine frz_rel sm fun n o hn h => ?_
  have p : P (ι' n) := ⟨n, o, hn, h, rfl⟩
  have a3 := (sr1.live n o h).2.2
  cases o with
  | lst ws => obtain ⟨xs, q, t⟩ := a3; exact ⟨xs, by rw [g1 _ p]; exact q, t⟩
  | dct ks ws => obtain ⟨xs, q, z, t⟩ := a3; exact ⟨xs, by rw [g1 _ p]; exact q, z, t⟩
noncomputable def keep (st st' : S) (w : W) : R W := @ite _ (∀ n, n < st.nxt → st'.mu n = st.mu n) (Classical.propDecidable _) (match frz st.nxt st'.mu 12 w with
 | some w' => .ok w' st
 | none => .stuck) .stuck
theorem keep_pos {st st' : S} {w w' : W} (h : ∀ n, n < st.nxt → st'.mu n = st.mu n) (e : frz st.nxt st'.mu 12 w = some w') : keep st st' w = .ok w' st := by
 unfold keep
 rw [if_pos h, e]
theorem keep_inv {st st' : S} {w : W} (h : keep st st' w ≠ .stuck) : (∀ n, n < st.nxt → st'.mu n = st.mu n) ∧ ∃ w', frz st.nxt st'.mu 12 w = some w' ∧ keep st st' w = .ok w' st := by
 by_cases hs : ∀ n, n < st.nxt → st'.mu n = st.mu n
 ·refine ⟨hs, ?_⟩
  cases e : frz st.nxt st'.mu 12 w with
  | none => exact absurd (by unfold keep; rw [if_pos hs, e]) h
  | some w' => exact ⟨w', rfl, keep_pos hs e⟩
 ·exact absurd (by unfold keep; rw [if_neg hs]) h
theorem SR.adopt {K : PySem.W.Frag} {ι : Nat → Addr} {st : S} {G H : Hp} {p : Addr} {o : MO} (h : SR K ι st G H) (hG : G p = none) (hne : ∀ m o, st.mu m = some o → ι m ≠ p) (mor : MOR K ι st.nxt G H p o) :
  ∃ ι', Ext ι st.nxt G ι' (st.nxt + 1) G ∧ SR K ι' (st.new o) G H ∧ ι' st.nxt = p := by
 have ex : Ext ι st.nxt G (fun n => if n = st.nxt then p else ι n) (st.nxt + 1) G := ⟨Nat.le_succ _, fun n hn => if_neg (Nat.ne_of_lt hn), Same.refl G⟩
 have up : ∀ {a : Addr} {q : MO}, MOR K ι st.nxt G H a q → MOR K (fun n => if n = st.nxt then p else ι n) (st.nxt + 1) G H a q := by
  intro a q m
  cases q with
  | lst ws => obtain ⟨xs, q, r⟩ := m; exact ⟨xs, q, r.mono ex⟩
  | dct ks ws => obtain ⟨xs, q, l, r⟩ := m; exact ⟨xs, q, l, r.mono ex⟩
 refine ⟨fun n => if n = st.nxt then p else ι n, ex, ⟨h.sub, fun n q e => ?_, fun n m q q' e e' z => ?_⟩, if_pos rfl⟩
 ·by_cases hn : n = st.nxt
  ·subst hn
   have e' : (if st.nxt = st.nxt then some o else st.mu st.nxt) = some q := e
   rw [if_pos rfl] at e'
   cases e'
   refine ⟨Nat.lt_succ_self _, ?_, ?_⟩
   ·(try dsimp only); rw [if_pos rfl]; exact hG
   ·(try dsimp only); rw [if_pos rfl]; exact up mor
  ·have e' : (if n = st.nxt then some o else st.mu n) = some q := e
   rw [if_neg hn] at e'
   obtain ⟨h1, h2, h3⟩ := h.live n q e'
   refine ⟨Nat.lt_succ_of_lt h1, ?_, ?_⟩
   ·(try dsimp only); rw [if_neg hn]; exact h2
   ·(try dsimp only); rw [if_neg hn]; exact up h3
 ·have e1 : (if n = st.nxt then some o else st.mu n) = some q := e
  have e2 : (if m = st.nxt then some o else st.mu m) = some q' := e'
  (try dsimp only at z)
  by_cases hn : n = st.nxt
  ·by_cases hm : m = st.nxt
   ·rw [hn, hm]
   ·rw [if_neg hm] at e2
    rw [if_pos hn, if_neg hm] at z
    exact absurd z.symm (hne m q' e2)
  ·rw [if_neg hn] at e1
   by_cases hm : m = st.nxt
   ·rw [if_neg hn, if_pos hm] at z
    exact absurd z (hne n q e1)
   ·rw [if_neg hm] at e2
    rw [if_neg hn, if_neg hm] at z
    exact h.inj n m q q' e1 e2 z
def S.less (st : S) (n : Nat) : S := ⟨st.nxt, fun m => if m = n then none else st.mu m⟩
theorem SR.less {K : PySem.W.Frag} {ι : Nat → Addr} {st : S} {G H : Hp} (h : SR K ι st G H) (n : Nat) : SR K ι (st.less n) G H := by
 have sub : ∀ m o, (st.less n).mu m = some o → st.mu m = some o ∧ m ≠ n := fun m o e => by
  have e : (if m = n then none else st.mu m) = some o := e
  by_cases hm : m = n
  ·rw [if_pos hm] at e; cases e
  ·rw [if_neg hm] at e; exact ⟨e, hm⟩
 exact ⟨h.sub, fun m o e => h.live m o (sub m o e).1, fun a b o o' e e' z => h.inj a b o o' (sub a o e).1 (sub b o' e').1 z⟩
def frzMO (N : Nat) (mu : Nat → Option MO) : MO → Option MO
 | .lst xs => (frzs (frz N mu 12) xs).map MO.lst
 | .dct ks xs => (frzs (frz N mu 12) xs).map (MO.dct ks)
noncomputable def keepL (st st' : S) (w : W) : R W := match w with
 | .ref n => if n < st.nxt then keep st st' (.ref n) else @ite _ (∀ m, m < st.nxt → st'.mu m = st.mu m) (Classical.propDecidable _) (match st'.mu n with
  | some o => (match frzMO st.nxt (st'.less n).mu o with
   | some o' => .ok (.ref st.nxt) (st.new o')
   | none => .stuck)
  | none => .stuck) .stuck
 | w => keep st st' w
theorem SR.keptL {K : PySem.W.Frag} {ι ι' : Nat → Addr} {st st' : S} {G G' H H' : Hp} {n : Nat} {o o' : MO} (sr0 : SR K ι st G H) (e : Ext ι st.nxt G ι' st'.nxt G') (sr1 : SR K ι' st' G' H') (hs : ∀ n, n < st.nxt → st'.mu n = st.mu n)
  (hn : st.nxt ≤ n) (ho : st'.mu n = some o) (hf : frzMO st.nxt (st'.less n).mu o = some o') :
  ∃ ι'' G'', Ext ι st.nxt G ι'' (st.nxt + 1) G'' ∧ SR K ι'' (st.new o') G'' H' ∧ ι'' st.nxt = ι' n := by
 have hs' : ∀ m, m < st.nxt → (st'.less n).mu m = st.mu m := fun m hm => by
  show (if m = n then none else st'.mu m) = _
  rw [if_neg (by omega)]; exact hs m hm
 obtain ⟨G'', ex, sr2, rel, g2⟩ := sr0.kept (st' := st'.less n) e (sr1.less n) hs'
 obtain ⟨_, a2, a3⟩ := sr1.live n o ho
 have np : ¬ ∃ m q, st.nxt ≤ m ∧ (st'.less n).mu m = some q ∧ ι' m = ι' n := fun ⟨m, q, _, h2, h3⟩ => by
  have h2 : (if m = n then none else st'.mu m) = some q := h2
  by_cases hm : m = n
  ·rw [if_pos hm] at h2; cases h2
  ·rw [if_neg hm] at h2; exact hm (sr1.inj m n q o h2 ho h3)
 have hG : G'' (ι' n) = none := by rw [g2 _ np]; exact a2
 have mor : MOR K ι' st.nxt G'' H' (ι' n) o' := by
  cases o with
  | lst ws =>
   obtain ⟨xs, q, t⟩ := a3
   have hf : (frzs (frz st.nxt (st'.less n).mu 12) ws).map MO.lst = some o' := hf
   cases e2 : frzs (frz st.nxt (st'.less n).mu 12) ws with
   | none => rw [e2] at hf; cases hf
   | some ys => rw [e2] at hf; cases hf; exact ⟨xs, q, frzs_rel (rel 12) t e2⟩
  | dct ks ws =>
   obtain ⟨xs, q, z, t⟩ := a3
   have hf : (frzs (frz st.nxt (st'.less n).mu 12) ws).map (MO.dct ks) = some o' := hf
   cases e2 : frzs (frz st.nxt (st'.less n).mu 12) ws with
   | none => rw [e2] at hf; cases hf
   | some ys => rw [e2] at hf; cases hf; exact ⟨xs, q, z, frzs_rel (rel 12) t e2⟩
 obtain ⟨ι'', ex2, sr3, ep⟩ := sr2.adopt hG (fun m q h z => by
  have l := (sr0.live m q h).1
  have h' : st'.mu m = some q := by rw [hs m l]; exact h
  have := sr1.inj m n q o h' ho z
  omega) mor
 exact ⟨ι'', G'', ex.trans ex2, sr3, ep⟩
noncomputable def keepM (fz : Nat) (st st' : S) (w : W) : R W := match fz with
 | 0 => .ok w st'
 | 1 => keep st st' w
 | _ => keepL st st' w
noncomputable def leave (fz : Nat) (st : S) : R Fl → R W
 | .ok (.rt w) st' => keepM fz st st' w
 | .ok (.nx _) st' => keepM fz st st' .non
 | _ => .stuck
noncomputable def callOp (n nl fz : Nat) (run : RunS) : OpN := fun ws st => if ws.length = n then leave fz st (run (ws.map some ++ List.replicate (nl - n) none) st) else .stuck
theorem kept_ok {K : PySem.W.Frag} {ι ι1 : Nat → Addr} {st0 st1 : S} {G G1 H0 H1 : Hp} {fz : Nat} {w1 : W} {v : V} (sr : SR K ι st0 G H0) (x1 : Ext ι st0.nxt G ι1 st1.nxt G1) (sr1 : SR K ι1 st1 G1 H1) (r1 : RelW K ι1 st1.nxt G1 v w1)
  (ns : keepM fz st0 st1 w1 ≠ .stuck) : ∃ w' st' ι' G', keepM fz st0 st1 w1 = .ok w' st' ∧ Ext ι st0.nxt G ι' st'.nxt G' ∧ SR K ι' st' G' H1 ∧ RelW K ι' st'.nxt G' v w' := by
 have one : keep st0 st1 w1 ≠ .stuck → ∃ w' st' ι' G', keep st0 st1 w1 = .ok w' st' ∧ Ext ι st0.nxt G ι' st'.nxt G' ∧ SR K ι' st' G' H1 ∧ RelW K ι' st'.nxt G' v w' := fun ns => by
  obtain ⟨hs, w', e, ek⟩ := keep_inv ns
  obtain ⟨G2, e2, sr2, rel, _⟩ := sr.kept x1 sr1 hs
  exact ⟨w', st0, ι1, G2, ek, e2, sr2, rel 12 v w1 w' r1 e⟩
 match fz with
 | 0 => exact ⟨w1, st1, ι1, G1, rfl, x1, sr1, r1⟩
 | 1 => exact one ns
 | k + 2 =>
  have nl : keepL st0 st1 w1 ≠ .stuck := ns
  clear ns
  show ∃ w' st' ι' G', keepL st0 st1 w1 = .ok w' st' ∧ _
  unfold keepL at nl ⊢
  split at nl
  ·rename_i n
   by_cases hn : n < st0.nxt
   ·rw [if_pos hn] at nl ⊢; exact one nl
   ·rw [if_neg hn] at nl ⊢
    by_cases hs : ∀ m, m < st0.nxt → st1.mu m = st0.mu m
    ·rw [if_pos hs] at nl ⊢
     cases ho : st1.mu n with
     | none => rw [ho] at nl; exact absurd rfl nl
     | some o =>
      rw [ho] at nl
      have ns : (match frzMO st0.nxt (st1.less n).mu o with
       | some o' => R.ok (W.ref st0.nxt) (st0.new o')
       | none => .stuck) ≠ .stuck := nl
      cases hf : frzMO st0.nxt (st1.less n).mu o with
      | none => rw [hf] at ns; exact absurd rfl ns
      | some o' =>
       obtain ⟨ι2, G2, e2, sr2, ep⟩ := sr.keptL x1 sr1 hs (Nat.le_of_not_lt hn) ho hf
       refine ⟨.ref st0.nxt, st0.new o', ι2, G2, ?_, e2, sr2, ?_⟩
       ·show (match frzMO st0.nxt (st1.less n).mu o with
         | some o' => R.ok (W.ref st0.nxt) (st0.new o')
         | none => .stuck) = _
        rw [hf]
       ·cases r1
        rw [← ep]
        exact .ref (Nat.lt_succ_self _)
    ·rw [if_neg hs] at nl; exact absurd rfl nl
  ·exact one nl
theorem left_ok {K : PySem.W.Frag} {ι ι1 : Nat → Addr} {st0 st1 : S} {G G1 H0 H1 : Hp} {fz : Nat} {w1 : W} {v : V} {Q : VK} (sr : SR K ι st0 G H0) (x1 : Ext ι st0.nxt G ι1 st1.nxt G1) (sr1 : SR K ι1 st1 G1 H1) (r1 : RelW K ι1 st1.nxt G1 v w1)
  (q : wp0 K ι st0.nxt G (keepM fz st0 st1 w1) Q) : Q v H1 := by
 obtain ⟨w', st', ι', G', e, ex, sr', r'⟩ := kept_ok (fz := fz) sr x1 sr1 r1 (fun z => by rw [z] at q; exact q)
 rw [e] at q
 exact q v ι' G' H1 ex sr' r'
theorem start_env {K : PySem.W.Frag} {ι : Nat → Addr} {N : Nat} {G : Hp} {vs : List V} {ws : List W} {Ns : List Str} (t : RelWs K ι N G vs ws) : EnvR K ι N G (L2.start Ns vs) (ws.map some ++ List.replicate (Ns.length - ws.length) none) := by
 unfold L2.start
 rw [t.length]
 refine ⟨by simp [t.length], fun i w h => ?_⟩
 by_cases hi : i < ws.length
 ·rw [List.getElem?_append_left (by simpa using hi), List.getElem?_map] at h
  cases e : ws[i]? with
  | none => rw [e] at h; cases h
  | some u =>
   rw [e] at h
   cases h
   obtain ⟨v, h1, h2⟩ := t.get e
   refine ⟨v, ?_, h2⟩
   rw [List.getElem?_append_left (by rw [List.length_map, t.length]; exact hi), List.getElem?_map, h1]; rfl
 ·rw [List.getElem?_append_right (by simpa using hi), List.getElem?_replicate] at h
  split at h <;> cases h
theorem fn_body {P : Program} {w : World} {K : PySem.W.Frag} {mg : Str → Option Value} {base : Heap} {x qual : Str} {st : Stmt} {f : Addr} {fd : FuncData} {N ps : List Str} {k fz : Nat} {run : RunS} (F : Fun K x qual st f fd) (Sc : FnScope N ps (defScope st))
  (hb : ∀ (cdv : Value) (A : Around) (outer : List Env) (s : Shared) (H : Hp) (E : XK), Room k (A.deeper (envOfC qual (defScope st) s.heap.objs.size f cdv)) → PDSs (cxOf CX0 P w K mg base N qual (defScope st) f cdv A outer s H E).nox (defBody st) run) :
  FnOk P w K mg base CX0 (k + 1) f fd ps (SpD K ps.length (callOp ps.length N.length fz run)) := by
 refine Fun.ok F Sc (fun vs H Q E h => h.1) fun cdv A outer s H vs Q E hr hsp => ⟨_, hb cdv A outer s H E hr, ?_⟩
 obtain ⟨hl, ι, G, st0, ws, sr, t, q⟩ := hsp
 have hlw : ws.length = ps.length := by rw [← t.length]; exact hl
 refine ⟨ι, G, st0, ws.map some ++ List.replicate (N.length - ws.length) none, start_env t, sr, ?_⟩
 unfold callOp at q
 rw [if_pos hlw, ← hlw] at q
 cases e : run (ws.map some ++ List.replicate (N.length - ws.length) none) st0 with
 | stuck => rw [e] at q; exact q
 | ex c s => rw [e] at q; exact (show False from q).elim
 | ok fl st1 =>
  rw [e] at q
  intro ι1 G1 H1 x1 sr1
  cases fl with
  | nx Γ1 => exact fun σ1 en1 => left_ok (fz := fz) (w1 := .non) sr x1 sr1 .non q
  | rt w1 => exact fun v r1 => left_ok (fz := fz) sr x1 sr1 r1 q
  | bk Γ1 => exact (show False from q).elim
  | ct Γ1 => exact (show False from q).elim
end
end DL
namespace L2
open PySem PySem.Spec PyProof.Rows
section
variable {X : Cx}
variable {k : Nat} {f : Addr} {fd : FuncData} {pn : Str} {sp : Sp}
end
end L2
namespace DL
open PySem PySem.Spec PyProof.Rows L2
section
variable {X : Cx}
def rDict0 : Run := fun _ st => .ok (.dct [] []) st
theorem pd_dict0 {pos : Pos} : PD X (.Dict [] [] pos) rDict0 := by
 refine PE.imp pe_dnewT fun σ H Q h => ?_
 obtain ⟨ι, G, st, Γ, en, sr, q⟩ := h
 intro p hp
 obtain ⟨sr2, e2⟩ := sr.laid (o := dKo []) hp
 exact q _ ι _ _ e2 sr2 (.dct (xs := []) upd_same rfl .nil)
section
variable {K : PySem.W.Frag} {ι : Nat → Addr} {N : Nat} {G : Hp}
end
end
end DL
namespace DL
open PySem PySem.Spec PyProof.Rows L2
def wpX (K : PySem.W.Frag) (ι : Nat → Addr) (N : Nat) (G : Hp) (r : R W) (Q : VK) (E : XK) : Prop := match r with
 | .ok w st' => ∀ v ι' G' H', Ext ι N G ι' st'.nxt G' → SR K ι' st' G' H' → RelW K ι' st'.nxt G' v w → Q v H'
 | .ex c st' => ∀ ι' G' H' cls, Ext ι N G ι' st'.nxt G' → SR K ι' st' G' H' → ClsR K c cls → E cls none H'
 | .stuck => False
def SpX (K : PySem.W.Frag) (n : Nat) (op : OpN) : Sp := fun vs H Q E => vs.length = n ∧ ∃ ι G st ws, SR K ι st G H ∧ RelWs K ι st.nxt G vs ws ∧ wpX K ι st.nxt G (op ws st) Q E
section
variable {X : Cx}
end
end DL
namespace DL
open PySem PySem.Spec PyProof.Rows L2
section
variable {X : Cx}
end
end DL
namespace DL
open PySem PySem.Spec PyProof.Rows L2
section
variable {X : Cx}
def noCall0 : Expr → Bool
 | .Call _ [] [] _ => false
 | _ => true
theorem base_plain {o : Expr} {m : Str} {env : Env} {w : Sem Value} (h : noCall0 o = true) : attributeBase o m env w = w := by
 unfold attributeBase
 split
 ·exact absurd (show false = true from h) Bool.false_ne_true
 ·rfl
theorem tyV_kind {ι : Nat → Addr} {G H : Hp} {st : S} {v : V} {w : W} {T : String} (sr : SR X.K ι st G H) (r : RelW X.K ι st.nxt G v w) (k : kindW st w = some T) (hT : T = "str" ∨ T = "list" ∨ T = "dict") : tyV X.K T v H := by
 cases r with
 | non => cases k; exact absurd hT (by decide)
 | bl b => cases k; exact absurd hT (by decide)
 | int i => cases k; exact absurd hT (by decide)
 | str x => cases k; exact rfl
 | ty n => cases k
 | tup s c t => cases k; exact absurd hT (by decide)
 | lst s t => cases k; exact .inl ⟨rfl, _, sr.sub.seq s⟩
 | dct s l t => cases k; exact .inr (.inr (.inl ⟨rfl, .inr ⟨_, sr.sub _ _ s⟩⟩))
 | exn s n => cases k
 | @ref n hn =>
  have k : MO.kind (st.mu n) = some T := k
  cases e : st.mu n with
  | none => rw [e] at k; cases k
  | some o =>
   rw [e] at k
   obtain ⟨_, _, h3⟩ := sr.live n o e
   cases o with
   | lst zs => cases k; obtain ⟨vs, qv, _⟩ := h3; exact .inl ⟨rfl, vs, SqL.of qv⟩
   | dct ks zs => cases k; obtain ⟨xs, qv, _, _⟩ := h3; exact .inr (.inr (.inl ⟨rfl, .inr ⟨_, qv⟩⟩))
abbrev OpM := W → List W → S → R W
def rMt (X : Cx) (op : OpM) : V → List V → Hp → VK → Prop := fun x xs H Q => ∃ ι G st w ws, SR X.K ι st G H ∧ RelW X.K ι st.nxt G x w ∧ RelWs X.K ι st.nxt G xs ws ∧ wpW X ι st.nxt G (op w ws st) Q
def runM (T : String) (ro : Run) (rr : Runs) (op : OpM) : Run := fun Γ st => (ro Γ st).bind fun w st1 => if kindW st1 w = some T then (rr Γ st1).bind fun ws st2 => op w ws st2 else .stuck
theorem runM_go {T : String} {ro : Run} {rr : Runs} {op : OpM} {σ : St} {H : Hp} {Q : VK} (hT : T = "str" ∨ T = "list" ∨ T = "dict") (h : tD X (runM T ro rr op) σ H Q) :
  tD X ro σ H fun x H1 => tyV X.K T x H1 ∧ tDA X rr σ H1 fun xs H2 => rMt X op x xs H2 Q := by
 obtain ⟨ι, G, st, Γ, en, sr, q⟩ := h
 refine ⟨ι, G, st, Γ, en, sr, wpW.bind q fun w st1 v ι1 G1 H1 _ e1 sr1 r1 q1 => ?_⟩
 by_cases hk : kindW st1 w = some T
 ·rw [if_pos hk] at q1
  refine ⟨tyV_kind sr1 r1 hk hT, ι1, G1, st1, Γ, en.mono e1, sr1, ?_⟩
  cases e2 : rr Γ st1 with
  | stuck => rw [e2] at q1; exact q1
  | ex c s => rw [e2] at q1; exact q1
  | ok ws st2 =>
   rw [e2] at q1
   intro vs ι2 G2 H2 x2 sr2 r2
   exact ⟨ι2, G2, st2, w, ws, sr2, r1.mono x2, r2, wpW.later x2 (show wpW X ι1 st1.nxt G1 (op w ws st2) Q from q1)⟩
 ·rw [if_neg hk] at q1; exact q1.elim
theorem pd_mt {o e : Expr} {es : List Expr} {m : Str} {apos cpos : Pos} {T id : String} {ro : Run} {rr : Runs} {op : OpM} (hT : T = "str" ∨ T = "list" ∨ T = "dict") (pa : PlainAttrs T) (slot : Slot T m id) (hty : typeOf (.builtin id) = pure (.type "method_descriptor")) (hm : MtR X id (rMt X op)) (ho : PD X o ro) (ha : PDA X (e :: es) rr) (hb : noCall0 o = true)
  (hfew : ((backTo cpos (starEach (e :: es) X.env)).all (fun x => !x.1) && (backToKw cpos (keywordEach [] X.env)).all (fun x => x.1.isSome)
   && decide ((e :: es).length + ([] : List Keyword).length + (if ([] : List Keyword).isEmpty then 0 else 1) < 30)) = true)
  (hline : (apos.endLine == cpos.line) = true) (hs : starEach (e :: es) X.env = (false, eval e X.env) :: starEach es X.env) (hplain : (backTo cpos (starEach es X.env)).any (·.1) = false) :
  PD X (.Call (.Attribute o m apos) (e :: es) [] cpos) (runM T ro rr op) :=
 PE.imp (pe_bm pa slot hty hm ho ha (base_plain hb) hfew hline hs hplain) fun _ _ _ h => runM_go hT h
theorem pd_mt0 {o : Expr} {m : Str} {apos cpos : Pos} {T id : String} {ro : Run} {op : OpM} (hT : T = "str" ∨ T = "list" ∨ T = "dict") (pa : PlainAttrs T) (slot : Slot T m id) (hty : typeOf (.builtin id) = pure (.type "method_descriptor")) (hm : MtR X id (rMt X op)) (ho : PD X o ro) (hb : noCall0 o = true) (hline : (apos.endLine == cpos.line) = true) :
  PD X (.Call (.Attribute o m apos) [] [] cpos) (runM T ro runsNil op) := by
 refine PE.imp (pe_bm0 pa slot hty hm ho (base_plain hb) hline) fun σ H Q h => ?_
 obtain ⟨ι, G, st, Γ, en, sr, q⟩ := runM_go hT h
 refine ⟨ι, G, st, Γ, en, sr, wpW.mono q fun v H1 ⟨h1, ι1, G1, st1, Γ1, _, sr1, q1⟩ => ⟨h1, ?_⟩⟩
 exact q1 [] ι1 G1 H1 (Ext.refl _ _ _) sr1 .nil
def opAppend : OpM := fun w ws st => match w, ws with
 | .ref n, [y] => (match st.mu n with
  | some (.lst xs) => if xs.length < sizeLine then .ok .non (st.put n (.lst (xs ++ [y]))) else .stuck
  | _ => .stuck)
 | _, _ => .stuck
theorem mw_append : MtR X "list.append" (rMt X opAppend) := by
 intro pins s σ H x xs v us Q I rx rv ⟨ι, G, st, w, ws, sr, r, t, q⟩
 unfold opAppend at q
 split at q
 ·rename_i n y
  cases t with
  | @cons x1 _ xs1 _ r1 t1 =>
   cases t1
   cases r with
   | ref hn =>
    have q : wpW X ι st.nxt G (match st.mu n with
     | some (.lst xs) => if xs.length < sizeLine then .ok .non (st.put n (.lst (xs ++ [y]))) else .stuck
     | _ => .stuck) Q := q
    cases e : st.mu n with
    | none => rw [e] at q; exact (show False from q).elim
    | some o =>
     cases o with
     | dct ks zs => rw [e] at q; exact (show False from q).elim
     | lst zs =>
      rw [e] at q
      have q : wpW X ι st.nxt G (if zs.length < sizeLine then .ok .non (st.put n (.lst (zs ++ [y]))) else .stuck) Q := q
      by_cases hl : zs.length < sizeLine
      ·rw [if_pos hl] at q
       obtain ⟨_, _, xs2, hH, t2⟩ := sr.live n _ e
       refine mt_append pins s σ H _ _ v us Q I rx rv ⟨ι n, xs2, x1, rfl, rfl, hH, by rw [t2.length]; exact hl, ?_⟩
       exact q .non ι G _ (Ext.refl _ _ _) (sr.putL e (t2.append (.cons r1 .nil))) .non
      ·rw [if_neg hl] at q; exact q.elim
 ·exact (show False from q).elim
def strsW : List W → Option (List Str)
 | [] => some []
 | .str x :: ws => (strsW ws).map (x :: ·)
 | _ => none
theorem strsW_rel {K : PySem.W.Frag} {ι : Nat → Addr} {N : Nat} {G : Hp} : ∀ {xs : List V} {ws : List W} {us : List Value} {ys : List Str}, RelWs K ι N G xs ws → Vals xs us → strsW ws = some ys → StrsAre us ys
 | _, _, _, _, .nil, .nil, h => by cases h; exact .nil
 | _, _, _, _, .cons r t, .cons rv tv, h => by
  rename_i x w xs ws u us
  cases w with
  | str z =>
   have h : (strsW ws).map (z :: ·) = some _ := h
   cases e : strsW ws with
   | none => rw [e] at h; cases h
   | some zs =>
    rw [e] at h
    cases h
    cases r
    have ih := strsW_rel t tv e
    obtain ⟨tk, e2⟩ := (show ∃ t, u = Value.str z t from rv)
    cases e2
    exact .cons z tk ih
  | _ => cases h
def opJoin : OpM := fun w ws st => match w, ws with
 | .str x, [l] => (match itemsOf st l with
  | some zs => (match strsW zs with
   | some ys => if x.length ≤ 16 ∧ (ys.map (·.length)).sum + ys.length ≤ 1048576 then .ok (.str (PySem.Txt.join x ys)) st else .stuck
   | none => .stuck)
  | none => .stuck)
 | _, _ => .stuck
theorem mw_join : MtR X "str.join" (rMt X opJoin) := by
 intro pins s σ H x xs v us Q I rx rv ⟨ι, G, st, w, ws, sr, r, t, q⟩
 unfold opJoin at q
 split at q
 ·rename_i z l
  cases t with
  | @cons x1 _ xs1 _ r1 t1 =>
   cases t1
   cases r
   obtain ⟨tk, ev⟩ := (show ∃ t, v = Value.str z t from rx)
   subst ev
   obtain ⟨u1, eu, ru⟩ := rv.one
   subst eu
   have q : wpW X ι st.nxt G (match itemsOf st l with
    | some zs => (match strsW zs with
     | some ys => if z.length ≤ 16 ∧ (ys.map (·.length)).sum + ys.length ≤ 1048576 then .ok (.str (PySem.Txt.join z ys)) st else .stuck
     | none => .stuck)
    | none => .stuck) Q := q
   cases e1 : itemsOf st l with
   | none => rw [e1] at q; exact (show False from q).elim
   | some zs =>
    rw [e1] at q
    have q : wpW X ι st.nxt G (match strsW zs with
     | some ys => if z.length ≤ 16 ∧ (ys.map (·.length)).sum + ys.length ≤ 1048576 then .ok (.str (PySem.Txt.join z ys)) st else .stuck
     | none => .stuck) Q := q
    cases e2 : strsW zs with
    | none => rw [e2] at q; exact (show False from q).elim
    | some ys =>
     rw [e2] at q
     have q : wpW X ι st.nxt G (if z.length ≤ 16 ∧ (ys.map (·.length)).sum + ys.length ≤ 1048576 then .ok (.str (PySem.Txt.join z ys)) st else .stuck) Q := q
     by_cases hl : z.length ≤ 16 ∧ (ys.map (·.length)).sum + ys.length ≤ 1048576
     ·rw [if_pos hl] at q
      have fin : ∀ t' k, EP X pins σ Q (.str (PySem.Txt.join z ys) t') { s with toks := k } := fun t' k => ⟨.str _, H, I.tok _, ⟨t', rfl⟩, q _ ι G H (Ext.refl _ _ _) sr (.str _)⟩
      have lst : ∀ {a : Addr} {vs : List V}, x1 = .ref a → SqL X.K H a vs → RelWs X.K ι st.nxt G vs zs → wpAny (model X.prog X.w) X.A (call (.builtin "str.join") [.str z tk, u1]) (EP X pins σ Q) X.xe s := by
       intro a vs ex hq tt
       subst ex
       cases (show u1 = Value.ref a from ru)
       obtain ⟨its, tv, pl, _⟩ := I.list hq
       exact join_listW pl.isList (by simpa using strsW_rel tt tv e2) hl.1 hl.2 fin
      cases r1 with
      | lst sq tt => cases e1; exact lst rfl (sr.sub.seq sq) tt
      | tup sq cq tt =>
       cases e1
       cases (show u1 = Value.ref _ from ru)
       obtain ⟨its, tv, pl, _⟩ := I.tuple (sqT_same sr.sub sq)
       exact join_tupleW pl (by simpa using strsW_rel tt tv e2) hl.1 hl.2 fin
      | @ref n hn =>
       obtain ⟨vs, hq, tt⟩ := items_live sr e1
       exact lst rfl hq tt
      | _ => cases e1
     ·rw [if_neg hl] at q; exact q.elim
 ·exact (show False from q).elim
structure Mth (X : Cx) (m : Str) (T id : String) (op : OpM) : Prop where
 hT : T = "str" ∨ T = "list" ∨ T = "dict"
 pa : PlainAttrs T
 slot : Slot T m id
 hty : typeOf (.builtin id) = pure (.type "method_descriptor")
 hm : MtR X id (rMt X op)
theorem mth_join : Mth X "join" "str" "str.join" opJoin := ⟨.inl rfl, F.plainAttrs_str, F.slot_str_join, F.type_str_join, mw_join⟩
theorem mth_append : Mth X "append" "list" "list.append" opAppend := ⟨.inr (.inl rfl), F.plainAttrs_list, F.slot_list_append, F.type_list_append, mw_append⟩
end
end DL
namespace DL
open PySem PySem.Spec PyProof.Rows L2
section
variable {X : Cx}
def listOf (st : S) : W → Option (List W)
 | .lst xs => some xs
 | .ref n => MO.items (st.mu n)
 | _ => none
theorem listOf_rel {ι : Nat → Addr} {G H : Hp} {st : S} {v : V} {w : W} {zs : List W} (sr : SR X.K ι st G H) (r : RelW X.K ι st.nxt G v w) (h : listOf st w = some zs) : ∃ a xs, v = .ref a ∧ SqL X.K H a xs ∧ RelWs X.K ι st.nxt G xs zs := by
 cases r with
 | lst s t => cases h; exact ⟨_, _, rfl, sr.sub.seq s, t⟩
 | ref hn => obtain ⟨xs, h1, h2⟩ := items_live sr h; exact ⟨_, xs, rfl, h1, h2⟩
 | _ => cases h
end
end DL
namespace DL
open PySem PySem.Spec PyProof.Rows L2
section
variable {X : Cx}
end
end DL
namespace DL
open PySem PySem.Spec PyProof.Rows L2
section
variable {X : Cx}
def isD : W → W → Option Bool
 | .non, .non => some true
 | .non, .bl _ => some false
 | .bl _, .non => some false
 | .bl a, .bl b => some (a == b)
 | .int _, .non => some false
 | .int _, .bl _ => some false
 | .str _, .non => some false
 | .str _, .bl _ => some false
 | .tup _, .non => some false
 | .tup _, .bl _ => some false
 | .lst _, .non => some false
 | .lst _, .bl _ => some false
 | .dct _ _, .non => some false
 | .dct _ _, .bl _ => some false
 | .ref _, .non => some false
 | .ref _, .bl _ => some false
 | .exn _, .non => some false
 | .exn _, .bl _ => some false
 | _, _ => none
theorem isD_ok {K : PySem.W.Frag} {ι : Nat → Addr} {N : Nat} {G : Hp} {x y : V} {w1 w2 : W} {v u : Value} {b : Bool} (rx : RelV x v) (ry : RelV y u) (r1 : RelW K ι N G x w1) (r2 : RelW K ι N G y w2) (h : isD w1 w2 = some b) : plainIs v u = true ∧ (v == u) = b := by
 cases r2 with
 | non =>
  cases (show u = Value.none from ry)
  cases r1 <;> first
   | (cases h; cases (show v = Value.none from rx); exact ⟨rfl, rfl⟩)
   | (cases h; cases (show v = Value.bool _ from rx); exact ⟨rfl, rfl⟩)
   | (cases h; obtain ⟨t, e⟩ := (show ∃ t, v = Value.int _ t from rx); cases e; exact ⟨rfl, rfl⟩)
   | (cases h; obtain ⟨t, e⟩ := (show ∃ t, v = Value.str _ t from rx); cases e; exact ⟨rfl, rfl⟩)
   | (cases h; cases (show v = Value.ref _ from rx); exact ⟨rfl, rfl⟩)
   | (cases h; done)
 | bl c =>
  cases (show u = Value.bool c from ry)
  cases r1 <;> first
   | (cases h; cases (show v = Value.none from rx); exact ⟨rfl, rfl⟩)
   | (cases h; cases (show v = Value.bool _ from rx); rename_i d; refine ⟨rfl, ?_⟩; cases d <;> cases c <;> rfl)
   | (cases h; obtain ⟨t, e⟩ := (show ∃ t, v = Value.int _ t from rx); cases e; exact ⟨rfl, rfl⟩)
   | (cases h; obtain ⟨t, e⟩ := (show ∃ t, v = Value.str _ t from rx); cases e; exact ⟨rfl, rfl⟩)
   | (cases h; cases (show v = Value.ref _ from rx); exact ⟨rfl, rfl⟩)
   | (cases h; done)
 | _ => cases w1 <;> cases h
def opIs : Op2 := fun a b st => match isD a b with
 | some c => .ok (.bl c) st
 | none => .stuck
def opIsNot : Op2 := fun a b st => match isD a b with
 | some c => .ok (.bl (!c)) st
 | none => .stuck
theorem opw_is : OpW X (compareOp .Is) opIs := by
 intro pins s σ H ι G st x y w1 w2 v u Q I sr rx ry r1 r2 q
 unfold opIs at q
 cases e : isD w1 w2 with
 | none => rw [e] at q; exact (show False from q).elim
 | some c =>
  rw [e] at q
  obtain ⟨h1, h2⟩ := isD_ok rx ry r1 r2 e
  refine wpAny_is_plain h1 ?_
  rw [h2]
  exact ⟨.bl c, H, I, rfl, q (.bl c) ι G H (Ext.refl _ _ _) sr (.bl c)⟩
theorem opw_isNot : OpW X (compareOp .IsNot) opIsNot := by
 intro pins s σ H ι G st x y w1 w2 v u Q I sr rx ry r1 r2 q
 unfold opIsNot at q
 cases e : isD w1 w2 with
 | none => rw [e] at q; exact (show False from q).elim
 | some c =>
  rw [e] at q
  obtain ⟨h1, h2⟩ := isD_ok rx ry r1 r2 e
  refine wpAny_isNot_plain h1 ?_
  rw [h2]
  exact ⟨.bl (!c), H, I, rfl, q (.bl (!c)) ι G H (Ext.refl _ _ _) sr (.bl (!c))⟩
end
end DL
namespace DL
open PySem PySem.Spec PyProof.Rows L2
section
variable {X : Cx}
def keyW0 : W → Option Key
 | .int i => some (.inl i)
 | .str x => some (.inr x)
 | _ => none
def keysW : List W → Option (List Key)
 | [] => some []
 | w :: ws => (match keyW0 w, keysW ws with | some k, some ks => some (k :: ks) | _, _ => none)
def keyW : W → Option DKey
 | .tup ws => keysW ws
 | _ => none
def KIs (H : Hp) (v : V) (k : DKey) : Prop := ∃ b, v = .ref b ∧ H b = some (.tup (k.map kV))
theorem KIs.mono {H H' : Hp} {v : V} {k : DKey} (h : KIs H v k) (s : Same H H') : KIs H' v k := let ⟨b, e, q⟩ := h; ⟨b, e, s _ _ q⟩
theorem KIs.get {H : Hp} {a : Addr} {kvs : List (DKey × V)} {v : V} {k : DKey} (e : H a = some (dKo kvs)) (h : KIs H v k) : DGet H a v (valV kvs k) := by obtain ⟨b, rfl, q⟩ := h; exact DGet.t e q
theorem KIs.put {H : Hp} {a : Addr} {kvs : List (DKey × V)} {v y : V} {k : DKey} (e : H a = some (dKo kvs)) (hl : kvs.length < sizeLine) (h : KIs H v k) : DPut H a v y (upd H a (dKo (putK kvs k y))) := by obtain ⟨b, rfl, q⟩ := h; exact DPut.t e q hl
def valW : List DKey → List W → DKey → Option W
 | k :: ks, w :: ws, j => if k = j then some w else valW ks ws j
 | _, _, _ => none
def dctOf (st : S) : W → Option (List DKey × List W)
 | .dct ks ws => some (ks, ws)
 | .ref n => (match st.mu n with
  | some (.dct ks ws) => some (ks, ws)
  | _ => none)
 | _ => none
theorem keys_rel {K : PySem.W.Frag} {ι : Nat → Addr} {N : Nat} {G : Hp} : ∀ {vs : List V} {ws : List W} {ks : List Key}, RelWs K ι N G vs ws → keysW ws = some ks → vs = ks.map kV
 | _, _, _, .nil, h => by cases h; rfl
 | _, _, _, @RelWs.cons _ _ _ _ v w vs ws r t, h => by
  unfold keysW at h
  cases e1 : keyW0 w with
  | none => rw [e1] at h; cases h
  | some k =>
   cases e2 : keysW ws with
   | none => rw [e1, e2] at h; cases h
   | some r2 =>
    rw [e1, e2] at h
    cases h
    rw [List.map_cons, keys_rel t e2]
    congr 1
    cases r <;> first | (cases e1; rfl) | (cases e1; done)
theorem keyW_rel {K : PySem.W.Frag} {ι : Nat → Addr} {N : Nat} {G : Hp} {v : V} {w : W} {k : DKey} (r : RelW K ι N G v w) (h : keyW w = some k) : KIs G v k := by
 cases r <;> first | (cases h; done) | skip
 rename_i a xs ws s c t
 exact ⟨a, rfl, by rw [← keys_rel t h]; exact c rfl⟩
theorem valW_rel {K : PySem.W.Frag} {ι : Nat → Addr} {N : Nat} {G : Hp} {k : DKey} : ∀ {ks : List DKey} {xs : List V} {ws : List W}, RelWs K ι N G xs ws → xs.length = ks.length →
  (valV (ks.zip xs) k = none ∧ valW ks ws k = none) ∨ ∃ v w, valV (ks.zip xs) k = some v ∧ valW ks ws k = some w ∧ RelW K ι N G v w
 | [], _, _, _, _ => .inl ⟨rfl, by unfold valW; rfl⟩
 | j :: ks, [], _, _, h => by cases h
 | j :: ks, x :: xs, _, .cons r t, h => by
  by_cases e : j = k
  ·refine .inr ⟨x, _, ?_, ?_, r⟩
   ·exact valV_pos (p := (j, x)) e
   ·unfold valW; rw [if_pos e]
  ·have e1 : valV ((j :: ks).zip (x :: xs)) k = valV (ks.zip xs) k := valV_neg (p := (j, x)) e
   rcases valW_rel (k := k) t (by simpa using h) with ⟨h1, h2⟩ | ⟨v, w, h1, h2, h3⟩
   ·exact .inl ⟨e1.trans h1, by unfold valW; rw [if_neg e]; exact h2⟩
   ·exact .inr ⟨v, w, e1.trans h1, by unfold valW; rw [if_neg e]; exact h2, h3⟩
theorem dctOf_rel {ι : Nat → Addr} {G H : Hp} {st : S} {v : V} {w : W} {ks : List DKey} {ws : List W} (sr : SR X.K ι st G H) (r : RelW X.K ι st.nxt G v w) (h : dctOf st w = some (ks, ws)) : ∃ a xs, v = .ref a ∧ H a = some (dKo (ks.zip xs)) ∧ xs.length = ks.length ∧ RelWs X.K ι st.nxt G xs ws := by
 cases r with
 | @dct a xs _ _ s l t => cases h; exact ⟨a, xs, rfl, sr.sub _ _ s, l, t⟩
 | @ref n hn =>
  have h : (match st.mu n with
   | some (.dct ks ws) => some (ks, ws)
   | _ => none) = some (ks, ws) := h
  cases e : st.mu n with
  | none => rw [e] at h; cases h
  | some o =>
   rw [e] at h
   cases o with
   | lst zs => cases h
   | dct ks' zs =>
    cases h
    obtain ⟨_, _, xs, h1, h2, h3⟩ := sr.live n _ e
    exact ⟨ι n, xs, rfl, h1, h2, h3⟩
 | _ => cases h
def inDct (st : S) (a b : W) : Option Bool := match keyW a, dctOf st b with
 | some k, some (ks, ws) => some (valW ks ws k).isSome
 | _, _ => none
theorem inDct_rel {ι : Nat → Addr} {G H : Hp} {st : S} {x y : V} {w1 w2 : W} {b : Bool} (sr : SR X.K ι st G H) (r1 : RelW X.K ι st.nxt G x w1) (r2 : RelW X.K ι st.nxt G y w2) (h : inDct st w1 w2 = some b) : ∃ a o, y = .ref a ∧ DGet H a x o ∧ o.isSome = b := by
 unfold inDct at h
 cases e1 : keyW w1 with
 | none => rw [e1] at h; cases h
 | some k =>
  cases e2 : dctOf st w2 with
  | none => rw [e1, e2] at h; cases h
  | some p =>
   obtain ⟨ks, ws⟩ := p
   rw [e1, e2] at h
   cases h
   obtain ⟨a, xs, rfl, hH, hl, t⟩ := dctOf_rel sr r2 e2
   refine ⟨a, _, rfl, ((keyW_rel r1 e1).mono sr.sub).get hH, ?_⟩
   rcases valW_rel (k := k) t hl with ⟨h1, h2⟩ | ⟨v, w, h1, h2, _⟩
   ·rw [h1, h2]; rfl
   ·rw [h1, h2]; rfl
def opIn : Op2 := fun a b st => match inDct st a b with
 | some c => .ok (.bl c) st
 | none => opIn0 a b st
def opNotIn : Op2 := fun a b st => match inDct st a b with
 | some c => .ok (.bl (!c)) st
 | none => opNotIn0 a b st
theorem opw_in (hu : X.A.units + 64 < cLine) : OpW X (compareOp .In) opIn := by
 intro pins s σ H ι G st x y w1 w2 v u Q I sr rx ry r1 r2 q
 unfold opIn at q
 cases e : inDct st w1 w2 with
 | none => rw [e] at q; exact opw_in0 hu pins s σ H ι G st x y w1 w2 v u Q I sr rx ry r1 r2 q
 | some c =>
  rw [e] at q
  obtain ⟨a, o, rfl, g, ho⟩ := inDct_rel sr r1 r2 e
  cases (show u = Value.ref a from ry)
  refine d_in (by omega) I g rx fun s' I' => ?_
  rw [ho]
  exact ⟨.bl c, H, I', rfl, q (.bl c) ι G H (Ext.refl _ _ _) sr (.bl c)⟩
theorem opw_notIn (hu : X.A.units + 64 < cLine) : OpW X (compareOp .NotIn) opNotIn := by
 intro pins s σ H ι G st x y w1 w2 v u Q I sr rx ry r1 r2 q
 unfold opNotIn at q
 cases e : inDct st w1 w2 with
 | none => rw [e] at q; exact opw_notIn0 hu pins s σ H ι G st x y w1 w2 v u Q I sr rx ry r1 r2 q
 | some c =>
  rw [e] at q
  obtain ⟨a, o, rfl, g, ho⟩ := inDct_rel sr r1 r2 e
  cases (show u = Value.ref a from ry)
  refine d_notIn (by omega) I g rx fun s' I' => ?_
  rw [ho]
  exact ⟨.bl (!c), H, I', rfl, q (.bl (!c)) ι G H (Ext.refl _ _ _) sr (.bl (!c))⟩
def opIdx : Op2 := fun a b st => match dctOf st a, keyW b with
 | some (ks, ws), some k => (match valW ks ws k with
  | some w => .ok w st
  | none => .stuck)
 | _, _ => opIdx0 a b st
theorem pd_ixX {a b : Expr} {pos : Pos} {ra rb : Run} (hu : X.A.units + 1 < cLine) (ha : PD X a ra) (hb : PD X b rb) (hs : NoSl b) (hix : PD X (.Subscript a b pos) (run2 ra rb opIdx0)) : PD X (.Subscript a b pos) (run2 ra rb opIdx) := by
 intro pins s σ H Q I h
 obtain ⟨ι, G, st, Γ, en, sr, q⟩ := h
 have ch : (∃ w1 st1 w2 st2 ks ws k, ra Γ st = .ok w1 st1 ∧ rb Γ st1 = .ok w2 st2 ∧ dctOf st2 w1 = some (ks, ws) ∧ keyW w2 = some k) ∨ run2 ra rb opIdx Γ st = run2 ra rb opIdx0 Γ st := by
  unfold run2
  cases e1 : ra Γ st with
  | stuck => exact .inr rfl
  | ex c s => exact .inr rfl
  | ok w1 st1 =>
   cases e2 : rb Γ st1 with
   | stuck => refine .inr ?_; show (rb Γ st1).bind _ = (rb Γ st1).bind _; rw [e2]; rfl
   | ex c s => refine .inr ?_; show (rb Γ st1).bind _ = (rb Γ st1).bind _; rw [e2]; rfl
   | ok w2 st2 =>
    cases e3 : dctOf st2 w1 with
    | none =>
     refine .inr ?_
     show (rb Γ st1).bind _ = (rb Γ st1).bind _
     rw [e2]
     show opIdx w1 w2 st2 = opIdx0 w1 w2 st2
     unfold opIdx; rw [e3]
    | some p =>
     obtain ⟨ks, ws⟩ := p
     cases e4 : keyW w2 with
     | none =>
      refine .inr ?_
      show (rb Γ st1).bind _ = (rb Γ st1).bind _
      rw [e2]
      show opIdx w1 w2 st2 = opIdx0 w1 w2 st2
      unfold opIdx; rw [e3, e4]
     | some k => exact .inl ⟨w1, st1, w2, st2, ks, ws, k, rfl, e2, e3, e4⟩
 rcases ch with ⟨w1, st1, w2, st2, ks, ws, k, e1, e2, e3, e4⟩ | ch
 ·refine pe_dget hu ha hb hs pins s σ H Q I ⟨ι, G, st, Γ, en, sr, wpW.bind q fun w1' st1' v1 ι1 G1 H1 e1' x1 sr1 r1 q1 => ⟨ι1, G1, st1', Γ, en.mono x1, sr1, wpW.bind q1 fun w2' st2' v2 ι2 G2 H2 e2' x2 sr2 r2 q2 => ?_⟩⟩
  rw [e1] at e1'; cases e1'
  rw [e2] at e2'; cases e2'
  obtain ⟨a, xs, rfl, hH, hl, t⟩ := dctOf_rel sr2 (r1.mono x2) e3
  unfold opIdx at q2
  rw [e3, e4] at q2
  have q3 : wpW X ι2 st2.nxt G2 (match valW ks ws k with
   | some w => .ok w st2
   | none => .stuck) Q := q2
  rcases valW_rel (k := k) t hl with ⟨h1, h2⟩ | ⟨v, w, h1, h2, h3⟩
  ·rw [h2] at q3; exact (show False from q3).elim
  ·rw [h2] at q3
   refine ⟨a, v, rfl, ?_, q3 v ι2 G2 H2 (Ext.refl _ _ _) sr2 h3⟩
   rw [← h1]
   exact ((keyW_rel r2 e4).mono sr2.sub).get hH
 ·exact hix pins s σ H Q I ⟨ι, G, st, Γ, en, sr, by rw [← ch]; exact q⟩
end
end DL
namespace DL
open PySem PySem.Spec PyProof.Rows L2
def KDs (_ : Program) (_ : World) (_ : PySem.W.Frag) (_ : Str → Option Value) (_ : Str) (_ : List DKey) (_ : List W) : Prop := True
end DL
namespace DL
open PySem PySem.Spec PyProof.Rows L2
section
variable {K : PySem.W.Frag} {ι : Nat → Addr} {st : S} {G H : Hp}
theorem live_at {n : Nat} {o : MO} (h : SR K ι st G H) (e : st.mu n = some o) : H (ι n) ≠ none := by
 intro z
 obtain ⟨_, _, h3⟩ := h.live n o e
 cases o with
 | lst ws => obtain ⟨xs, q, _⟩ := h3; rw [z] at q; cases q
 | dct ks ws => obtain ⟨xs, q, _⟩ := h3; rw [z] at q; cases q
theorem MOR.upd {N : Nat} {a p : Addr} {o : MO} {u : HO} (m : MOR K ι N G H a o) (hne : a ≠ p) : MOR K ι N G (upd H p u) a o := by
 cases o with
 | lst ws => obtain ⟨xs, q, r⟩ := m; exact ⟨xs, by rw [upd_ne hne]; exact q, r⟩
 | dct ks ws => obtain ⟨xs, q, l, r⟩ := m; exact ⟨xs, by rw [upd_ne hne]; exact q, l, r⟩
theorem SR.grow {p : Addr} {u : HO} (h : SR K ι st G H) (hp : H p = none) : SR K ι st G (upd H p u) := by
 have hG : G p = none := h.sub.free hp
 refine ⟨fun b v e => by rw [upd_ne (ne_of_none e hG)]; exact h.sub b v e, fun n o e => ?_, h.inj⟩
 obtain ⟨h1, h2, h3⟩ := h.live n o e
 exact ⟨h1, h2, h3.upd fun z => live_at h e (by rw [z]; exact hp)⟩
theorem SR.newO {p : Addr} {u : HO} {o : MO} (h : SR K ι st G H) (hp : H p = none) (m : MOR K ι st.nxt G (upd H p u) p o) : ∃ ι', Ext ι st.nxt G ι' (st.nxt + 1) G ∧ SR K ι' (st.new o) G (upd H p u) ∧ ι' st.nxt = p :=
 (h.grow hp).adopt (h.sub.free hp) (fun m o e z => live_at h e (by rw [z]; exact hp)) m
theorem SR.putO {n : Nat} {o o' : MO} {u : HO} (h : SR K ι st G H) (hn : st.mu n = some o) (m : MOR K ι st.nxt G (L2.upd H (ι n) u) (ι n) o') : SR K ι (st.put n o') G (L2.upd H (ι n) u) := by
 obtain ⟨h1, h2, _⟩ := h.live n o hn
 have old : ∀ a q, (st.put n o').mu a = some q → ∃ q', st.mu a = some q' := fun a q e => by
  have e : (if a = n then some o' else st.mu a) = some q := e
  by_cases z : a = n
  ·exact ⟨o, by rw [z]; exact hn⟩
  ·rw [if_neg z] at e; exact ⟨q, e⟩
 refine ⟨fun b v e => by rw [upd_ne (ne_of_none e h2)]; exact h.sub b v e, fun a q e => ?_, fun a b q q' e e' z => ?_⟩
 ·have e' : (if a = n then some o' else st.mu a) = some q := e
  by_cases ha : a = n
  ·subst ha
   rw [if_pos rfl] at e'
   cases e'
   exact ⟨h1, h2, m⟩
  ·rw [if_neg ha] at e'
   obtain ⟨g1, g2, g3⟩ := h.live a q e'
   exact ⟨g1, g2, g3.upd fun z => ha (h.inj a n q o e' hn z)⟩
 ·obtain ⟨q1, l1⟩ := old a q e
  obtain ⟨q2, l2⟩ := old b q' e'
  exact h.inj a b q1 q2 l1 l2 z
end
def replW (k : DKey) (v : W) : List DKey → List W → List W
 | j :: ks, w :: ws => (if j = k then v else w) :: replW k v ks ws
 | _, _ => []
def hasK (k : DKey) (ks : List DKey) : Bool := ks.any fun j => decide (j = k)
def putW (ks : List DKey) (ws : List W) (k : DKey) (v : W) : List DKey × List W := if hasK k ks = true then (ks, replW k v ks ws) else (ks ++ [k], ws ++ [v])
def replV (k : DKey) (v : V) : List DKey → List V → List V
 | j :: ks, w :: ws => (if j = k then v else w) :: replV k v ks ws
 | _, _ => []
theorem repl_rel {K : PySem.W.Frag} {ι : Nat → Addr} {N : Nat} {G : Hp} {k : DKey} {v : V} {w : W} (r : RelW K ι N G v w) : ∀ {ks : List DKey} {xs : List V} {ws : List W}, RelWs K ι N G xs ws → xs.length = ks.length →
  RelWs K ι N G (replV k v ks xs) (replW k w ks ws) ∧ (replV k v ks xs).length = ks.length ∧ (ks.zip xs).map (fun kv => if kv.1 = k then (kv.1, v) else kv) = ks.zip (replV k v ks xs)
 | [], [], _, .nil, _ => ⟨.nil, rfl, rfl⟩
 | j :: ks, x :: xs, _, .cons r1 t, h => by
  obtain ⟨h1, h2, h3⟩ := repl_rel (k := k) r t (by simpa using h)
  refine ⟨?_, ?_, ?_⟩
  ·by_cases e : j = k
   ·show RelWs K ι N G ((if j = k then v else x) :: _) ((if j = k then w else _) :: _)
    rw [if_pos e, if_pos e]; exact .cons r h1
   ·show RelWs K ι N G ((if j = k then v else x) :: _) ((if j = k then w else _) :: _)
    rw [if_neg e, if_neg e]; exact .cons r1 h1
  ·show (replV k v ks xs).length + 1 = ks.length + 1
   rw [h2]
  ·show (if j = k then (j, v) else (j, x)) :: (ks.zip xs).map (fun kv => if kv.1 = k then (kv.1, v) else kv) = (j, if j = k then v else x) :: ks.zip (replV k v ks xs)
   rw [h3]
   by_cases e : j = k <;> simp [e]
 | [], _ :: _, _, _, h => by cases h
 | _ :: _, [], _, _, h => by cases h
theorem any_mem {k : DKey} : ∀ {ks : List DKey} {xs : List V}, xs.length = ks.length → ((ks.zip xs).any fun kv => decide (kv.1 = k)) = hasK k ks
 | [], _, _ => by simp [hasK]
 | j :: ks, [], h => by cases h
 | j :: ks, x :: xs, h => by
  have ih := any_mem (k := k) (ks := ks) (xs := xs) (by simpa using h)
  rw [List.zip_cons_cons, List.any_cons, ih]
  unfold hasK
  rw [List.any_cons]
theorem put_rel {K : PySem.W.Frag} {ι : Nat → Addr} {N : Nat} {G : Hp} {k : DKey} {v : V} {w : W} {ks : List DKey} {xs : List V} {ws : List W} (r : RelW K ι N G v w) (t : RelWs K ι N G xs ws) (h : xs.length = ks.length) :
  ∃ xs', putK (ks.zip xs) k v = (putW ks ws k w).1.zip xs' ∧ xs'.length = (putW ks ws k w).1.length ∧ RelWs K ι N G xs' (putW ks ws k w).2 := by
 unfold putK putW
 rw [any_mem h]
 by_cases hk : hasK k ks = true
 ·rw [if_pos hk, if_pos hk]
  obtain ⟨h1, h2, h3⟩ := repl_rel (k := k) r t h
  exact ⟨replV k v ks xs, h3, h2, h1⟩
 ·rw [if_neg hk, if_neg hk]
  refine ⟨xs ++ [v], ?_, by simp [h], t.append (.cons r .nil)⟩
  rw [List.zip_append h.symm]; rfl
section
variable {X : Cx}
def rDictN : Run := fun _ st => .ok (.ref st.nxt) (st.new (.dct [] []))
theorem newD_laid {ι : Nat → Addr} {G H : Hp} {st : S} {ks : List DKey} {xs : List V} {ws : List W} {p : Addr} {Q : VK} (sr : SR X.K ι st G H) (t : RelWs X.K ι st.nxt G xs ws) (hl : xs.length = ks.length) (hp : H p = none) (q : wpW X ι st.nxt G (.ok (.ref st.nxt) (st.new (.dct ks ws))) Q) : Q (.ref p) (upd H p (dKo (ks.zip xs))) := by
 obtain ⟨ι', e2, s2, ep⟩ := sr.newO (o := .dct ks ws) (u := dKo (ks.zip xs)) hp ⟨xs, upd_same, hl, t⟩
 have q' := q (.ref p) ι' G (upd H p (dKo (ks.zip xs))) e2 s2
 rw [← ep] at q' ⊢
 exact q' (.ref (Nat.lt_succ_self _))
theorem pd_dictN {pos : Pos} : PD X (.Dict [] [] pos) rDictN := by
 refine PE.imp pe_dnewT fun σ H Q h => ?_
 obtain ⟨ι, G, st, Γ, en, sr, q⟩ := h
 intro p hp
 exact newD_laid (ks := []) (xs := []) sr .nil rfl hp q
def eqDct (_ : S) (_ _ : W) : Option Bool := none
def eqW (st : S) (a b : W) : Option Bool := match eqDct st a b with
 | some c => some c
 | none => (match eqD 12 a b with
  | some c => some c
  | none => (match frz 0 st.mu 12 a, frz 0 st.mu 12 b with
   | some a', some b' => eqD 12 a' b'
   | _, _ => none))
def opEq : Op2 := fun a b st => match eqW st a b with
 | some r => .ok (.bl r) st
 | none => .stuck
def opNe : Op2 := fun a b st => match eqW st a b with
 | some r => .ok (.bl (!r)) st
 | none => .stuck
theorem seen {K : PySem.W.Frag} {ι : Nat → Addr} {st : S} {G H : Hp} {v : V} {w w' : W} (sr : SR K ι st G H) (r : RelW K ι st.nxt G v w) (h : frz 0 st.mu 12 w = some w') : RelW K ι 0 H v w' :=
 frz_rel sr.sub (fun n o _ e => (sr.live n o e).2.2) 12 v w w' r h
theorem eqW_rel {pins : List (Addr × Obj)} {σ : St} {H : Hp} {s : Shared} {ι : Nat → Addr} {G : Hp} {st : S} {x y : V} {w1 w2 : W} {v u : Value} {b : Bool} (I : Inv X pins σ H s) (hu : X.A.units + 64 < cLine) (sr : SR X.K ι st G H) (rx : RelV x v) (ry : RelV y u) (r1 : RelW X.K ι st.nxt G x w1) (r2 : RelW X.K ι st.nxt G y w2) (h : eqW st w1 w2 = some b) :
  (∀ (Q : Value → Shared → Prop) (E : Value → Shared → Prop), Q (.bool b) s → wpAny (model X.prog X.w) X.A (compareOp .Eq v u) Q E s) ∧ ∀ (Q : Value → Shared → Prop) (E : Value → Shared → Prop), Q (.bool (!b)) s → wpAny (model X.prog X.w) X.A (compareOp .NotEq v u) Q E s := by
 unfold eqW at h
 cases e : eqDct st w1 w2 with
 | some c =>
  exact nomatch e
 | none =>
  rw [e] at h
  have h : (match eqD 12 w1 w2 with
   | some c => some c
   | none => (match frz 0 st.mu 12 w1, frz 0 st.mu 12 w2 with
    | some a', some b' => eqD 12 a' b'
    | _, _ => none)) = some b := h
  cases e2 : eqD 12 w1 w2 with
  | some c =>
   rw [e2] at h
   cases h
   have q := eqD_at I 12 (A := X.A) e2 (r1.mono sr.look) (r2.mono sr.look) rx ry (by omega)
   exact ⟨fun Q E h => q.2.1 _ _ E Q h, fun Q E h => q.2.2 _ _ E Q h⟩
  | none =>
   rw [e2] at h
   have h : (match frz 0 st.mu 12 w1, frz 0 st.mu 12 w2 with
    | some a', some b' => eqD 12 a' b'
    | _, _ => none) = some b := h
   split at h
   ·rename_i a' b' ea eb
    have q := eqD_at I 12 (A := X.A) h (seen sr r1 ea) (seen sr r2 eb) rx ry (by omega)
    exact ⟨fun Q E h => q.2.1 _ _ E Q h, fun Q E h => q.2.2 _ _ E Q h⟩
   ·cases h
theorem opw_eq (hu : X.A.units + 64 < cLine) : OpW X (compareOp .Eq) opEq := by
 intro pins s σ H ι G st x y w1 w2 v u Q I sr rx ry r1 r2 q
 unfold opEq at q
 cases e : eqW st w1 w2 with
 | none => rw [e] at q; exact (show False from q).elim
 | some b => rw [e] at q; exact (eqW_rel I hu sr rx ry r1 r2 e).1 _ _ ⟨.bl b, H, I, rfl, q _ ι G H (Ext.refl _ _ _) sr (.bl _)⟩
theorem opw_ne (hu : X.A.units + 64 < cLine) : OpW X (compareOp .NotEq) opNe := by
 intro pins s σ H ι G st x y w1 w2 v u Q I sr rx ry r1 r2 q
 unfold opNe at q
 cases e : eqW st w1 w2 with
 | none => rw [e] at q; exact (show False from q).elim
 | some b => rw [e] at q; exact (eqW_rel I hu sr rx ry r1 r2 e).2 _ _ ⟨.bl (!b), H, I, rfl, q _ ι G H (Ext.refl _ _ _) sr (.bl _)⟩
def setIx1 (n : Nat) (i v : W) (st : S) : Option MO → Option DKey → R Unit
 | some (.dct ks vs), some k => if ks.length < sizeLine then .ok () (st.put n (.dct (putW ks vs k v).1 (putW ks vs k v).2)) else .stuck
 | _, _ => opSetIx0 (.ref n) i v st
def opSetIx : W → W → W → S → R Unit := fun o i v st => match o with
 | .ref n => setIx1 n i v st (st.mu n) (keyW i)
 | _ => .stuck
def sSetIx (ro ri rv : Run) : RunS := fun Γ st => (rv Γ st).bind fun v st1 => (ro Γ st1).bind fun o st2 => (ri Γ st2).bind fun i st3 => (opSetIx o i v st3).bind fun _ st4 => .ok (.nx Γ) st4
theorem setIx_or (o i v : W) (st : S) : (∃ n ks vs k, o = .ref n ∧ st.mu n = some (.dct ks vs) ∧ keyW i = some k) ∨ opSetIx o i v st = opSetIx0 o i v st := by
 cases o with
 | ref n =>
  have e0 : opSetIx (.ref n) i v st = setIx1 n i v st (st.mu n) (keyW i) := rfl
  cases em : st.mu n with
  | none => refine .inr ?_; rw [e0, em]; rfl
  | some q =>
   cases q with
   | lst xs => refine .inr ?_; rw [e0, em]; rfl
   | dct ks vs =>
    cases ek : keyW i with
    | none => refine .inr ?_; rw [e0, em, ek]; rfl
    | some k => exact .inl ⟨n, ks, vs, k, rfl, em, rfl⟩
 | _ => exact .inr rfl
theorem pds_setIx {o i e : Expr} {pos tpos : Pos} {ro ri rv : Run} (hu : X.A.units + 1 < cLine) (ho : PD X o ro) (hi : PD X i ri) (he : PD X e rv) (hg : ∀ {t : TSet}, PSet X t → PG X (.Subscript o i tpos) (gSub (tD X ro) (tD X ri) t)) (hs : swapsWithSole [.Subscript o i tpos] e pos.line X.env = pure false) (hw : swappedStores [.Subscript o i tpos] e X.env = pure none) (hs' : swapsWith e (some (.Subscript o i tpos)) pos.line X.env = pure false) :
  PDS X (.Assign [.Subscript o i tpos] e pos) (sSetIx ro ri rv) := by
 intro pins s σ H D I h
 obtain ⟨ι, G, st, Γ, en, sr, q⟩ := h
 have ch : (∃ v st1 w st2 j st3 n ks vs k, rv Γ st = .ok v st1 ∧ ro Γ st1 = .ok w st2 ∧ ri Γ st2 = .ok j st3 ∧ w = .ref n ∧ st3.mu n = some (.dct ks vs) ∧ keyW j = some k) ∨ sSetIx ro ri rv Γ st = sSetIx0 ro ri rv Γ st := by
  unfold sSetIx sSetIx0
  cases e1 : rv Γ st with
  | stuck => exact .inr rfl
  | ex c s => exact .inr rfl
  | ok v st1 =>
   cases e2 : ro Γ st1 with
   | stuck => refine .inr ?_; show (ro Γ st1).bind _ = (ro Γ st1).bind _; rw [e2]; rfl
   | ex c s => refine .inr ?_; show (ro Γ st1).bind _ = (ro Γ st1).bind _; rw [e2]; rfl
   | ok w st2 =>
    cases e3 : ri Γ st2 with
    | stuck => refine .inr ?_; show (ro Γ st1).bind _ = (ro Γ st1).bind _; rw [e2]; show (ri Γ st2).bind _ = (ri Γ st2).bind _; rw [e3]; rfl
    | ex c s => refine .inr ?_; show (ro Γ st1).bind _ = (ro Γ st1).bind _; rw [e2]; show (ri Γ st2).bind _ = (ri Γ st2).bind _; rw [e3]; rfl
    | ok j st3 =>
     rcases setIx_or w j v st3 with ⟨n, ks, vs, k, h1, h2, h3⟩ | h
     ·exact .inl ⟨v, st1, w, st2, j, st3, n, ks, vs, k, rfl, e2, e3, h1, h2, h3⟩
     ·refine .inr ?_
      show (ro Γ st1).bind _ = (ro Γ st1).bind _
      rw [e2]
      show (ri Γ st2).bind _ = (ri Γ st2).bind _
      rw [e3]
      show (opSetIx w j v st3).bind _ = (opSetIx0 w j v st3).bind _
      rw [h]
 rcases ch with ⟨v, st1, w, st2, j, st3, n, ks, vs, k, e1, e2, e3, rfl, em, ek⟩ | ch
 ·have q' : wpF X ι st.nxt G ((opSetIx (.ref n) j v st3).bind fun _ st4 => .ok (.nx Γ) st4) D := by
   have q := q
   unfold sSetIx at q
   rw [e1] at q
   have q : wpF X ι st.nxt G ((ro Γ st1).bind fun o st2 => (ri Γ st2).bind fun i st3 => (opSetIx o i v st3).bind fun _ st4 => .ok (.nx Γ) st4) D := q
   rw [e2] at q
   have q : wpF X ι st.nxt G ((ri Γ st2).bind fun i st3 => (opSetIx (.ref n) i v st3).bind fun _ st4 => .ok (.nx Γ) st4) D := q
   rw [e3] at q
   exact q
  have e0 : opSetIx (.ref n) j v st3 = setIx1 n j v st3 (st3.mu n) (keyW j) := rfl
  rw [e0, em, ek] at q'
  by_cases hz : ks.length < sizeLine
  ·have q2 : wpF X ι st.nxt G (.ok (.nx Γ) (st3.put n (.dct (putW ks vs k v).1 (putW ks vs k v).2))) D := by
    have q' : wpF X ι st.nxt G ((if ks.length < sizeLine then .ok () (st3.put n (.dct (putW ks vs k v).1 (putW ks vs k v).2)) else .stuck : R Unit).bind fun _ st4 => .ok (.nx Γ) st4) D := q'
    rw [if_pos hz] at q'
    exact q'
   refine ps_dput hu ho hi he hs' pins s σ H D I ⟨ι, G, st, Γ, en, sr, ?_⟩
   rw [e1]
   intro vv ι1 G1 H1 x1 sr1 r1
   refine ⟨ι1, G1, st1, Γ, en.mono x1, sr1, ?_⟩
   rw [e2]
   intro vo ι2 G2 H2 x2 sr2 r2
   refine ⟨ι2, G2, st2, Γ, (en.mono x1).mono x2, sr2, ?_⟩
   rw [e3]
   intro vj ι3 G3 H3 x3 sr3 r3
   have ro' := r2.mono x3
   cases ro'
   obtain ⟨_, _, ys, hH, hl, t2⟩ := sr3.live n _ em
   have lz : (ks.zip ys).length = ks.length := by rw [List.length_zip, hl, Nat.min_self]
   obtain ⟨ys', e4, l2, t3⟩ := put_rel (k := k) ((r1.mono x2).mono x3) t2 hl
   refine ⟨ι3 n, upd H3 (ι3 n) (dKo (putK (ks.zip ys) k vv)), rfl, KIs.put hH (by rw [lz]; exact hz) ((keyW_rel r3 ek).mono sr3.sub), ?_⟩
   have m : MOR X.K ι3 st3.nxt G3 (upd H3 (ι3 n) (dKo (putK (ks.zip ys) k vv))) (ι3 n) (.dct (putW ks vs k v).1 (putW ks vs k v).2) := ⟨ys', by rw [upd_same, e4], l2, t3⟩
   exact q2 ι3 G3 _ ((x1.trans x2).trans x3) (sr3.putO em m) σ (((en.mono x1).mono x2).mono x3)
  ·have q' : wpF X ι st.nxt G ((if ks.length < sizeLine then .ok () (st3.put n (.dct (putW ks vs k v).1 (putW ks vs k v).2)) else .stuck : R Unit).bind fun _ st4 => .ok (.nx Γ) st4) D := q'
   rw [if_neg hz] at q'
   exact (show False from q').elim
 ·exact pds_setIx0 ho hi he hg hs hw pins s σ H D I ⟨ι, G, st, Γ, en, sr, by rw [← ch]; exact q⟩
end
end DL
namespace L2
open PySem PySem.Spec PyProof.Rows
section
variable {X : Cx} {tg : Expr}
end
end L2
namespace DL
open PySem PySem.Spec PyProof.Rows L2
section
variable {X : Cx}
def loopZ (i j : Nat) (body : RunS) : List (W × W) → Ga → S → R Fl
 | [], Γ, st => .ok (.nx Γ) st
 | x :: xs, Γ, st => (body ((Γ.set i (some x.1)).set j (some x.2)) st).bind fun fl st' => match fl with
  | .nx Γ' => loopZ i j body xs Γ' st'
  | .ct Γ' => loopZ i j body xs Γ' st'
  | .bk Γ' => .ok (.nx Γ') st'
  | .rt w => .ok (.rt w) st'
end
end DL
namespace DL
open PySem PySem.Spec PyProof.Rows L2
section
variable {X : Cx}
def opStr : OpN := fun ws st => match ws with
 | [.str x] => .ok (.str x) st
 | [.int i] => if i.natAbs.log2 < 1920 then .ok (.str (toString i)) st else .stuck
 | _ => .stuck
theorem cw_str : CallW X (.type "str") opStr := by
 intro pins s σ H ι G st xs ws us Q I sr rv t q
 unfold opStr at q
 split at q
 ·rename_i x
  obtain ⟨v, rfl, r⟩ := rel1 t
  obtain ⟨u, rfl, ru⟩ := rv.one
  cases r
  obtain ⟨tk, rfl⟩ := (show ∃ t, u = Value.str x t from ru)
  exact PySem.P.str_of_str ⟨.str x, H, I, ⟨tk, rfl⟩, q _ ι G H (Ext.refl _ _ _) sr (.str x)⟩
 ·rename_i i
  obtain ⟨v, rfl, r⟩ := rel1 t
  obtain ⟨u, rfl, ru⟩ := rv.one
  cases r
  obtain ⟨tk, rfl⟩ := (show ∃ t, u = Value.int i t from ru)
  by_cases hl : i.natAbs.log2 < 1920
  ·rw [if_pos hl] at q
   exact PySem.P.str_of_int hl ⟨.str (toString i), H, I.tok _, ⟨_, rfl⟩, q _ ι G H (Ext.refl _ _ _) sr (.str _)⟩
  ·rw [if_neg hl] at q; exact (show False from q).elim
 ·exact (show False from q).elim
def firstD (x : W) : List W → Option Nat
 | [] => none
 | w :: ws => (match eqD 12 w x with
  | some true => some 0
  | some false => (firstD x ws).map (· + 1)
  | none => none)
theorem firstD_ok {x : W} : ∀ {ws : List W} {j : Nat}, firstD x ws = some j → (∃ w, ws[j]? = some w ∧ eqD 12 w x = some true) ∧ ∀ m, m < j → ∃ w, ws[m]? = some w ∧ eqD 12 w x = some false
 | [], _, h => by cases h
 | w :: ws, j, h => by
  unfold firstD at h
  cases e : eqD 12 w x with
  | none => rw [e] at h; cases h
  | some b =>
   rw [e] at h
   cases b with
   | true => cases h; exact ⟨⟨w, rfl, e⟩, fun m hm => absurd hm (Nat.not_lt_zero _)⟩
   | false =>
    have h : (firstD x ws).map (· + 1) = some j := h
    cases e2 : firstD x ws with
    | none => rw [e2] at h; cases h
    | some k =>
     rw [e2] at h
     cases h
     obtain ⟨h1, h2⟩ := firstD_ok e2
     refine ⟨h1, fun m hm => ?_⟩
     cases m with
     | zero => exact ⟨w, rfl, e⟩
     | succ m => exact h2 m (Nat.lt_of_succ_lt_succ hm)
def opIndexD : OpM := fun w ws st => match ws with
 | [y] => (match listOf st w with
  | some zs => if (inD y zs).isSome = true then (match firstD y zs with
   | some j => .ok (.int (j : Nat)) st
   | none => .stuck) else .stuck
  | none => .stuck)
 | _ => .stuck
theorem mw_indexD (hu : X.A.units + 64 < cLine) : MtR X "list.index" (rMt X opIndexD) := by
 intro pins s σ H x xs v us Q I rx rv ⟨ι, G, st, w, ws, sr, r, t, q⟩
 unfold opIndexD at q
 split at q
 ·rename_i y
  cases e : listOf st w with
  | none => rw [e] at q; exact (show False from q).elim
  | some zs =>
   rw [e] at q
   have q : wpW X ι st.nxt G (if (inD y zs).isSome = true then (match firstD y zs with
    | some j => .ok (.int (j : Nat)) st
    | none => .stuck) else .stuck) Q := q
   cases e2 : inD y zs with
   | none => rw [e2] at q; exact (show False from q).elim
   | some b =>
    rw [e2, if_pos (show (some b).isSome = true from rfl)] at q
    cases e3 : firstD y zs with
    | none => rw [e3] at q; exact (show False from q).elim
    | some j =>
     rw [e3] at q
     obtain ⟨a, vs, rfl, hq, tt⟩ := listOf_rel sr r e
     obtain ⟨vy, rfl, ry⟩ := rel1 t
     cases (show v = Value.ref a from rx)
     obtain ⟨u, rfl, ru⟩ := rv.one
     obtain ⟨its, tv, ⟨⟨oc, od, odt, osl⟩, n, ho, hc, hd, hs⟩, hz⟩ := I.list hq
     dsimp only at hc hd hs
     subst hc hd hs
     obtain ⟨f, f1, _, f3⟩ := mem_fun (A := X.A.in1) I (ry.mono sr.look) ru (by show X.A.units + 1 + 12 < cLine; omega) e2 (tt.mono sr.look) tv
     obtain ⟨⟨wj, hj, ej⟩, hm⟩ := firstD_ok e3
     have at_ : ∀ m c wm, zs[m]? = some wm → eqD 12 wm y = some c → ∃ h : m < its.length, f its[m] = c := fun m c wm hw hc => by
      obtain ⟨vm, hv, _⟩ := tt.get hw
      obtain ⟨um, hum, _⟩ := tv.get hv
      obtain ⟨hl, eum⟩ := List.getElem?_eq_some_iff.mp hum
      have g := f3 m vm um wm hv hum hw
      rw [hc] at g
      refine ⟨hl, ?_⟩
      rw [eum]; exact (Option.some.inj g).symm
     obtain ⟨h1, h2⟩ := at_ j true wj hj ej
     have h3 : ∀ m (hm' : m < its.length), m < j → f its[m] = false := fun m hm' hlt => by
      obtain ⟨wm, g1, g2⟩ := hm m hlt
      exact (at_ m false wm g1 g2).2
     have hl : its.length ≤ sizeLine := by rw [← tv.length]; exact hz
     have hb : (sizeLine : Nat) < 2 ^ 62 := by decide
     refine call_meets F.slot_list_index ⟨_, ho, rfl⟩ F.entry_list_index (F.args_list_index_2 _ _) (SeqAt.list_indexAt a its.toArray n none osl u f j (by simpa using h1) (by omega) (by simpa using h2) (fun m hm hlt => by simpa using h3 m (by simpa using hm) hlt)) ⟨ho, fun w' hw => f1 w' (by simpa using hw), ?_⟩
     exact ⟨.int _, H, I.tok _, ⟨_, rfl⟩, q _ ι G H (Ext.refl _ _ _) sr (.int _)⟩
 ·exact (show False from q).elim
theorem mth_indexD (hu : X.A.units + 64 < cLine) : Mth X "index" "list" "list.index" opIndexD := ⟨.inr (.inl rfl), F.plainAttrs_list, F.slot_list_index, F.type_list_index, mw_indexD hu⟩
def enumP : Nat → List W → List (W × W)
 | _, [] => []
 | k, w :: ws => (.int (k : Nat), w) :: enumP (k + 1) ws
theorem enumP_len : ∀ (k : Nat) (ws : List W), (enumP k ws).length = ws.length
 | _, [] => rfl
 | k, w :: ws => by show (enumP (k + 1) ws).length + 1 = ws.length + 1; rw [enumP_len]
theorem enumP_drop : ∀ (j k : Nat) (ws : List W), (enumP k ws).drop j = enumP (k + j) (ws.drop j)
 | 0, k, ws => by rw [List.drop_zero, List.drop_zero]; rfl
 | j + 1, k, [] => by simp [enumP]
 | j + 1, k, w :: ws => by
  show (enumP (k + 1) ws).drop j = enumP (k + (j + 1)) (ws.drop j)
  rw [enumP_drop j (k + 1) ws, show k + 1 + j = k + (j + 1) by omega]
def enumW : List W → S → R (List (W × W)) := fun ws st => match ws with
 | [.lst xs] => .ok (enumP 1 xs) st
 | _ => .stuck
theorem enumW_shape (ws : List W) (st : S) : enumW ws st = .stuck ∨ ∃ xs, ws = [.lst xs] ∧ enumW ws st = .ok (enumP 1 xs) st := by
 unfold enumW
 split
 ·exact .inr ⟨_, rfl, rfl⟩
 ·exact .inl rfl
theorem enumP_at {xs : List W} {k : Nat} (h : k < xs.length) : (enumP 1 xs).drop k = (.int ((k + 1 : Nat) : Int), xs[k]) :: (enumP 1 xs).drop (k + 1) := by
 rw [enumP_drop, enumP_drop, List.drop_eq_getElem_cons h, show 1 + k = k + 1 by omega]
 show (W.int ((k + 1 : Nat) : Int), xs[k]) :: enumP (k + 1 + 1) (xs.drop (k + 1)) = _
 rw [show 1 + (k + 1) = k + 1 + 1 by omega]
def sForE (i j : Nat) (rr : Runs) (body : RunS) : RunS := fun Γ st => (rr Γ st).bind fun ws st1 => (enumW ws st1).bind fun ps st2 => loopZ i j body ps Γ st2
theorem pds_forE {i j tk : Nat} {x y : Str} {px py p pos tp cp : Pos} {a : Expr} {kws : List Keyword} {body : List Stmt} {rr : Runs} {rb : RunS} (hp : PassesOwn (model X.prog X.w) X.A X.env X.xe) (hc : X.calm = true)
  (hi : PI X (.Tuple [.Name x px, .Name y py] tk tp) (.Call (.Name "enumerate" p) [a] kws cp) (iEnum X.K (tDA X rr))) (h1 : PG X (.Name x px) (gName i)) (h2 : PG X (.Name y py) (gName j)) (hb : PDSs X body rb) :
  PDS X (.For (.Tuple [.Name x px, .Name y py] tk tp) (.Call (.Name "enumerate" p) [a] kws cp) body [] pos) (sForE i j rr rb) := by
 refine PS.imp (ps_for hp hc hi (pg_tup hc (pgs_cons h1 (pgs_cons h2 pgs_nil))) hb fun _ => rfl) fun D σ H ⟨ι, G, st, Γ, en, sr, q⟩ => ⟨ι, G, st, Γ, en, sr, ?_⟩
 unfold sForE at q
 cases e1 : rr Γ st with
 | stuck => rw [e1] at q; exact q
 | ex c s => rw [e1] at q; exact q
 | ok ws st1 =>
  rw [e1] at q
  intro vs ι1 G1 H1 x1 sr1 r1
  have q : wpF X ι st.nxt G ((enumW ws st1).bind fun ps st2 => loopZ i j rb ps Γ st2) D := q
  rcases enumW_shape ws st1 with e | ⟨xs, rfl, e⟩
  ·rw [e] at q; exact (show False from q).elim
  ·rw [e] at q
   have q1 : wpF X ι1 st1.nxt G1 (loopZ i j rb (enumP 1 xs) Γ st1) D := wpF.later x1 q
   obtain ⟨u, rfl, ru⟩ := rel1 r1
   cases ru with
   | @lst a1 us _ sa ta =>
    have la := ta.length
    refine ⟨a1, us, rfl, sr1.sub.seq sa, ?_⟩
    refine ⟨fun k m σ' H' => m = xs.length - k ∧ k ≤ xs.length ∧ ∃ ι2 G2 st2 Γ2, Ext ι1 st1.nxt G1 ι2 st2.nxt G2 ∧ SR X.K ι2 st2 G2 H' ∧ EnvR X.K ι2 st2.nxt G2 σ' Γ2 ∧ wpF X ι2 st2.nxt G2 (loopZ i j rb ((enumP 1 xs).drop k) Γ2 st2) D,
     ⟨xs.length, by simp, Nat.zero_le _, ι1, G1, st1, Γ, Ext.refl _ _ _, sr1, en.mono x1, by rw [List.drop_zero]; exact q1⟩, ?_⟩
    rintro k m σ' H' ⟨rfl, hk, ι2, G2, st2, Γ2, e2, sr2, en2, q2⟩
    have sa2 : SqL X.K H' a1 us := sr2.sub.seq (e2.sm.seq sa)
    by_cases hlt : k < xs.length
    ·obtain ⟨xv, hxv, rxv⟩ := (ta.mono e2).get (List.getElem?_eq_getElem hlt)
     rw [enumP_at hlt] at q2
     refine .inr ⟨⟨us, xv, sa2, hxv⟩, fun σ3 H3 => ∃ ι3 G3 st3 Γ3, Ext ι1 st1.nxt G1 ι3 st3.nxt G3 ∧ SR X.K ι3 st3 G3 H3 ∧ EnvR X.K ι3 st3.nxt G3 σ3 Γ3 ∧ wpF X ι3 st3.nxt G3 (loopZ i j rb ((enumP 1 xs).drop (k + 1)) Γ3 st3) D,
      fun σ3 H3 h3 => ⟨xs.length - (k + 1), by omega, rfl, hlt, h3⟩, fun v H'' hy => ?_⟩
     obtain ⟨pn, xw, rfl, hn, rfl, gx⟩ := hy
     have ex := gx us sa2
     rw [hxv] at ex
     cases ex
     obtain ⟨sr2', x2⟩ := sr2.laid (o := .tup [.int (k + 1 : Nat), xv]) hn
     refine ⟨pn, [.int (k + 1 : Nat), xv], rfl, .inl (.inl upd_same), rfl, _, [xv], rfl, xv, [], rfl, rfl, ?_⟩
     refine ⟨ι2, _, st2, (Γ2.set i (some (.int ((k + 1 : Nat) : Int)))).set j (some xs[k]), ((en2.mono x2).set i (.int _)).set j (rxv.mono x2), sr2', ?_⟩
     have q3 := wpF.later x2 q2
     have q3 : wpF X ι2 st2.nxt (upd G2 pn (.tup [.int (k + 1 : Nat), xv])) ((rb ((Γ2.set i (some (.int ((k + 1 : Nat) : Int)))).set j (some xs[k])) st2).bind fun fl st' => match fl with
      | .nx Γ' => loopZ i j rb ((enumP 1 xs).drop (k + 1)) Γ' st'
      | .ct Γ' => loopZ i j rb ((enumP 1 xs).drop (k + 1)) Γ' st'
      | .bk Γ' => .ok (.nx Γ') st'
      | .rt w => .ok (.rt w) st') D := q3
     cases e3 : rb ((Γ2.set i (some (.int ((k + 1 : Nat) : Int)))).set j (some xs[k])) st2 with
     | stuck => rw [e3] at q3; exact q3
     | ex c s => rw [e3] at q3; exact q3
     | ok fl st3 =>
      rw [e3] at q3
      intro ι3 G3 H3 x3 sr3
      cases fl with
      | nx Γ3 => exact fun σ3 en3 => ⟨ι3, G3, st3, Γ3, (e2.trans x2).trans x3, sr3, en3, wpF.later x3 q3⟩
      | ct Γ3 => exact fun σ3 en3 => ⟨ι3, G3, st3, Γ3, (e2.trans x2).trans x3, sr3, en3, wpF.later x3 q3⟩
      | bk Γ3 => exact q3 ι3 G3 H3 x3 sr3
      | rt w => exact q3 ι3 G3 H3 x3 sr3
    ·have ek : k = xs.length := by omega
     subst ek
     rw [List.drop_of_length_le (by rw [enumP_len]; exact Nat.le_refl _)] at q2
     exact .inl ⟨⟨us, sa2, by omega⟩, q2 ι2 G2 H' (Ext.refl _ _ _) sr2 σ' en2⟩
def compGo2 (re : Run) (Γc : Ga) : List (W × W) → List W → S → R (List W)
 | [], acc, st => .ok acc st
 | x :: xs, acc, st => (re (some x.1 :: some x.2 :: Γc) st).calm.bind fun y st2 => compGo2 re Γc xs (acc ++ [y]) st2
def runCompE (m : Bool) (rr : Runs) (cap : List Nat) (re : Run) : Run := fun Γ st => (rr Γ st).bind fun ws st1 => (enumW ws st1).bind fun ps st2 => if ps.length < sizeLine then (compGo2 re (capG cap Γ) ps [] st2).bind (opL m) else .stuck
theorem cap_env2 {K : PySem.W.Frag} {ι : Nat → Addr} {N : Nat} {G : Hp} {σ : St} {Γ : Ga} {v v2 : V} {w w2 : W} (cap : List Nat) (en : EnvR K ι N G σ Γ) (r : RelW K ι N G v w) (r2 : RelW K ι N G v2 w2) : EnvR K ι N G (capS2 cap σ (some v) (some v2)) (some w :: some w2 :: capG cap Γ) := by
 have e2 := cap_env cap en r2
 refine ⟨by unfold capS2 capG; simp, fun i u h => ?_⟩
 cases i with
 | zero =>
  have h' : some (some w) = some (some u) := by simpa using h
  cases h'
  exact ⟨v, by unfold capS2; simp, r⟩
 | succ i =>
  obtain ⟨z, h1, h2⟩ := e2.get i u (by simpa using h)
  exact ⟨z, by unfold capS2; unfold capS at h1; simpa using h1, h2⟩
theorem pd_compE {scope : Scope} {x y : Str} {px py pos tp p cp : Pos} {tk : Nat} {cl : List (Str × Addr)} {N : List Str} {cap : List Nat} {elt a : Expr} {kws : List Keyword} {rr : Runs} {re : Run} {m : Bool} (hc : X.calm = true)
  (hi : PI X (.Tuple [.Name x px, .Name y py] tk tp) (.Call (.Name "enumerate" p) [a] kws cp) (iEnum X.K (tDA X rr))) (Sc : CompSc2 X scope x y cl N cap) (he : ∀ C s H ex, PE (cxComp X scope cl C N s H ex) elt (tD0 X.K re)) :
  PD X (.ListComp elt [⟨.Tuple [.Name x px, .Name y py] tk tp, .Call (.Name "enumerate" p) [a] kws cp, [], 0⟩] scope pos) (runCompE m rr cap re) := by
 refine PE.imp (pe_comp2 hc hi Sc he) fun σ H Q h => ?_
 obtain ⟨ι, G, st, Γ, en, sr, q⟩ := h
 refine ⟨ι, G, st, Γ, en, sr, ?_⟩
 unfold runCompE at q
 cases e1 : rr Γ st with
 | stuck => rw [e1] at q; exact q
 | ex c s => rw [e1] at q; exact q
 | ok ws st1 =>
  rw [e1] at q
  intro vs ι1 G1 H1 x1 sr1 r1
  have q : wpW X ι st.nxt G ((enumW ws st1).bind fun ps st2 => if ps.length < sizeLine then (compGo2 re (capG cap Γ) ps [] st2).bind (opL m) else .stuck) Q := q
  rcases enumW_shape ws st1 with e | ⟨xs, rfl, e⟩
  ·rw [e] at q; exact (show False from q).elim
  ·rw [e] at q
   have q : wpW X ι st.nxt G (if (enumP 1 xs).length < sizeLine then (compGo2 re (capG cap Γ) (enumP 1 xs) [] st1).bind (opL m) else .stuck) Q := q
   by_cases hl : (enumP 1 xs).length < sizeLine
   ·rw [if_pos hl] at q
    rw [enumP_len] at hl
    have q1 := wpL.later x1 (wpL_bind q)
    have en1 := en.mono x1
    obtain ⟨u, rfl, ru⟩ := rel1 r1
    cases ru with
    | @lst a1 us _ sa ta =>
     have la := ta.length
     refine ⟨a1, us, rfl, sr1.sub.seq sa, ?_⟩
     refine ⟨fun i k ys H' => k = xs.length - i ∧ i ≤ xs.length ∧ ys.length ≤ i ∧ ∃ ι2 G2 st2 acc, Ext ι1 st1.nxt G1 ι2 st2.nxt G2 ∧ SR X.K ι2 st2 G2 H' ∧ RelWs X.K ι2 st2.nxt G2 ys acc ∧ wpL X m ι2 st2.nxt G2 (compGo2 re (capG cap Γ) ((enumP 1 xs).drop i) acc st2) Q,
      ⟨xs.length, by simp, Nat.zero_le _, Nat.zero_le _, ι1, G1, st1, [], Ext.refl _ _ _, sr1, .nil, by rw [List.drop_zero]; exact q1⟩, ?_⟩
     rintro i k ys H' ⟨rfl, hi', hy, ι2, G2, st2, acc, e2, sr2, ra, q2⟩
     refine ⟨by omega, ?_⟩
     have sa2 : SqL X.K H' a1 us := sr2.sub.seq (e2.sm.seq sa)
     by_cases hlt : i < xs.length
     ·obtain ⟨xv, hxv, rxv⟩ := (ta.mono e2).get (List.getElem?_eq_getElem hlt)
      rw [enumP_at hlt] at q2
      refine .inr ⟨⟨us, xv, sa2, hxv⟩, fun v H'' hy' => ?_⟩
      obtain ⟨pn, xw, rfl, hn, rfl, gx⟩ := hy'
      have ex := gx us sa2
      rw [hxv] at ex
      cases ex
      obtain ⟨sr2', x2⟩ := sr2.laid (o := .tup [.int (i + 1 : Nat), xv]) hn
      refine ⟨pn, .int (i + 1 : Nat), xv, rfl, .inl (.inl upd_same), ?_⟩
      have q2' := wpL.later x2 q2
      have q2' : wpL X m ι2 st2.nxt (upd G2 pn (.tup [.int (i + 1 : Nat), xv])) ((re (some (.int ((i + 1 : Nat) : Int)) :: some xs[i] :: capG cap Γ) st2).calm.bind fun y st4 => compGo2 re (capG cap Γ) ((enumP 1 xs).drop (i + 1)) (acc ++ [y]) st4) Q := q2'
      have en2 := cap_env2 cap ((en1.mono e2).mono x2) (.int ((i + 1 : Nat) : Int)) (rxv.mono x2)
      refine ⟨ι2, _, st2, _, en2, sr2', wpL_step rfl q2' fun y st4 vy ι4 G4 H4 e4 sr4 ry q4 => ?_⟩
      exact ⟨xs.length - (i + 1), by omega, rfl, hlt, by rw [List.length_append, List.length_singleton]; omega, ι4, G4, st4, acc ++ [y], (e2.trans x2).trans e4, sr4, ((ra.mono x2).mono e4).append (.cons ry .nil), q4⟩
     ·have ei : i = xs.length := by omega
      subst ei
      rw [List.drop_of_length_le (by rw [enumP_len]; exact Nat.le_refl _)] at q2
      refine .inl ⟨⟨us, sa2, by omega⟩, ?_⟩
      have q3 : wpW X ι2 st2.nxt G2 (opL m acc st2) Q := q2
      cases m with
      | true => exact (newL_laid sr2 ra q3).2
      | false => exact (lst_laid sr2 ra q3).2
   ·rw [if_neg hl] at q; exact (show False from q).elim
theorem yes_of {σ : St} {H : Hp} {Q : Bool → Hp → Prop} (h : Q true H) : tYes σ H Q := h
noncomputable def compGoL (n : Nat) (all : List W) (re : Run) (Γc : Ga) : List W → List W → S → R (List W)
 | [], acc, st => @ite _ (st.mu n = some (.lst all)) (Classical.propDecidable _) (.ok acc st) .stuck
 | x :: xs, acc, st => @ite _ (st.mu n = some (.lst all)) (Classical.propDecidable _) ((re (some x :: Γc) st).calm.bind fun y st2 => compGoL n all re Γc xs (acc ++ [y]) st2) .stuck
noncomputable def runCompL (m : Bool) (r : Run) (cap : List Nat) (re : Run) : Run := fun Γ st => (r Γ st).bind fun w st1 => match w with
 | .ref n => (match st1.mu n with
  | some (.lst xs) => if xs.length < sizeLine then (compGoL n xs re (capG cap Γ) xs [] st1).bind (opL m) else .stuck
  | _ => .stuck)
 | _ => .stuck
theorem pd_compL {scope : Scope} {x : Str} {px pos : Pos} {cl : List (Str × Addr)} {N : List Str} {cap : List Nat} {elt iter : Expr} {r re : Run} {m : Bool} (hc : X.calm = true) (hi : PD X iter r) (Sc : CompSc X scope x cl N cap)
  (he : ∀ C s H ex, PE (cxComp X scope cl C N s H ex) elt (tD0 X.K re)) (hs : ∀ z, foldedSetIterable iter X.env z = pure z) : PD X (.ListComp elt [⟨.Name x px, iter, [], 0⟩] scope pos) (runCompL m r cap re) := by
 refine PE.imp (pe_comp hc (pi_seq hi) Sc (fun _ _ _ _ => pts_nil) he hs) fun σ H Q h => ?_
 obtain ⟨ι, G, st, Γ, en, sr, q⟩ := h
 refine ⟨ι, G, st, Γ, en, sr, ?_⟩
 unfold runCompL at q
 cases e1 : r Γ st with
 | stuck => rw [e1] at q; exact q
 | ex c s => rw [e1] at q; exact q
 | ok w st1 =>
  rw [e1] at q
  intro v ι1 G1 H1 x1 sr1 r1
  cases r1 with
  | @ref n hn =>
   have q : wpW X ι st.nxt G (match st1.mu n with
    | some (.lst xs) => if xs.length < sizeLine then (compGoL n xs re (capG cap Γ) xs [] st1).bind (opL m) else .stuck
    | _ => .stuck) Q := q
   cases em : st1.mu n with
   | none => rw [em] at q; exact (show False from q).elim
   | some o =>
    cases o with
    | dct ks vs => rw [em] at q; exact (show False from q).elim
    | lst xs =>
     rw [em] at q
     have q : wpW X ι st.nxt G (if xs.length < sizeLine then (compGoL n xs re (capG cap Γ) xs [] st1).bind (opL m) else .stuck) Q := q
     by_cases hl : xs.length < sizeLine
     ·rw [if_pos hl] at q
      have q1 := wpL.later x1 (wpL_bind q)
      have en1 := en.mono x1
      obtain ⟨_, _, vs, hv, _⟩ := sr1.live n _ em
      refine .inl ⟨ι1 n, rfl, ⟨vs, SqL.of hv⟩, ?_⟩
      refine ⟨fun i k ys H' => k = xs.length - i ∧ i ≤ xs.length ∧ ys.length ≤ i ∧ ∃ ι2 G2 st2 acc, Ext ι1 st1.nxt G1 ι2 st2.nxt G2 ∧ SR X.K ι2 st2 G2 H' ∧ RelWs X.K ι2 st2.nxt G2 ys acc ∧ wpL X m ι2 st2.nxt G2 (compGoL n xs re (capG cap Γ) (xs.drop i) acc st2) Q,
       ⟨xs.length, by simp, Nat.zero_le _, Nat.zero_le _, ι1, G1, st1, [], Ext.refl _ _ _, sr1, .nil, by rw [List.drop_zero]; exact q1⟩, ?_⟩
      rintro i k ys H' ⟨rfl, hi', hy, ι2, G2, st2, acc, e2, sr2, ra, q2⟩
      refine ⟨by omega, ?_⟩
      have hm : st2.mu n = some (.lst xs) := by
       refine Classical.byContradiction fun hm => ?_
       cases hx : xs.drop i with
       | nil =>
        rw [hx] at q2
        unfold compGoL at q2
        rw [if_neg hm] at q2
        exact q2
       | cons z zs =>
        rw [hx] at q2
        unfold compGoL at q2
        rw [if_neg hm] at q2
        exact q2
      obtain ⟨_, _, vs2, hv2, rv2⟩ := sr2.live n _ hm
      rw [e2.ag n hn] at hv2
      have sa2 : SqL X.K H' (ι1 n) vs2 := SqL.of hv2
      have lv := rv2.length
      by_cases hlt : i < xs.length
      ·obtain ⟨xv, hxv, rxv⟩ := rv2.get (List.getElem?_eq_getElem hlt)
       refine .inr ⟨⟨vs2, xv, sa2, hxv⟩, fun v H'' hy' => ?_⟩
       obtain ⟨rfl, gx⟩ := hy'
       have ex := gx vs2 sa2
       rw [hxv] at ex
       cases ex
       rw [List.drop_eq_getElem_cons hlt] at q2
       unfold compGoL at q2
       rw [if_pos hm] at q2
       refine yes_of ?_
       rw [if_pos rfl]
       have en2 := cap_env cap (en1.mono e2) rxv
       refine ⟨ι2, _, st2, _, en2, sr2, wpL_step rfl q2 fun y st4 vy ι4 G4 H4 e4 sr4 ry q4 => ?_⟩
       exact ⟨xs.length - (i + 1), by omega, rfl, hlt, by rw [List.length_append, List.length_singleton]; omega, ι4, G4, st4, acc ++ [y], e2.trans e4, sr4, (ra.mono e4).append (.cons ry .nil), q4⟩
      ·have ei : i = xs.length := by omega
       subst ei
       rw [List.drop_length] at q2
       unfold compGoL at q2
       rw [if_pos hm] at q2
       refine .inl ⟨⟨vs2, sa2, by omega⟩, ?_⟩
       have q3 : wpW X ι2 st2.nxt G2 (opL m acc st2) Q := q2
       cases m with
       | true => exact (newL_laid sr2 ra q3).2
       | false => exact (lst_laid sr2 ra q3).2
     ·rw [if_neg hl] at q; exact (show False from q).elim
  | _ => exact (show False from q).elim
end
end DL
namespace DL
open PySem PySem.Spec PyProof.Rows L2
section
variable {X : Cx}
theorem kit_kinds (K : PySem.W.Frag) : ∀ k ∈ kinds, ∀ T ∈ kinds, PySem.W.kitOne K (.type k) (.type T) = some (isKind k T) := by
 intro k hk T hT
 simp only [kinds, List.mem_cons, List.not_mem_nil, or_false] at hk hT
 rcases hk with rfl | rfl | rfl | rfl | rfl | rfl | rfl <;> rcases hT with rfl | rfl | rfl | rfl | rfl | rfl | rfl <;> with_unfolding_all rfl
theorem cw_isi : CallW X (.builtin "isinstance") opIsi := by
 intro pins s σ H ι G st xs ws us Q I sr rv t q
 unfold opIsi at q
 split at q
 ·rename_i w T
  by_cases hT : kinds.contains T = true
  ·rw [if_pos hT] at q
   have hT' : T ∈ kinds := by simpa using hT
   obtain ⟨v, v', rfl, r, r'⟩ := rel2 t
   cases r'
   cases rv with
   | cons ru rv =>
    cases rv with
    | cons rc rv =>
     cases rv
     rename_i u c
     cases (show c = Value.type T from rc)
     cases hk : kindW st w with
     | none => rw [hk] at q; exact (show False from q).elim
     | some k =>
      rw [hk] at q
      have fin : ∀ tk, EP X pins σ Q (.bool (isKind k T)) { s with toks := tk } := fun tk => ⟨.bl (isKind k T), H, I.tok tk, rfl, q _ ι G H (Ext.refl _ _ _) sr (.bl _)⟩
      have kk : k ∈ kinds → PySem.W.kitOne X.K (.type k) (.type T) = some (isKind k T) := fun h => kit_kinds X.K k h T hT'
      cases r with
      | non => cases hk; cases (show u = Value.none from ru); exact PySem.W.kia_one PySem.W.kitx_none I.kIn True.intro (kk (by decide)) (fun z => nomatch z) fin
      | bl b => cases hk; cases (show u = Value.bool b from ru); exact PySem.W.kia_one PySem.W.kitx_bool I.kIn True.intro (kk (by decide)) (fun z => nomatch z) fin
      | int i => cases hk; obtain ⟨tk, e⟩ := (show ∃ t, u = Value.int i t from ru); cases e; exact PySem.W.kia_one PySem.W.kitx_int I.kIn True.intro (kk (by decide)) (fun z => nomatch z) fin
      | str x => cases hk; obtain ⟨tk, e⟩ := (show ∃ t, u = Value.str x t from ru); cases e; exact PySem.W.kia_one PySem.W.kitx_str I.kIn True.intro (kk (by decide)) (fun z => nomatch z) fin
      | @tup a xs _ s1 c1 t1 =>
       cases hk
       cases (show u = Value.ref a from ru)
       obtain ⟨its, _, pl, _⟩ := I.tuple (sqT_same sr.sub s1)
       obtain ⟨o, h1, h2, _⟩ := pl
       exact PySem.W.kia_one PySem.W.kitx_tuple I.kIn ⟨o, h1, h2⟩ (kk (by decide)) (fun z => nomatch z) fin
      | @lst a xs _ s1 t1 =>
       cases hk
       cases (show u = Value.ref a from ru)
       obtain ⟨its, _, pl, _⟩ := I.list (sr.sub.seq s1)
       obtain ⟨o, n, h1, h2, _⟩ := pl
       exact PySem.W.kia_one PySem.W.kitx_list I.kIn ⟨o, h1, h2⟩ (kk (by decide)) (fun z => nomatch z) fin
      | @dct a xs ks _ s1 l1 t1 =>
       cases hk
       cases (show u = Value.ref a from ru)
       obtain ⟨_, _, vs, _, p⟩ := (show ObjOk X.prog X.w H s.heap a (dKo (ks.zip xs)) from I.hok a _ (sr.sub _ _ s1))
       obtain ⟨o, es, ep, h1, h2, _⟩ := p
       exact PySem.W.kia_one PySem.W.kitx_dict I.kIn ⟨o, h1, h2.1⟩ (kk (by decide)) (fun z => nomatch z) fin
      | ty n => cases hk
      | exn s1 s2 => cases hk
      | ref hn =>
       rename_i n
       cases (show u = Value.ref (ι n) from ru)
       have hk : MO.kind (st.mu n) = some k := hk
       cases e : st.mu n with
       | none => rw [e] at hk; cases hk
       | some o =>
        rw [e] at hk
        obtain ⟨_, _, h3⟩ := sr.live n o e
        cases o with
        | lst zs =>
         cases hk
         obtain ⟨vs, qv, _⟩ := h3
         obtain ⟨its, _, pl, _⟩ := I.list (SqL.of qv)
         obtain ⟨o, n, h1, h2, _⟩ := pl
         exact PySem.W.kia_one PySem.W.kitx_list I.kIn ⟨o, h1, h2⟩ (kk (by decide)) (fun z => nomatch z) fin
        | dct ks zs =>
         cases hk
         obtain ⟨xs, qv, _, _⟩ := h3
         obtain ⟨_, _, vs, _, p⟩ := (show ObjOk X.prog X.w H s.heap _ (dKo (ks.zip xs)) from I.hok _ _ qv)
         obtain ⟨o, es, ep, h1, h2, _⟩ := p
         exact PySem.W.kia_one PySem.W.kitx_dict I.kIn ⟨o, h1, h2.1⟩ (kk (by decide)) (fun z => nomatch z) fin
  ·rw [if_neg hT] at q; exact (show False from q).elim
 ·exact (show False from q).elim
end
inductive GV where
 | con (w : W)
 | fn (n : Nat) (op : OpN)
 | blt
 | fx (n : Nat) (b : Bool) (op : OpN)
 | exc (own : Bool) (tab : List (Str × Bool))
 | dcon (ks : List DKey) (ws : List W)
structure FC where
 N : List Str
 sc : Scope
 gl : List (Str × GV)
 mts : List (Nat × Nat)
 cm : Bool
 cx : Bool
def FC.isMut (c : FC) (p : Pos) : Bool := c.mts.any fun q => q.1 == p.line && q.2 == p.col
structure ExcOk (K : PySem.W.Frag) (mg : Str → Option Value) (y : Str) (own : Bool) (tab : List (Str × Bool)) (cv : Value) (vc : V) : Prop where
 rel : RelV vc cv
 un : ∀ u, RelV vc u → u = cv
 glob : own = true → mg y = some cv ∧ ∃ C, cv = .ref C ∧ ExCls K y C
 blt : own = false → mg y = none ∧ bootBuiltins y = some cv
 tab : ∀ x b, tab.lookup x = some b → ∃ C, PySem.W.nsIn K mainGlobals x = some (some (.ref C)) ∧ ExAt K C ∧ PySem.W.kitOne K (.ref C) cv = some b ∧ PySem.W.exmOne K (.ref C) cv = some b
structure XOK (c : FC) (X : Cx) : Prop where
 N : X.N = c.N
 nd : c.N.Nodup
 sc : X.env.scope = c.sc
 calm : c.cm = true → X.calm = true
 hnd : c.cm = true → X.A.handled = none
 units : X.A.units + 80 < cLine
 cells : ∀ y, (c.sc.names.lookup y = some .cell ∨ c.sc.names.lookup y = some .free) → (X.env.cells.lookup y).isSome = true
 con : ∀ x w, c.gl.lookup x = some (.con w) → ∃ u v, X.mg x = some u ∧ RelV v u ∧ ∀ ι N G, RelW X.K ι N G v w
 fn : c.cm = true → ∀ x n op, c.gl.lookup x = some (.fn n op) → ∃ k f fd ps, FnOk X.prog X.w X.K X.mg X.base CX0 k f fd ps (SpD X.K n op) ∧ Room (k + 2) X.A ∧ X.mg x = some (.ref f) ∧ PySem.W.keepIn X.K (.ref f) = true ∧ Binds X.K fd ps [] ∧ ps.length = n
 blt : ∀ x, c.gl.lookup x = some .blt → X.mg x = none
 fx : ∀ x n b op, c.gl.lookup x = some (.fx n b op) → ∃ k f fd ps, FnX b X.prog X.w X.K X.mg X.base k f fd ps (SpX X.K n op) ∧ RoomB false (k + 2) X.A ∧ X.mg x = some (.ref f) ∧ PySem.W.keepIn X.K (.ref f) = true ∧ Binds X.K fd ps [] ∧ ps.length = n
 exc : ∀ y own tab, c.gl.lookup y = some (.exc own tab) → ∃ cv vc, ExcOk X.K X.mg y own tab cv vc
 own : c.cx = true → OwnFr X
 dcon : ∀ x ks ws, c.gl.lookup x = some (.dcon ks ws) → KDs X.prog X.w X.K X.mg x ks ws
theorem XOK.gl {c : FC} {X : Cx} (h : XOK c X) {x : Str} (e : c.sc.names.lookup x = some .globalImplicit) : Gl X x := by
 show X.env.scope.names.lookup x = _
 rw [h.sc]; exact e
def dbg (x : Str) : Bool := (x == ("__debug__" : Str)) || (x == ("__classdict__" : Str)) || (x == ("__name__" : Str))
theorem dbg1 {x : Str} (h : dbg x = false) : (x == ("__debug__" : Str)) = false := by unfold dbg at h; simp only [Bool.or_eq_false_iff] at h; exact h.1.1
theorem dbg2 {x : Str} (h : dbg x = false) : (x == ("__classdict__" : Str)) = false := by unfold dbg at h; simp only [Bool.or_eq_false_iff] at h; exact h.1.2
theorem dbg3 {x : Str} (h : dbg x = false) : x ≠ "__name__" := by
 unfold dbg at h; simp only [Bool.or_eq_false_iff] at h
 intro e; rw [e] at h; simp at h
def slot (N : List Str) (x : Str) : Option Nat := match N with
 | [] => none
 | y :: ys => if y == x then some 0 else (slot ys x).map (· + 1)
theorem slot_get {N : List Str} {x : Str} {i : Nat} (h : slot N x = some i) : N[i]? = some x := by
 induction N generalizing i with
 | nil => cases h
 | cons y ys ih =>
  unfold slot at h
  by_cases hy : (y == x) = true
  ·rw [if_pos hy] at h
   cases h
   have : y = x := by simpa using hy
   rw [this]; rfl
  ·rw [if_neg hy] at h
   cases e : slot ys x with
   | none => rw [e] at h; cases h
   | some j => rw [e] at h; cases h; rw [List.getElem?_cons_succ]; exact ih e
def binD : Operator → Option Op2
 | .Add => some opAdd
 | .Sub => some opSub
 | .Mult => some opMul
 | .FloorDiv => some opDiv
 | .Mod => some opMod
 | _ => none
def cmpD : CmpOp → Option Op2
 | .Eq => some opEq
 | .NotEq => some opNe
 | .Lt => some opLt
 | .LtE => some opLe
 | .Gt => some opGt
 | .In => some opIn
 | .NotIn => some opNotIn
 | .Is => some opIs
 | .IsNot => some opIsNot
 | _ => none
def tyD (x : Str) : Option String := if x == ("str" : Str) then some "str" else if x == ("int" : Str) then some "int" else if x == ("bool" : Str) then some "bool" else if x == ("tuple" : Str) then some "tuple" else if x == ("list" : Str) then some "list" else if x == ("dict" : Str) then some "dict" else none
theorem tyD_boot {x : Str} {T : String} (h : tyD x = some T) : bootBuiltins x = some (.type T) := by
 unfold tyD at h
 repeat' split at h
 all_goals first
  | (cases h; rename_i e; have e' := eq_of_beq e; subst e'; decide +kernel)
  | cases h
def bltD (m : Bool) (x : Str) : Option (Value × OpN) :=
 if x == ("len" : Str) then some (.builtin "len", opLen)
 else if x == ("isinstance" : Str) then some (.builtin "isinstance", opIsi)
 else none
def tyCallD (m : Bool) (x : Str) : Option (String × OpN) :=
 if x == ("tuple" : Str) then some ("tuple", opTuple)
 else if x == ("list" : Str) then some ("list", opList m)
 else if x == ("str" : Str) then some ("str", opStr)
 else none
def noStar : Expr → Bool
 | .Starred _ _ => false
 | _ => true
theorem star_cons {e : Expr} {es : List Expr} {env : Env} (h : noStar e = true) : starEach (e :: es) env = (false, eval e env) :: starEach es env := by
 cases e <;> first | rfl | exact absurd (show false = true from h) Bool.false_ne_true
theorem star_all {es : List Expr} {env : Env} {pos : Pos} (h : es.all noStar = true) : (backTo pos (starEach es env)).any (·.1) = false := by
 induction es with
 | nil => rfl
 | cons e es ih =>
  rw [List.all_cons, Bool.and_eq_true] at h
  rw [star_cons h.1]
  show ((false : Bool) || (backTo pos (starEach es env)).any (·.1)) = false
  rw [ih h.2]; rfl
theorem star_few {e : Expr} {es : List Expr} {env : Env} {pos : Pos} (h : (e :: es).all noStar = true) (hl : (e :: es).length < 30) :
  ((backTo pos (starEach (e :: es) env)).all (fun x => !x.1) && (backToKw pos (keywordEach [] env)).all (fun x => x.1.isSome) && decide ((e :: es).length + ([] : List Keyword).length + (if ([] : List Keyword).isEmpty then 0 else 1) < 30)) = true := by
 have h1 : (backTo pos (starEach (e :: es) env)).all (fun x => !x.1) = true := by
  rw [← List.not_any_eq_all_not, star_all h]; rfl
 have h2 : (backToKw pos (keywordEach [] env)).all (fun x => x.1.isSome) = true := rfl
 have h3 : decide ((e :: es).length + ([] : List Keyword).length + (if ([] : List Keyword).isEmpty then 0 else 1) < 30) = true := decide_eq_true (by simpa using hl)
 rw [h1, h2, h3]; rfl
def mthD (m : Str) : Option (String × OpM) :=
 if m == ("append" : Str) then some ("list", opAppend)
 else if m == ("join" : Str) then some ("str", opJoin)
 else if m == ("index" : Str) then some ("list", opIndexD)
 else none
theorem mthD_ok {X : Cx} {m : Str} {T : String} {op : OpM} (hu : X.A.units + 64 < cLine) (h : mthD m = some (T, op)) : ∃ id, Mth X m T id op := by
 unfold mthD at h
 repeat' split at h
 all_goals first
  | (cases h; done)
  | (cases h; rename_i e; have e' := eq_of_beq e; subst e'; first
   | exact ⟨_, mth_append⟩
   | exact ⟨_, mth_join⟩
   | exact ⟨_, mth_indexD hu⟩
   )
def plainIx : Expr → Bool
 | .Slice _ _ _ _ => false
 | _ => true
theorem plainIx_noSl {e : Expr} (h : plainIx e = true) : NoSl e := by
 intro ov iv
 cases e <;> first | rfl | exact absurd (show false = true from h) Bool.false_ne_true
theorem plainIx_ok {e : Expr} (h : plainIx e = true) : PlainIx e := by
 intro o i
 cases e <;> first | rfl | exact absurd (show false = true from h) Bool.false_ne_true
def noSet : Expr → Bool
 | .Set _ _ _ => false
 | _ => true
theorem noSet_behind {e : Expr} {op : CmpOp} (h : noSet e = true) : behindInMarks op e = false := by
 cases e <;> first | rfl | exact absurd (show false = true from h) Bool.false_ne_true
theorem noSet_fold {e : Expr} {env : Env} (h : noSet e = true) : ∀ z, foldedSetIterable e env z = pure z := by
 intro z
 cases e <;> first | rfl | exact absurd (show false = true from h) Bool.false_ne_true
theorem noSet_last {op op' : CmpOp} {b c : Expr} (h : noSet c = true) : lastMarks [op, op'] [b, c] = false := by
 cases c <;> first | rfl | exact absurd (show false = true from h) Bool.false_ne_true
def plainT : Expr → Bool
 | .UnaryOp .Not _ _ => false
 | .BoolOp _ _ _ => false
 | .IfExp _ _ _ _ => false
 | .Compare _ _ _ _ => false
 | _ => true
theorem plainT_ok {e : Expr} {env : Env} (h : plainT e = true) : ∀ whole, isTrue e env whole = (do let v ← whole; standAt e.pos; holding [v] (truthy v)) := by
 intro whole
 cases e with
 | UnaryOp op a p => cases op <;> first | rfl | exact absurd (show false = true from h) Bool.false_ne_true
 | BoolOp _ _ _ => exact absurd (show false = true from h) Bool.false_ne_true
 | IfExp _ _ _ _ => exact absurd (show false = true from h) Bool.false_ne_true
 | Compare _ _ _ _ => exact absurd (show false = true from h) Bool.false_ne_true
 | _ => rfl
def relabelS (scope sc : Scope) : Scope := { scope with names := scope.names.map fun (n, k) => if (k == .free && sc.kind == .function && sc.names.lookup n == some .cell) then (n, .cell) else (n, k) }
def freesOf (scope : Scope) : List Str := (scope.names.filter fun p => p.2 == .free).map (·.1)
def slots (N : List Str) : List Str → Option (List Nat)
 | [] => some []
 | y :: ys => match slot N y, slots N ys with
  | some i, some r => some (i :: r)
  | _, _ => none
def compOk (scope sc : Scope) (x : Str) : Bool :=
 scope.names.all (fun y => y.2 != .cell) && scope.names.all (fun y => y.2 != .free || (sc.names.lookup y.1 == some .cell || sc.names.lookup y.1 == some .free)) && (scope.kind == .function) &&
 scope.names.all (fun y => y.2 != .local || scope.names.lookup y.1 == some .local) && (scope.names.lookup x == some .local) && (freesOf scope).all (fun y => scope.names.lookup y == some .free) && decide ((x :: freesOf scope).Nodup)
theorem slots_get {N : List Str} : ∀ {ys : List Str} {js : List Nat}, slots N ys = some js → ys.length = js.length ∧ ∀ (k j : Nat), js[k]? = some j → ys[k]? = N[j]?
 | [], js, h => by cases h; exact ⟨rfl, fun k j e => by simp at e⟩
 | y :: ys, js, h => by
  unfold slots at h
  cases e1 : slot N y with
  | none => rw [e1] at h; cases h
  | some i =>
   cases e2 : slots N ys with
   | none => rw [e1, e2] at h; cases h
   | some r =>
    rw [e1, e2] at h
    cases h
    obtain ⟨h1, h2⟩ := slots_get e2
    refine ⟨by simp [h1], fun k j e => ?_⟩
    cases k with
    | zero => simp at e; subst e; rw [slot_get e1]; rfl
    | succ k => exact h2 k j (by simpa using e)
theorem comp_sc {c : FC} {X : Cx} (h : XOK c X) {scope : Scope} {x : Str} {cap : List Nat} (hk : compOk scope c.sc x = true) (hc : slots c.N (freesOf scope) = some cap) :
  CompSc X scope x (clOf X.env scope.names []) (x :: freesOf scope) cap := by
 unfold compOk at hk
 simp only [Bool.and_eq_true, List.all_eq_true, decide_eq_true_eq, beq_iff_eq] at hk
 obtain ⟨⟨⟨⟨⟨⟨h1, h2⟩, h3⟩, h4⟩, h5⟩, h6⟩, h7⟩ := hk
 have g1 : ∀ y ∈ scope.names, y.2 ≠ .cell := fun y hy e => by have := h1 y hy; rw [e] at this; cases this
 have g2 : ∀ y ∈ scope.names, y.2 = .free → c.sc.names.lookup y.1 = some .cell ∨ c.sc.names.lookup y.1 = some .free := fun y hy e => by
  have := h2 y hy
  rw [e] at this
  simpa using this
 have g4 : ∀ y ∈ scope.names, y.2 = .local → scope.names.lookup y.1 = some .local := fun y hy e => by
  have := h4 y hy
  rw [e] at this
  simpa using this
 have cells : ∀ y ∈ scope.names, y.2 = .free → (X.env.cells.lookup y.1).isSome = true := fun y hy e => h.cells y.1 (g2 y hy e)
 obtain ⟨sl1, sl2⟩ := slots_get hc
 have fr : ∀ (k : Nat) (y : Str), (x :: freesOf scope)[k + 1]? = some y → scope.names.lookup y = some .free := fun k y e => by
  have e' : (freesOf scope)[k]? = some y := by simpa using e
  exact h6 y (List.mem_of_getElem? e')
 have rl : ∀ (l : List (Str × NameKind)) (y : Str), l.lookup y = some .free →
   (l.map fun (n, k) => if (k == NameKind.free && X.env.scope.kind == .function && X.env.kindOf n == some .cell) then (n, NameKind.cell) else (n, k)).lookup y = some .cell ∨
   (l.map fun (n, k) => if (k == NameKind.free && X.env.scope.kind == .function && X.env.kindOf n == some .cell) then (n, NameKind.cell) else (n, k)).lookup y = some .free := by
  intro l y
  induction l with
  | nil => intro h; simp at h
  | cons p r ih =>
   intro hl
   obtain ⟨n, k'⟩ := p
   rw [List.lookup_cons] at hl
   rw [List.map_cons]
   cases hy : y == n with
   | true =>
    rw [hy] at hl
    cases hl
    dsimp only
    split
    ·left; rw [List.lookup_cons, hy]
    ·right; rw [List.lookup_cons, hy]
   | false =>
    rw [hy] at hl
    dsimp only
    split
    ·rw [List.lookup_cons, hy]; exact ih hl
    ·rw [List.lookup_cons, hy]; exact ih hl
 refine ⟨clos_eq cells, g1, h3, g4, h5, h7, rfl, by rw [List.length_cons, sl1], fun k j e => ?_, fun k y e => ?_, fun k y e => rl scope.names y (fr k y e), clOf_sub X.env scope.names [] cells (fun y c h => by simp at h), fun y hy => ?_⟩
 ·rw [List.getElem?_cons_succ, h.N]; exact sl2 k j e
 ·have m := PySem.mem_of_lookup (fr k y e)
  have := g2 _ m rfl
  show X.env.scope.names.lookup y = _ ∨ X.env.scope.names.lookup y = _
  rw [h.sc]; exact this
 ·refine clOf_has X.env scope.names [] y (.inr ?_)
  rcases hy with hy | hy
  ·rcases relabel_mem hy with m | m
   ·exact absurd rfl (g1 _ m)
   ·exact m
  ·rcases relabel_mem hy with m | m
   ·exact m
   ·exact m
theorem comp_xok {c : FC} {X : Cx} (h : XOK c X) {scope : Scope} {x : Str} {cap : List Nat} (hk : compOk scope c.sc x = true) (hc : slots c.N (freesOf scope) = some cap) (C : Addr) (s : Shared) (H : Hp) (ex : List Addr) :
  XOK { c with N := x :: freesOf scope, sc := relabelS scope c.sc, cx := false } (cxComp X scope (clOf X.env scope.names []) C (x :: freesOf scope) s H ex) := by
 have Sc := comp_sc h hk hc
 have es : (cxComp X scope (clOf X.env scope.names []) C (x :: freesOf scope) s H ex).env.scope = relabelS scope c.sc := by
  show relabel scope X.env = _
  unfold relabel relabelS
  rw [← h.sc]; rfl
 refine ⟨rfl, Sc.nd, es, h.calm, h.hnd, h.units, fun y hy => ?_, h.con, h.fn, h.blt, h.fx, h.exc, (fun z => Bool.noConfusion z), h.dcon⟩
 obtain ⟨cc, hcc⟩ := Sc.has y (by
  have e2 : relabel scope X.env = relabelS scope c.sc := es
  rw [e2]; exact hy)
 show ((clOf X.env scope.names []).lookup y).isSome = true
 rw [hcc]; rfl
def twoN : List Expr → Option (Str × Pos × Str × Pos)
 | [.Name x p, .Name y q] => some (x, p, y, q)
 | _ => none
theorem twoN_ok {es : List Expr} {x y : Str} {p q : Pos} (h : twoN es = some (x, p, y, q)) : es = [.Name x p, .Name y q] := by
 unfold twoN at h
 split at h
 ·cases h; rfl
 ·cases h
def compOk2 (scope sc : Scope) (x y : Str) : Bool := compOk scope sc x && (scope.names.lookup y == some .local) && decide ((x :: y :: freesOf scope).Nodup)
theorem comp_sc2 {c : FC} {X : Cx} (h : XOK c X) {scope : Scope} {x y : Str} {cap : List Nat} (hk : compOk2 scope c.sc x y = true) (hc : slots c.N (freesOf scope) = some cap) :
  CompSc2 X scope x y (clOf X.env scope.names []) (x :: y :: freesOf scope) cap := by
 unfold compOk2 at hk
 simp only [Bool.and_eq_true, decide_eq_true_eq, beq_iff_eq] at hk
 obtain ⟨⟨h1, h2⟩, h3⟩ := hk
 have S := comp_sc h h1 hc
 have e : ∀ k : Nat, (x :: y :: freesOf scope)[k + 2]? = (x :: freesOf scope)[k + 1]? := fun k => by simp
 exact ⟨S.clos, S.cell, S.kind, S.names, S.loc, h2, h3, rfl, rfl, by have := S.len; simp only [List.length_cons] at this ⊢; omega, fun k j q => by rw [e]; exact S.capN k j q, fun k z q => S.out k z (by rw [← e]; exact q), fun k z q => S.inn k z (by rw [← e]; exact q), S.sub, S.has⟩
theorem comp_xok2 {c : FC} {X : Cx} (h : XOK c X) {scope : Scope} {x y : Str} {cap : List Nat} (hk : compOk2 scope c.sc x y = true) (hc : slots c.N (freesOf scope) = some cap) (C : Addr) (s : Shared) (H : Hp) (ex : List Addr) :
  XOK { c with N := x :: y :: freesOf scope, sc := relabelS scope c.sc, cx := false } (cxComp X scope (clOf X.env scope.names []) C (x :: y :: freesOf scope) s H ex) := by
 have Sc := comp_sc2 h hk hc
 have es : relabel scope X.env = relabelS scope c.sc := by
  unfold relabel relabelS
  rw [← h.sc]; rfl
 refine ⟨rfl, Sc.nd, es, h.calm, h.hnd, h.units, fun z hz => ?_, h.con, h.fn, h.blt, h.fx, h.exc, (fun z => Bool.noConfusion z), h.dcon⟩
 obtain ⟨cc, hcc⟩ := Sc.has z (by rw [es]; exact hz)
 show ((clOf X.env scope.names []).lookup z).isSome = true
 rw [hcc]; rfl
def enumD (c : FC) : Expr → Option (Expr × Expr)
 | .Call (.Name x p) [a] [⟨some kw, .Constant (.int 1) kd vp, kp⟩] cp => if x == ("enumerate" : Str) && kw == ("start" : Str) && noStar a then (match c.sc.names.lookup x, c.gl.lookup x with
  | some .globalImplicit, some .blt => some (a, .Call (.Name x p) [a] [⟨some kw, .Constant (.int 1) kd vp, kp⟩] cp)
  | _, _ => none) else none
 | _ => none
theorem enumD_ok {c : FC} {e a e' : Expr} (h : enumD c e = some (a, e')) : ∃ p kd vp kp cp, e = .Call (.Name "enumerate" p) [a] [⟨some "start", .Constant (.int 1) kd vp, kp⟩] cp ∧ noStar a = true ∧ c.sc.names.lookup ("enumerate" : Str) = some .globalImplicit ∧ c.gl.lookup ("enumerate" : Str) = some .blt := by
 unfold enumD at h
 split at h
 ·split at h
  ·rename_i hk
   simp only [Bool.and_eq_true] at hk
   obtain ⟨⟨hx, hkw⟩, ha⟩ := hk
   have hx' := eq_of_beq hx
   have hk' := eq_of_beq hkw
   subst hx' hk'
   split at h
   ·rename_i h1 h2
    cases h
    exact ⟨_, _, _, _, _, rfl, ha, h1, h2⟩
   ·cases h
  ·cases h
 ·cases h
theorem pi_enumD {c : FC} {X : Cx} {es : List Expr} {tk : Nat} {tp p cp kp : Pos} {kd : Nat} {vp : Pos} {a : Expr} {rr : Runs} (xo : XOK c X) (h1 : c.sc.names.lookup ("enumerate" : Str) = some .globalImplicit) (h2 : c.gl.lookup ("enumerate" : Str) = some .blt) (ha : noStar a = true) (hr : PDA X [a] rr) :
  PI X (.Tuple es tk tp) (.Call (.Name "enumerate" p) [a] [⟨some "start", .Constant (.int 1) kd vp, kp⟩] cp) (iEnum X.K (tDA X rr)) :=
 pi_enum (xo.gl h1) (xo.blt _ h2) hr (pk_cons pe_int pk_nil) (fun σ H Q h => h) (by rw [star_cons ha]; rfl) (by rw [star_cons ha]; rfl)
def nameD (c : FC) (x : Str) : Option Run := if dbg x then none else (match c.sc.names.lookup x with
 | some .globalImplicit => (match c.gl.lookup x with
  | some (.con w) => some (rCon w)
  | some .blt => (tyD x).map fun T => rCon (.ty T)
  | _ => none)
 | some .local => (slot c.N x).map rVar
 | some .cell => (slot c.N x).map rVar
 | some .free => (slot c.N x).map rVar
 | _ => none)
def conD : Const → Option Run
 | .int i => some (rCon (.int i))
 | .str x => some (rCon (.str x))
 | .bool b => some (rCon (.bl b))
 | .none => some (rCon .non)
 | _ => none
def unD (op : UnaryOp) (r : Run) : Option Run := match op with
 | .Not => some (runNot r)
 | .USub => some (run1 r opNeg)
 | _ => none
def boolD (op : BoolOp) (ra rb : Run) : Run := match op with
 | .And => runAnd ra rb
 | .Or => runOr ra rb
def cmp0 (E : Expr → Option Run) (a : Expr) (op : CmpOp) (b : Expr) : Option Run := if noSet b then (E a).bind fun ra => (E b).bind fun rb => (cmpD op).map fun o => run2 ra rb o else none
def cmp1 (c : FC) (E : Expr → Option Run) (a : Expr) (op : CmpOp) (b : Expr) : Option Run := cmp0 E a op b
def cmp2 (E : Expr → Option Run) (a : Expr) (op op' : CmpOp) (b d : Expr) : Option Run := if noSet d then (E a).bind fun ra => (E b).bind fun rb => (E d).bind fun rd => (cmpD op).bind fun o => (cmpD op').map fun o' => runC ra rb rd o o' else none
def cmpR (c : FC) (E : Expr → Option Run) (a : Expr) : List CmpOp → List Expr → Option Run
 | [op], [b] => cmp1 c E a op b
 | [op, op'], [b, d] => cmp2 E a op op' b d
 | _, _ => none
theorem cmpR_ok {c : FC} {E : Expr → Option Run} {a : Expr} {ops : List CmpOp} {bs : List Expr} {r : Run} (h : cmpR c E a ops bs = some r) :
  (∃ op b, ops = [op] ∧ bs = [b] ∧ cmp1 c E a op b = some r) ∨ ∃ op op' b d, ops = [op, op'] ∧ bs = [b, d] ∧ cmp2 E a op op' b d = some r := by
 rcases ops with _ | ⟨op, _ | ⟨op', _ | ⟨_, _⟩⟩⟩ <;> rcases bs with _ | ⟨b, _ | ⟨d, _ | ⟨_, _⟩⟩⟩ <;> first | exact .inl ⟨_, _, rfl, rfl, h⟩ | exact .inr ⟨_, _, _, _, rfl, rfl, h⟩ | cases h
def blt0 (c : FC) (Es : List Expr → Option Runs) (x : Str) (es : List Expr) (pos : Pos) : Option Run := if !c.cm then none else match bltD (c.isMut pos) x with
 | some (_, op) => (Es es).map fun rr => runN rr op
 | none => (match tyCallD (c.isMut pos) x with
  | some (_, op) => (Es es).map fun rr => runN rr op
  | none => none)
def bltG (c : FC) (E : Expr → Option Run) (Es : List Expr → Option Runs) (x : Str) (e : Expr) (es : List Expr) (pos : Pos) : Option Run := blt0 c Es x (e :: es) pos
def callG (c : FC) (E : Expr → Option Run) (Es : List Expr → Option Runs) (x : Str) (e : Expr) (es : List Expr) (pos : Pos) : Option Run :=
 if dbg x then none else if (e :: es).all noStar then (match c.sc.names.lookup x with
  | some .globalImplicit => (match c.gl.lookup x with
   | some (.fn k op) => if (e :: es).length = k then (if c.cm then (Es (e :: es)).map fun rr => runN rr (calmOp op) else none) else none
   | some .blt => bltG c E Es x e es pos
   | _ => none)
  | _ => none) else none
def mthG (E : Expr → Option Run) (Es : List Expr → Option Runs) (o : Expr) (m : Str) (apos : Pos) (es : List Expr) (pos : Pos) : Option Run :=
 if noCall0 o && apos.endLine == pos.line && es.all noStar && decide (es.length < 30) then (mthD m).bind fun (T, op) => (E o).bind fun ro => (Es es).map fun rr => runM T ro rr op else none
def callR (c : FC) (E : Expr → Option Run) (Es : List Expr → Option Runs) (f : Expr) (es : List Expr) (ks : List Keyword) (pos : Pos) : Option Run := match f with
 | .Name x _ => (match es with
  | [] => none
  | e :: es => (match ks with
   | [] => callG c E Es x e es pos
   | _ :: _ => none
   ))
 | .Attribute o m apos => (match ks with
  | [] => mthG E Es o m apos es pos
  | _ :: _ => none)
 | _ => none
def slG (m : Bool) (E : Expr → Option Run) (a : Expr) (lo hi : Option Expr) : Option Run := match lo with
 | none => (match hi with
  | none => (E a).map fun ra => runSlNN m ra
  | some h => (E a).bind fun ra => (E h).map fun rh => runSlNS m ra rh)
 | some l => (match hi with
  | none => (E a).bind fun ra => (E l).map fun rl => runSlSN m ra rl
  | some h => (E a).bind fun ra => (E l).bind fun rl => (E h).map fun rh => runSlSS m ra rl rh)
def ixG (c : FC) (E : Expr → Option Run) (a b : Expr) : Option Run := (E a).bind fun ra => (E b).map fun rb => run2 ra rb opIdx
def subG (c : FC) (E : Expr → Option Run) (a i : Expr) (pos : Pos) : Option Run := match i with
 | .Slice lo hi st _ => (match st with
  | none => slG (c.isMut pos) E a lo hi
  | some _ => none
  )
 | i => if plainIx i then ixG c E a i else none
def ifsD (T : Expr → Option Run) : List Expr → Option Run
 | [] => some (rCon (.bl true))
 | t :: ts => (match ts with
  | [] => T t
  | _ :: _ => none)
def compG (c : FC) (I : Expr → Option Src) (T E : FC → Expr → Option Run) (elt : Expr) (x : Str) (iter : Expr) (ifs : List Expr) (scope : Scope) (pos : Pos) : Option Run :=
 if !c.cm then none else if noSet iter && compOk scope c.sc x then (I iter).bind fun src => (slots c.N (freesOf scope)).bind fun cap =>
  (ifsD (T { c with N := x :: freesOf scope, sc := relabelS scope c.sc, cx := false }) ifs).bind fun rt => (E { c with N := x :: freesOf scope, sc := relabelS scope c.sc, cx := false } elt).map fun re => runComp (c.isMut pos) src cap rt re else none
noncomputable def compLG (c : FC) (E : FC → Expr → Option Run) (elt : Expr) (x : Str) (iter : Expr) (ifs : List Expr) (scope : Scope) (pos : Pos) : Option Run :=
 if !c.cm then none else if ifs.isEmpty && noSet iter && compOk scope c.sc x then (E c iter).bind fun r => (slots c.N (freesOf scope)).bind fun cap =>
  (E { c with N := x :: freesOf scope, sc := relabelS scope c.sc, cx := false } elt).map fun re => runCompL (c.isMut pos) r cap re else none
noncomputable def compN (c : FC) (I : Expr → Option Src) (T E : FC → Expr → Option Run) (elt : Expr) (x : Str) (iter : Expr) (ifs : List Expr) (scope : Scope) (pos : Pos) : Option Run := if c.isMut iter.pos then compLG c E elt x iter ifs scope pos else compG c I T E elt x iter ifs scope pos
def compE (c : FC) (E : FC → Expr → Option Run) (Es : List Expr → Option Runs) (elt : Expr) (es : List Expr) (iter : Expr) (scope : Scope) (pos : Pos) : Option Run :=
 if !c.cm then none else (twoN es).bind fun (x, _, y, _) => (enumD c iter).bind fun (a, _) => if compOk2 scope c.sc x y then (slots c.N (freesOf scope)).bind fun cap => (Es [a]).bind fun rr =>
  (E { c with N := x :: y :: freesOf scope, sc := relabelS scope c.sc, cx := false } elt).map fun re => runCompE (c.isMut pos) rr cap re else none
noncomputable def compR (c : FC) (I : Expr → Option Src) (T E : FC → Expr → Option Run) (Es : List Expr → Option Runs) (elt : Expr) (gens : List Comprehension) (scope : Scope) (pos : Pos) : Option Run := match gens with
 | [⟨.Name x _, iter, ifs, 0⟩] => compN c I T E elt x iter ifs scope pos
 | [⟨.Tuple es _ _, iter, [], 0⟩] => compE c E Es elt es iter scope pos
 | _ => none
theorem compR_ok {c : FC} {I : Expr → Option Src} {T E : FC → Expr → Option Run} {Es : List Expr → Option Runs} {elt : Expr} {gens : List Comprehension} {scope : Scope} {pos : Pos} {r : Run} (h : compR c I T E Es elt gens scope pos = some r) : (∃ x px iter ifs, gens = [⟨.Name x px, iter, ifs, 0⟩] ∧ compN c I T E elt x iter ifs scope pos = some r)
  ∨ (∃ es tk tp iter, gens = [⟨.Tuple es tk tp, iter, [], 0⟩] ∧ compE c E Es elt es iter scope pos = some r)
  := by
 unfold compR at h
 split at h
 ·exact .inl ⟨_, _, _, _, rfl, h⟩
 ·exact .inr ⟨_, _, _, _, rfl, h⟩
 ·cases h
def oddC (c : FC) : Expr → Bool
 | .ListComp _ gens _ _ => (match gens with
  | [⟨.Name _ _, iter, _, 0⟩] => c.isMut iter.pos
  | _ => true)
 | _ => false
def rng2G (E : Expr → Option Run) (a b : Expr) : Option Src := none
def rng3G (Es : List Expr → Option Runs) (a : Expr) (es : List Expr) : Option Src := none
def rngR (c : FC) (E : Expr → Option Run) (Es : List Expr → Option Runs) (x : Str) (es : List Expr) : Option Src := match c.sc.names.lookup x, c.gl.lookup x with
 | some .globalImplicit, some .blt => (match es with
  | [] => none
  | a :: es => (match es with
   | [] => if noStar a then (E a).map runRng1 else none
   | b :: es => (match es with
    | [] => rng2G E a b
    | d :: es => rng3G Es a (b :: d :: es))))
 | _, _ => none
mutual
noncomputable def denE : Nat → FC → Expr → Option Run
 | 0, _, _ => none
 | n + 1, c, e => match e with
  | .Name x _ => nameD c x
  | .Constant v _ _ => conD v
  | .BinOp a op b _ => (denE n c a).bind fun ra => (denE n c b).bind fun rb => (binD op).map fun o => run2 ra rb o
  | .UnaryOp op a _ => (denE n c a).bind fun ra => unD op ra
  | .BoolOp op es pos => (match es with
   | [] => none
   | a :: es => (match es with
    | [] => denE n c a
    | b :: rest => (denE n c a).bind fun ra => (denE n c (.BoolOp op (b :: rest) pos)).map fun rb => boolD op ra rb))
  | .Compare a ops bs _ => cmpR c (denE n c) a ops bs
  | .IfExp t a b _ => (denT n c t).bind fun rt => (denE n c a).bind fun ra => (denE n c b).map fun rb => runIf rt ra rb
  | .Tuple es _ _ => (denEs n c es).map fun rr => runN rr opTup
  | .List es pos => (denEs n c es).map fun rr => runN rr (opL (c.isMut pos))
  | .Call f es ks pos => callR c (denE n c) (denEs n c) f es ks pos
  | .Subscript a i pos => subG c (denE n c) a i pos
  | .ListComp elt gens scope pos => compR c (denI n c) (denT n) (denE n) (denEs n c) elt gens scope pos
  | .Dict ks vs pos => (match ks with
   | [] => (match vs with
    | [] => some (if c.isMut pos then rDictN else rDict0)
    | _ :: _ => none)
   | _ :: _ => none)
  | _ => none
noncomputable def denT : Nat → FC → Expr → Option Run
 | 0, _, _ => none
 | n + 1, c, e => match e with
  | .UnaryOp op a pos => (match op with
   | .Not => (denT n c a).map runNot
   | _ => denE n c (.UnaryOp op a pos))
  | .BoolOp op es pos => (match es with
   | [] => none
   | a :: es => (match es with
    | [] => denT n c a
    | b :: rest => (denT n c a).bind fun ra => (denT n c (.BoolOp op (b :: rest) pos)).map fun rb => boolD op ra rb))
  | .Compare a ops bs _ => cmpR c (denE n c) a ops bs
  | e => if plainT e then denE n c e else none
noncomputable def denEs : Nat → FC → List Expr → Option Runs
 | 0, _, _ => none
 | n + 1, c, es => match es with
  | [] => some runsNil
  | e :: es => if noStar e then (denE n c e).bind fun r => (denEs n c es).map fun rr => runsCons r rr else none
noncomputable def denJ : Nat → FC → List Expr → Option (List Run)
 | 0, _, _ => none
 | n + 1, c, es => match es with
  | [] => some []
  | e :: es => (denE n c e).bind fun r => (denJ n c es).map fun rs => r :: rs
noncomputable def denI : Nat → FC → Expr → Option Src
 | 0, _, _ => none
 | n + 1, c, e => match e with
  | .Call f es ks pos => (match f with
   | .Name x p => (match ks with
    | [] => if x == ("range" : Str) then rngR c (denE n c) (denEs n c) x es else (denE n c (.Call (.Name x p) es [] pos)).map runSrc
    | k :: ks => (denE n c (.Call (.Name x p) es (k :: ks) pos)).map runSrc)
   | f => (denE n c (.Call f es ks pos)).map runSrc)
  | e => (denE n c e).map runSrc
end
end DL
namespace DL
open PySem PySem.Spec PyProof.Rows L2
section
variable {X : Cx}
theorem binD_ok {op : Operator} {o : Op2} (h : binD op = some o) : OpW X (binaryOp op) o := by
 cases op <;> first
  | (cases h; done)
  | (cases h; exact opw_add)
  | (cases h; exact opw_sub)
  | (cases h; exact opw_mul)
  | (cases h; exact opw_div)
  | (cases h; exact opw_mod)
theorem cmpD_ok {op : CmpOp} {o : Op2} (hu : X.A.units + 64 < cLine) (h : cmpD op = some o) : OpW X (compareOp op) o := by
 cases op <;> first
  | (cases h; done)
  | (cases h; exact opw_is)
  | (cases h; exact opw_isNot)
  | (cases h; exact opw_eq hu)
  | (cases h; exact opw_ne hu)
  | (cases h; exact opw_lt)
  | (cases h; exact opw_le)
  | (cases h; exact opw_gt)
  | (cases h; exact opw_in hu)
  | (cases h; exact opw_notIn hu)
theorem bltD_ok {m : Bool} {x : Str} {f : Value} {op : OpN} (hc : X.calm = true) (h : bltD m x = some (f, op)) : ∃ id, f = .builtin id ∧ bootBuiltins x = some (.builtin id) ∧ CallW X (.builtin id) op := by
 unfold bltD at h
 repeat' split at h
 all_goals first
  | (cases h; done)
  | (cases h; rename_i e; have e' := eq_of_beq e; subst e'; first
   | exact ⟨_, rfl, by decide +kernel, cw_len⟩
   | exact ⟨_, rfl, by decide +kernel, cw_isi⟩
   )
theorem tyCallD_ok {m : Bool} {x : Str} {T : String} {op : OpN} (h : tyCallD m x = some (T, op)) : bootBuiltins x = some (.type T) ∧ CallW X (.type T) op := by
 unfold tyCallD at h
 repeat' split at h
 all_goals first
  | (cases h; done)
  | (cases h; rename_i e; have e' := eq_of_beq e; subst e'; first
   | exact ⟨by decide +kernel, cw_tuple⟩
   | exact ⟨by decide +kernel, cw_list⟩
   | exact ⟨by decide +kernel, cw_str⟩
   )
theorem pd_callB {id : String} {op : OpN} {x : Str} {p pos : Pos} {e : Expr} {es : List Expr} {rr : Runs} (hc : CallW X (.builtin id) op) (hg : Gl X x) (hm : X.mg x = none) (hv : bootBuiltins x = some (.builtin id)) (ha : PDA X (e :: es) rr) (hd : dbg x = false) (hs : (e :: es).all noStar = true) :
  PD X (.Call (.Name x p) (e :: es) [] pos) (runN rr op) := by
 rw [List.all_cons, Bool.and_eq_true] at hs
 exact PE.imp (pe_callB hc.r hg hm hv ha (dbg3 hd) (dbg1 hd) (star_cons hs.1) (star_all hs.2)) fun _ _ _ h => tD_callB h
theorem pd_callT {T : String} {op : OpN} {x : Str} {p pos : Pos} {e : Expr} {es : List Expr} {rr : Runs} (hc : CallW X (.type T) op) (hg : Gl X x) (hm : X.mg x = none) (hv : bootBuiltins x = some (.type T)) (ha : PDA X (e :: es) rr) (hd : dbg x = false) (hs : (e :: es).all noStar = true) :
  PD X (.Call (.Name x p) (e :: es) [] pos) (runN rr op) := by
 rw [List.all_cons, Bool.and_eq_true] at hs
 exact PE.imp (pe_callTy hc.r hg hm hv ha (dbg3 hd) (dbg1 hd) (star_cons hs.1) (star_all hs.2)) fun _ _ _ h => tD_callB h
end
theorem ob {α β : Type} {o : Option α} {f : α → Option β} {b : β} (h : o.bind f = some b) : ∃ a, o = some a ∧ f a = some b := by
 cases o with
 | none => cases h
 | some a => exact ⟨a, rfl, h⟩
theorem om {α β : Type} {o : Option α} {f : α → β} {b : β} (h : o.map f = some b) : ∃ a, o = some a ∧ f a = b := by
 cases o with
 | none => cases h
 | some a => exact ⟨a, rfl, Option.some.inj h⟩
theorem oite {α : Type} {c : Bool} {x : Option α} {b : α} (h : (if c then x else none) = some b) : c = true ∧ x = some b := by
 cases c with
 | true => exact ⟨rfl, h⟩
 | false => cases h
theorem oite3 {α : Type} {c : Bool} {x : Option α} {b : α} (h : (if c then none else x) = some b) : c = false ∧ x = some b := by
 cases c with
 | true => cases h
 | false => exact ⟨rfl, h⟩
theorem oite2 {α : Type} {c : Bool} {x : Option α} {b : α} (h : (if !c then none else x) = some b) : c = true ∧ x = some b := by
 cases c with
 | true => exact ⟨rfl, h⟩
 | false => cases h
theorem runs_len : ∀ (n : Nat) (c : FC) (es : List Expr) (rr : Runs), denEs n c es = some rr → ∀ Γ st ws st', rr Γ st = .ok ws st' → ws.length = es.length
 | 0, _, _, _, h => by cases h
 | n + 1, c, [], rr, h => by
  cases h
  intro Γ st ws st' e
  cases e; rfl
 | n + 1, c, e :: es, rr, h => by
  unfold denEs at h
  obtain ⟨_, h⟩ := oite h
  obtain ⟨r, hr, h⟩ := ob h
  obtain ⟨r2, hr2, h⟩ := om h
  subst h
  intro Γ st ws st' e
  unfold runsCons at e
  cases e1 : r Γ st with
  | stuck => rw [e1] at e; cases e
  | ex c s => rw [e1] at e; cases e
  | ok w st1 =>
   rw [e1] at e
   have e' : ((r2 Γ st1).bind fun ws st2 => R.ok (w :: ws) st2) = .ok ws st' := e
   cases e2 : r2 Γ st1 with
   | stuck => rw [e2] at e'; cases e'
   | ex c s => rw [e2] at e'; cases e'
   | ok ws2 st2 =>
    rw [e2] at e'
    cases e'
    rw [List.length_cons, List.length_cons, runs_len n c es r2 hr2 Γ st1 ws2 _ e2]
theorem XOK.u64 {c : FC} {X : Cx} (h : XOK c X) : X.A.units + 64 < cLine := by have := h.units; omega
structure Sound (n : Nat) : Prop where
 e : ∀ (c : FC) (X : Cx) (e : Expr) (r : Run), XOK c X → denE n c e = some r → PD X e r
 t : ∀ (c : FC) (X : Cx) (e : Expr) (r : Run), XOK c X → denT n c e = some r → PT X e (tDT X r)
 w : ∀ (c : FC) (X : Cx) (op : BoolOp) (es : List Expr) (pos : Pos) (r : Run), XOK c X → denT n c (.BoolOp op es pos) = some r → PW X (.BoolOp op es pos) (tDT X r)
 es : ∀ (c : FC) (X : Cx) (es : List Expr) (r : Runs), XOK c X → denEs n c es = some r → PDA X es r
 i : ∀ (c : FC) (X : Cx) (y : Str) (py : Pos) (e : Expr) (r : Src), XOK c X → denI n c e = some r → PDI X (.Name y py) e r
 j : ∀ (c : FC) (X : Cx) (es : List Expr) (rs : List Run), XOK c X → denJ n c es = some rs → Paired (fun e r => PD X e r) es rs
section
variable {c : FC} {X : Cx} {n : Nat}
theorem sd_name {x : Str} {pos : Pos} {r : Run} (xo : XOK c X) (h : nameD c x = some r) : PD X (.Name x pos) r := by
 unfold nameD at h
 by_cases hd : dbg x = true
 ·rw [if_pos hd] at h; cases h
 ·rw [if_neg hd] at h
  have hd' : dbg x = false := by simpa using hd
  have var : ∀ {r : Run}, (slot c.N x).map rVar = some r → Vis X.env.scope x → PD X (.Name x pos) r := by
   intro r h hv
   obtain ⟨i, hi, rfl⟩ := om h
   exact pd_var (by rw [xo.N]; exact slot_get hi) hv (dbg1 hd') (dbg2 hd')
  split at h
  ·rename_i hl
   split at h
   ·rename_i w hw
    cases h
    obtain ⟨u, v, h1, h2, h3⟩ := xo.con x w hw
    exact pd_con (pe_glob (xo.gl hl) h1 h2 (dbg1 hd')) h3
   ·rename_i hw
    obtain ⟨T, hT, rfl⟩ := om h
    exact pd_con (v := .ty T) (pe_bltn (xo.gl hl) (xo.blt x hw) (tyD_boot hT) rfl (dbg3 hd') (dbg1 hd')) fun _ _ _ => .ty T
   ·cases h
  ·rename_i hl; exact var h (.inl (by rw [xo.sc]; exact hl))
  ·rename_i hl; exact var h (.inr (.inl (by rw [xo.sc]; exact hl)))
  ·rename_i hl; exact var h (.inr (.inr (by rw [xo.sc]; exact hl)))
  ·cases h
theorem sd_con {v : Const} {k : Nat} {pos : Pos} {r : Run} (h : conD v = some r) : PD X (.Constant v k pos) r := by
 cases v <;> first
  | (cases h; done)
  | (cases h; exact pd_con pe_int fun _ _ _ => .int _)
  | (cases h; exact pd_con pe_str fun _ _ _ => .str _)
  | (cases h; exact pd_con pe_bl fun _ _ _ => .bl _)
  | (cases h; exact pd_con pe_non fun _ _ _ => .non)
theorem sd_un {op : UnaryOp} {a : Expr} {pos : Pos} {ra r : Run} (ha : PD X a ra) (h : unD op ra = some r) : PD X (.UnaryOp op a pos) r := by
 cases op <;> first
  | (cases h; done)
  | (cases h; exact pd_not ha)
  | (cases h; exact pd_neg ha)
theorem sd_bool {op : BoolOp} {a b : Expr} {rest : List Expr} {pos : Pos} {ra rb : Run} (ha : PD X a ra) (hb : PD X (.BoolOp op (b :: rest) pos) rb) : PD X (.BoolOp op (a :: b :: rest) pos) (boolD op ra rb) := by
 cases op with
 | And => exact pd_and ha hb
 | Or => exact pd_or ha hb
theorem sd_cmp0 {a b : Expr} {op : CmpOp} {pos : Pos} {r : Run} (ih : Sound n) (xo : XOK c X) (h : cmp0 (denE n c) a op b = some r) : PD X (.Compare a [op] [b] pos) r ∧ PT X (.Compare a [op] [b] pos) (tDT X r) := by
 obtain ⟨hn, h⟩ := oite h
 obtain ⟨ra, ha, h⟩ := ob h
 obtain ⟨rb, hb, h⟩ := ob h
 obtain ⟨o, ho, rfl⟩ := om h
 have k := cmpD_ok (X := X) xo.u64 ho
 exact ⟨pd_cmp k (ih.e c X a ra xo ha) (ih.e c X b rb xo hb) (noSet_behind hn), pdt_cmp k (ih.e c X a ra xo ha) (ih.e c X b rb xo hb) (noSet_behind hn)⟩
theorem sd_cmp1 {a b : Expr} {op : CmpOp} {pos : Pos} {r : Run} (ih : Sound n) (xo : XOK c X) (h : cmp1 c (denE n c) a op b = some r) : PD X (.Compare a [op] [b] pos) r ∧ PT X (.Compare a [op] [b] pos) (tDT X r) := by
 unfold cmp1 at h
 exact sd_cmp0 ih xo h
theorem sd_cmp2 {a b d : Expr} {op op' : CmpOp} {pos : Pos} {r : Run} (ih : Sound n) (xo : XOK c X) (h : cmp2 (denE n c) a op op' b d = some r) : PD X (.Compare a [op, op'] [b, d] pos) r ∧ PT X (.Compare a [op, op'] [b, d] pos) (tDT X r) := by
 obtain ⟨hn, h⟩ := oite h
 obtain ⟨ra, ha, h⟩ := ob h
 obtain ⟨rb, hb, h⟩ := ob h
 obtain ⟨rd, hd, h⟩ := ob h
 obtain ⟨o, ho, h⟩ := ob h
 obtain ⟨o', ho', rfl⟩ := om h
 have k := cmpD_ok (X := X) xo.u64 ho
 have k' := cmpD_ok (X := X) xo.u64 ho'
 exact ⟨pd_chain k k' (ih.e c X a ra xo ha) (ih.e c X b rb xo hb) (ih.e c X d rd xo hd) (noSet_last hn), pdt_chain k k' (ih.e c X a ra xo ha) (ih.e c X b rb xo hb) (ih.e c X d rd xo hd) (noSet_last hn)⟩
theorem sd_cmp {a : Expr} {ops : List CmpOp} {bs : List Expr} {pos : Pos} {r : Run} (ih : Sound n) (xo : XOK c X) (h : cmpR c (denE n c) a ops bs = some r) : PD X (.Compare a ops bs pos) r ∧ PT X (.Compare a ops bs pos) (tDT X r) := by
 rcases cmpR_ok h with ⟨op, b, rfl, rfl, h⟩ | ⟨op, op', b, d, rfl, rfl, h⟩
 ·exact sd_cmp1 ih xo h
 ·exact sd_cmp2 ih xo h
theorem sd_blt0 {x : Str} {e : Expr} {es : List Expr} {p pos : Pos} {r : Run} (ih : Sound n) (xo : XOK c X) (hd : dbg x = false) (hs : (e :: es).all noStar = true) (hl : c.sc.names.lookup x = some .globalImplicit) (hw : c.gl.lookup x = some .blt) (h : blt0 c (denEs n c) x (e :: es) pos = some r) : PD X (.Call (.Name x p) (e :: es) [] pos) r := by
 obtain ⟨hcm, h⟩ := oite2 h
 split at h
 ·rename_i f op hb
  obtain ⟨rr, hr, rfl⟩ := om h
  obtain ⟨id, rfl, h1, h2⟩ := bltD_ok (X := X) (xo.calm hcm) hb
  exact pd_callB h2 (xo.gl hl) (xo.blt x hw) h1 (ih.es c X _ rr xo hr) hd hs
 ·split at h
  ·rename_i T op hb
   obtain ⟨rr, hr, rfl⟩ := om h
   obtain ⟨h1, h2⟩ := tyCallD_ok (X := X) hb
   exact pd_callT h2 (xo.gl hl) (xo.blt x hw) h1 (ih.es c X _ rr xo hr) hd hs
  ·cases h
theorem sd_bltG {x : Str} {e : Expr} {es : List Expr} {p pos : Pos} {r : Run} (ih : Sound n) (xo : XOK c X) (hd : dbg x = false) (hs : (e :: es).all noStar = true) (hl : c.sc.names.lookup x = some .globalImplicit) (hw : c.gl.lookup x = some .blt) (h : bltG c (denE n c) (denEs n c) x e es pos = some r) : PD X (.Call (.Name x p) (e :: es) [] pos) r := by
 unfold bltG at h
 exact sd_blt0 ih xo hd hs hl hw h
theorem sd_callG {x : Str} {e : Expr} {es : List Expr} {p pos : Pos} {r : Run} (ih : Sound n) (xo : XOK c X) (h : callG c (denE n c) (denEs n c) x e es pos = some r) : PD X (.Call (.Name x p) (e :: es) [] pos) r := by
 unfold callG at h
 by_cases hd : dbg x = true
 ·rw [if_pos hd] at h; cases h
 ·rw [if_neg hd] at h
  have hd' : dbg x = false := by simpa using hd
  obtain ⟨hs, h⟩ := oite h
  have hs' := hs
  rw [List.all_cons, Bool.and_eq_true] at hs'
  split at h
  ·rename_i hl
   split at h
   ·rename_i k op hw
    split at h
    ·rename_i hk
     obtain ⟨hcm, h⟩ := oite h
     obtain ⟨rr, hr, rfl⟩ := om h
     obtain ⟨kk, f, fd, ps, F, R, h1, h2, h3, _⟩ := xo.fn hcm x k op hw
     exact pd_call F (R.mono (Nat.le_add_right kk 2)) (xo.gl hl) h1 h2 h3 (ih.es c X _ rr xo hr) (fun Γ st ws st' e => by rw [runs_len n c _ rr hr Γ st ws st' e]; exact hk) (dbg1 hd') (star_cons hs'.1) (star_all hs'.2)
    ·cases h
   ·rename_i hw; exact sd_bltG ih xo hd' hs hl hw h
   ·cases h
  ·cases h
theorem sd_mthG {o : Expr} {m : Str} {apos pos : Pos} {es : List Expr} {r : Run} (ih : Sound n) (xo : XOK c X) (h : mthG (denE n c) (denEs n c) o m apos es pos = some r) : PD X (.Call (.Attribute o m apos) es [] pos) r := by
 obtain ⟨hk, h⟩ := oite h
 simp only [Bool.and_eq_true, decide_eq_true_eq] at hk
 obtain ⟨⟨⟨h1, h2⟩, h3⟩, h4⟩ := hk
 obtain ⟨⟨T, op⟩, hm, h⟩ := ob h
 obtain ⟨ro, ho, h⟩ := ob h
 obtain ⟨rr, hr, rfl⟩ := om h
 obtain ⟨id, M⟩ := mthD_ok (X := X) xo.u64 hm
 cases es with
 | nil =>
  cases n with
  | zero => cases hr
  | succ n => cases hr; exact pd_mt0 M.hT M.pa M.slot M.hty M.hm (ih.e c X o ro xo ho) h1 h2
 | cons e es =>
  have h3' := h3
  rw [List.all_cons, Bool.and_eq_true] at h3'
  exact pd_mt M.hT M.pa M.slot M.hty M.hm (ih.e c X o ro xo ho) (ih.es c X _ rr xo hr) h1 (star_few h3 h4) h2 (star_cons h3'.1) (star_all h3'.2)
theorem sd_call {f : Expr} {es : List Expr} {ks : List Keyword} {pos : Pos} {r : Run} (ih : Sound n) (xo : XOK c X) (h : callR c (denE n c) (denEs n c) f es ks pos = some r) : PD X (.Call f es ks pos) r := by
 cases f <;> first | (cases h; done) | skip
 ·cases ks with
  | nil => exact sd_mthG ih xo h
  | cons k ks => cases h
 ·cases es with
  | nil => cases h
  | cons e es =>
   cases ks with
   | nil => exact sd_callG ih xo h
   | cons k ks =>
    cases h
theorem sd_sl {m : Bool} {a : Expr} {lo hi : Option Expr} {p2 pos : Pos} {r : Run} (ih : Sound n) (xo : XOK c X) (h : slG m (denE n c) a lo hi = some r) : PD X (.Subscript a (.Slice lo hi none p2) pos) r := by
 cases lo with
 | none =>
  cases hi with
  | none => obtain ⟨ra, ha, rfl⟩ := om h; exact pd_slNN (ih.e c X a ra xo ha)
  | some u => obtain ⟨ra, ha, h⟩ := ob h; obtain ⟨rl, hl, rfl⟩ := om h; exact pd_slNS (ih.e c X a ra xo ha) (ih.e c X u rl xo hl)
 | some l =>
  cases hi with
  | none => obtain ⟨ra, ha, h⟩ := ob h; obtain ⟨rl, hl, rfl⟩ := om h; exact pd_slSN (ih.e c X a ra xo ha) (ih.e c X l rl xo hl)
  | some u => obtain ⟨ra, ha, h⟩ := ob h; obtain ⟨rl, hl, h⟩ := ob h; obtain ⟨rh, hr, rfl⟩ := om h; exact pd_slSS (ih.e c X a ra xo ha) (ih.e c X l rl xo hl) (ih.e c X u rh xo hr)
theorem sd_ix {a b : Expr} {pos : Pos} {r : Run} (ih : Sound n) (xo : XOK c X) (hp : plainIx b = true) (h : ixG c (denE n c) a b = some r) : PD X (.Subscript a b pos) r := by
 unfold ixG at h
 obtain ⟨ra, ha, h3⟩ := ob h
 obtain ⟨rb, hb, rfl⟩ := om h3
 exact pd_ixX (by have := xo.units; omega) (ih.e c X a ra xo ha) (ih.e c X b rb xo hb) (plainIx_noSl hp) (pd_ix0 (ih.e c X a ra xo ha) (ih.e c X b rb xo hb) (plainIx_ok hp))
theorem sd_sub {a i : Expr} {pos : Pos} {r : Run} (ih : Sound n) (xo : XOK c X) (h : subG c (denE n c) a i pos = some r) : PD X (.Subscript a i pos) r := by
 by_cases hp : plainIx i = true
 ·have h' : (if plainIx i then ixG c (denE n c) a i else none) = some r := by
   rw [← h]
   cases i <;> first | rfl | exact absurd (show false = true from hp) Bool.false_ne_true
  exact sd_ix ih xo hp (oite h').2
 ·cases i <;> first | exact absurd rfl hp | skip
  rename_i lo hi st p2
  cases st with
  | none => exact sd_sl ih xo h
  | some st => cases h
theorem sd_ifs {ifs : List Expr} {rt : Run} {X' : Cx} (hK : X'.K = X.K) (h : ifsD (denT n c) ifs = some rt) (k : ∀ t r, denT n c t = some r → PT X' t (tDT X' r)) : PTs X' ifs (tT0 X.K rt) := by
 cases ifs with
 | nil =>
  cases h
  intro pins s' σ H' Q I q
  refine pts_nil pins s' σ H' Q I ?_
  obtain ⟨ι, G, st, Γ, en, sr, q⟩ := q
  obtain ⟨b, e, q'⟩ := q (.bl true) ι G H' (Ext.refl _ _ _) sr (.bl true)
  cases e; exact q'
 | cons t ts =>
  cases ts with
  | nil => rw [← hK]; exact pts_one (PT.calm (k t rt h))
  | cons _ _ => cases h
theorem sd_compG {elt iter : Expr} {x : Str} {px : Pos} {ifs : List Expr} {scope : Scope} {pos : Pos} {r : Run} (ih : Sound n) (xo : XOK c X) (h : compG c (denI n c) (denT n) (denE n) elt x iter ifs scope pos = some r) :
  PD X (.ListComp elt [⟨.Name x px, iter, ifs, 0⟩] scope pos) r ∧ (∀ {i : Nat} {y : Str} {py spos : Pos}, X.N.Nodup → X.N[i]? = some y → X.env.scope.names.lookup y = some .local → swapsWith (.ListComp elt [⟨.Name x px, iter, ifs, 0⟩] scope pos) (some (.Name y py)) spos.line X.env = pure true →
   PS X (.Assign [.Name y py] (.ListComp elt [⟨.Name x px, iter, ifs, 0⟩] scope pos) spos) (tAsg (tD X r) (gName i))) := by
 obtain ⟨hcm, h⟩ := oite2 h
 obtain ⟨hk, h⟩ := oite h
 rw [Bool.and_eq_true] at hk
 obtain ⟨src, hsrc, h⟩ := ob h
 obtain ⟨cap, hcap, h⟩ := ob h
 obtain ⟨rt, hrt, h⟩ := ob h
 obtain ⟨re, hre, rfl⟩ := om h
 exact pd_comp (xo.calm hcm) (ih.i c X x px iter src xo hsrc) (comp_sc xo hk.2 hcap) (fun C s H ex => sd_ifs (X := X) rfl hrt fun t r ht => ih.t _ _ t r (comp_xok xo hk.2 hcap C s H ex) ht) (fun C s H ex => PD.calm (ih.e _ _ elt re (comp_xok xo hk.2 hcap C s H ex) hre)) (noSet_fold hk.1)
theorem sd_comp {elt : Expr} {gens : List Comprehension} {scope : Scope} {pos : Pos} {r : Run} (ih : Sound n) (xo : XOK c X) (h : compR c (denI n c) (denT n) (denE n) (denEs n c) elt gens scope pos = some r) :
  PD X (.ListComp elt gens scope pos) r ∧ (oddC c (.ListComp elt gens scope pos) = false → ∀ {i : Nat} {y : Str} {py spos : Pos}, X.N.Nodup → X.N[i]? = some y → X.env.scope.names.lookup y = some .local → swapsWith (.ListComp elt gens scope pos) (some (.Name y py)) spos.line X.env = pure true →
   PS X (.Assign [.Name y py] (.ListComp elt gens scope pos) spos) (tAsg (tD X r) (gName i))) := by
 have h0 := compR_ok h
 clear h
 rcases h0 with ⟨x, px, iter, ifs, rfl, h⟩ | ⟨es, tk, tp, iter, rfl, h⟩
 rotate_left
 ·obtain ⟨hcm, h⟩ := oite2 h
  obtain ⟨⟨x, p, y, q⟩, he, h⟩ := ob h
  obtain ⟨⟨a, e'⟩, hz, h⟩ := ob h
  obtain ⟨hk, h⟩ := oite h
  obtain ⟨cap, hcap, h⟩ := ob h
  obtain ⟨rr, hr, h⟩ := ob h
  obtain ⟨re, hre, rfl⟩ := om h
  have he := twoN_ok he
  obtain ⟨zp, kd, vp, kp, cp, hz, ha, hl, hw⟩ := enumD_ok hz
  subst he hz
  exact ⟨pd_compE (xo.calm hcm) (pi_enumD xo hl hw ha (ih.es c X _ rr xo hr)) (comp_sc2 xo hk hcap) (fun C s H ex => PD.calm (ih.e _ _ elt re (comp_xok2 xo hk hcap C s H ex) hre)), fun z => nomatch z⟩
 unfold compN at h
 by_cases hm : c.isMut iter.pos = true
 ·rw [if_pos hm] at h
  obtain ⟨hcm, h⟩ := oite2 h
  obtain ⟨hk, h⟩ := oite h
  rw [Bool.and_eq_true, Bool.and_eq_true] at hk
  obtain ⟨⟨hi, hs⟩, hk⟩ := hk
  obtain ⟨r1, hr, h⟩ := ob h
  obtain ⟨cap, hcap, h⟩ := ob h
  obtain ⟨re, hre, rfl⟩ := om h
  have hi : ifs = [] := by simpa using hi
  subst hi
  exact ⟨pd_compL (xo.calm hcm) (ih.e c X iter r1 xo hr) (comp_sc xo hk hcap) (fun C s H ex => PD.calm (ih.e _ _ elt re (comp_xok xo hk hcap C s H ex) hre)) (noSet_fold hs), fun z => by rw [show oddC c (.ListComp elt [⟨.Name x px, iter, [], 0⟩] scope pos) = c.isMut iter.pos from rfl, hm] at z; cases z⟩
 rw [if_neg hm] at h
 obtain ⟨g1, g2⟩ := sd_compG (px := px) ih xo h
 exact ⟨g1, fun _ => g2⟩
theorem sd_rng {es : List Expr} {y : Str} {py p pos : Pos} {r : Src} (ih : Sound n) (xo : XOK c X) (h : rngR c (denE n c) (denEs n c) "range" es = some r) : PDI X (.Name y py) (.Call (.Name "range" p) es [] pos) r := by
 unfold rngR at h
 split at h
 ·rename_i hl hw
  cases es with
  | nil => cases h
  | cons a es =>
   cases es with
   | nil =>
    obtain ⟨hs, h⟩ := oite h
    obtain ⟨ra, ha, rfl⟩ := om h
    exact pdi_range1 (xo.gl hl) (xo.blt _ hw) (ih.e c X a ra xo ha) (star_cons hs)
   | cons b es =>
    cases es with
    | nil =>
     cases h
    | cons d es =>
     cases h
 ·cases h
theorem sd_E {e : Expr} {r : Run} (ih : Sound n) (xo : XOK c X) (h : denE (n + 1) c e = some r) : PD X e r := by
 unfold denE at h
 cases e with
 | Name x pos => exact sd_name xo h
 | Constant v k pos => exact sd_con h
 | BinOp a op b pos =>
  obtain ⟨ra, ha, h⟩ := ob h
  obtain ⟨rb, hb, h⟩ := ob h
  obtain ⟨o, ho, rfl⟩ := om h
  exact pd_op (binD_ok ho) (ih.e c X a ra xo ha) (ih.e c X b rb xo hb)
 | UnaryOp op a pos => obtain ⟨ra, ha, h⟩ := ob h; exact sd_un (ih.e c X a ra xo ha) h
 | BoolOp op es pos =>
  cases es with
  | nil => cases h
  | cons a es =>
   cases es with
   | nil => exact pd_one (ih.e c X a r xo h)
   | cons b rest => obtain ⟨ra, ha, h⟩ := ob h; obtain ⟨rb, hb, rfl⟩ := om h; exact sd_bool (ih.e c X a ra xo ha) (ih.e c X _ rb xo hb)
 | Compare a ops bs pos => exact (sd_cmp ih xo h).1
 | IfExp t a b pos =>
  obtain ⟨rt, ht, h⟩ := ob h
  obtain ⟨ra, ha, h⟩ := ob h
  obtain ⟨rb, hb, rfl⟩ := om h
  exact pd_if (ih.t c X t rt xo ht) (ih.e c X a ra xo ha) (ih.e c X b rb xo hb)
 | Tuple es k pos => obtain ⟨rr, hr, rfl⟩ := om h; exact pd_tup (ih.es c X es rr xo hr)
 | List es pos =>
  obtain ⟨rr, hr, rfl⟩ := om h
  cases c.isMut pos with
  | true => exact pd_newL (ih.es c X es rr xo hr)
  | false => exact pd_lst (ih.es c X es rr xo hr)
 | Call f es ks pos => exact sd_call ih xo h
 | Subscript a i pos => exact sd_sub ih xo h
 | ListComp elt gens scope pos => exact (sd_comp ih xo h).1
 | Dict ks vs pos =>
  cases ks with
  | cons _ _ => cases h
  | nil =>
   cases vs with
   | cons _ _ => cases h
   | nil =>
    cases h
    cases c.isMut pos with
    | true => exact pd_dictN
    | false => exact pd_dict0
 | _ => cases h
theorem sd_W {op : BoolOp} {es : List Expr} {pos : Pos} {r : Run} (ih : Sound n) (xo : XOK c X) (h : denT (n + 1) c (.BoolOp op es pos) = some r) : PW X (.BoolOp op es pos) (tDT X r) := by
 unfold denT at h
 cases es with
 | nil => cases h
 | cons a es =>
  cases es with
  | nil => exact pwt_one (ih.t c X a r xo h)
  | cons b rest =>
   obtain ⟨ra, ha, h⟩ := ob h
   obtain ⟨rb, hb, rfl⟩ := om h
   cases op with
   | And => exact pwt_and (ih.t c X a ra xo ha) (ih.w c X .And (b :: rest) pos rb xo hb)
   | Or => exact pwt_or (ih.t c X a ra xo ha) (ih.w c X .Or (b :: rest) pos rb xo hb)
theorem sd_T {e : Expr} {r : Run} (ih : Sound n) (xo : XOK c X) (h : denT (n + 1) c e = some r) : PT X e (tDT X r) := by
 have pl : plainT e = true → denE n c e = some r → PT X e (tDT X r) := fun hp h => pdt_val (ih.e c X e r xo h) (plainT_ok hp)
 cases e with
 | BoolOp op es pos => exact (sd_W ih xo h).pt
 | UnaryOp op a pos =>
  unfold denT at h
  cases op with
  | Not => obtain ⟨ra, ha, rfl⟩ := om h; exact pdt_not (ih.t c X a ra xo ha)
  | _ => exact pl rfl h
 | Compare a ops bs pos => unfold denT at h; exact (sd_cmp ih xo h).2
 | _ => unfold denT at h; obtain ⟨hp, h⟩ := oite h; exact pl hp h
theorem sd_I {y : Str} {py : Pos} {e : Expr} {r : Src} (ih : Sound n) (xo : XOK c X) (h : denI (n + 1) c e = some r) : PDI X (.Name y py) e r := by
 have val : ∀ {r : Src}, (denE n c e).map runSrc = some r → PDI X (.Name y py) e r := fun {r} h => by
  obtain ⟨ra, ha, rfl⟩ := om h
  exact pdi_val (ih.e c X e ra xo ha)
 unfold denI at h
 cases e with
 | Call f es ks pos =>
  cases f with
  | Name x p =>
   cases ks with
   | nil =>
    by_cases hx : (x == ("range" : Str)) = true
    ·have h : (if x == ("range" : Str) then rngR c (denE n c) (denEs n c) x es else (denE n c (.Call (.Name x p) es [] pos)).map runSrc) = some r := h
     rw [if_pos hx] at h
     have hx' := eq_of_beq hx
     subst hx'
     exact sd_rng ih xo h
    ·have h : (if x == ("range" : Str) then rngR c (denE n c) (denEs n c) x es else (denE n c (.Call (.Name x p) es [] pos)).map runSrc) = some r := h
     rw [if_neg hx] at h
     exact val h
   | cons k ks => exact val h
  | _ => exact val h
 | _ => exact val h
end
theorem sound : ∀ n, Sound n
 | 0 => ⟨fun _ _ _ _ _ h => by (unfold denE at h; cases h), fun _ _ _ _ _ h => by (unfold denT at h; cases h), fun _ _ _ _ _ _ _ h => by (unfold denT at h; cases h), fun _ _ _ _ _ h => by (unfold denEs at h; cases h), fun _ _ _ _ _ _ _ h => by (unfold denI at h; cases h), fun _ _ _ _ _ h => by (unfold denJ at h; cases h)⟩
 | n + 1 => by
  have ih := sound n
  refine ⟨fun _ _ _ _ xo h => sd_E ih xo h, fun _ _ _ _ xo h => sd_T ih xo h, fun _ _ _ _ _ _ xo h => sd_W ih xo h, fun c X es r xo h => ?_, fun _ _ _ _ _ _ xo h => sd_I ih xo h, fun c X es rs xo h => ?_⟩
  ·unfold denEs at h
   cases es with
   | nil => cases h; exact pda_nil
   | cons e es =>
    obtain ⟨hs, h⟩ := oite h
    obtain ⟨ra, ha, h⟩ := ob h
    obtain ⟨rr, hr, rfl⟩ := om h
    exact pda_cons (ih.e c X e ra xo ha) (ih.es c X es rr xo hr) (star_cons hs)
  ·unfold denJ at h
   cases es with
   | nil => cases h; exact .nil
   | cons e es =>
    obtain ⟨ra, ha, h⟩ := ob h
    obtain ⟨rr, hr, rfl⟩ := om h
    exact .cons (ih.e c X e ra xo ha) (ih.j c X es rr xo hr)
end DL
namespace DL
open PySem PySem.Spec PyProof.Rows L2
def isComp : Expr → Bool
 | .ListComp _ _ _ _ => true
 | .SetComp _ _ _ _ => true
 | .DictComp _ _ _ _ _ => true
 | _ => false
theorem noComp_swaps {e : Expr} {t : Option Expr} {l : Nat} {env : Env} (h : isComp e = false) : swapsWith e t l env = pure false := by
 cases e <;> first | rfl | exact absurd (show true = false from h) (by decide)
def isTup : Expr → Bool
 | .Tuple _ _ _ => true
 | _ => false
def locD (c : FC) (x : Str) : Option Nat := match c.sc.names.lookup x with
 | some .local => slot c.N x
 | some .cell => slot c.N x
 | _ => none
theorem locD_ok {c : FC} {x : Str} {i : Nat} (h : locD c x = some i) : (c.sc.names.lookup x = some .local ∨ c.sc.names.lookup x = some .cell) ∧ slot c.N x = some i := by
 unfold locD at h
 split at h
 ·rename_i e; exact ⟨.inl e, h⟩
 ·rename_i e; exact ⟨.inr e, h⟩
 ·cases h
def asgD (c : FC) (E : Expr → Option Run) (e : Expr) : List Expr → Option RunS
 | [] => none
 | t :: ts => (match ts with
  | _ :: _ => none
  | [] => (match t with
   | .Name x _ => if oddC c e then none else (locD c x).bind fun i => (E e).map fun r => sSet i r
   | .Subscript o i _ => if isComp e || isTup e || !plainIx i then none else (E o).bind fun ro => (E i).bind fun ri => (E e).map fun rv => sSetIx ro ri rv
   | _ => none))
def forD (c : FC) (I : Expr → Option Src) (Es : List Expr → Option Runs) (rb : RunS) (tg iter : Expr) : Option RunS := match tg with
 | .Name x _ => if noSet iter then (locD c x).bind fun i => (I iter).map fun src => sFor i src rb else none
 | .Tuple es _ _ => (twoN es).bind fun (x, _, y, _) => (enumD c iter).bind fun (a, _) => (locD c x).bind fun i => (locD c y).bind fun j => (Es [a]).map fun rr => sForE i j rr rb
 | _ => none
mutual
noncomputable def denS : Nat → FC → Stmt → Option RunS
 | 0, _, _ => none
 | n + 1, c, s => match s with
  | .Return v _ => (match v with
   | none => some sRetN
   | some e => (denE n c e).map sRet)
  | .Pass _ => some sPass
  | .Break _ => some sBrk
  | .Continue _ => some sCnt
  | .Assign ts e _ => asgD c (denE n c) e ts
  | .If t a b _ => (denT n c t).bind fun rt => (denSs n c a).bind fun ra => (denSs n c b).map fun rb => sIf rt ra rb
  | .For tg iter body orelse _ => (match orelse with
   | [] => if !c.cm then none else (denSs n c body).bind fun rb => forD c (denI n c) (denEs n c) rb tg iter
   | _ :: _ => none)
  | .Expr e _ => if isComp e then none else (denE n c e).map sDrop
  | _ => none
noncomputable def denSs : Nat → FC → List Stmt → Option RunS
 | 0, _, _ => none
 | n + 1, c, ss => match ss with
  | [] => some sPass
  | s :: ss => (denS n c s).bind fun a => (denSs n c ss).map fun b => sSeq a b
end
structure XS (c : FC) (X : Cx) : Prop extends XOK c X where
 fnx : ∀ x, X.fn x = true
 own' : PassesOwn (model X.prog X.w) X.A X.env X.xe
structure SoundS (n : Nat) : Prop where
 s : ∀ (c : FC) (X : Cx) (s : Stmt) (r : RunS), XS c X → denS n c s = some r → PDS X s r
 ss : ∀ (c : FC) (X : Cx) (s : List Stmt) (r : RunS), XS c X → denSs n c s = some r → PDSs X s r
theorem loc_pg {c : FC} {X : Cx} {x : Str} {i : Nat} {p : Pos} (xo : XS c X) (h : locD c x = some i) : PG X (.Name x p) (gName i) := by
 obtain ⟨hl, hi⟩ := locD_ok h
 exact pg_name (by rw [xo.N]; exact xo.nd) (by rw [xo.N]; exact slot_get hi) (by show X.env.scope.names.lookup x = _ ∨ _; rw [xo.sc]; exact hl) (.inl (xo.fnx x))
theorem set_sound {n : Nat} {c : FC} {X : Cx} {x : Str} {i : Nat} {e : Expr} {r : Run} {p pos : Pos} (xo : XS c X) (hl : locD c x = some i) (hodd : oddC c e = false) (he : denE n c e = some r) : PDS X (.Assign [.Name x p] e pos) (sSet i r) := by
 obtain ⟨hl, hi⟩ := locD_ok hl
 have hN : X.N.Nodup := by rw [xo.N]; exact xo.nd
 have hx : X.N[i]? = some x := by rw [xo.N]; exact slot_get hi
 have hL : Loc X.env.scope x := by show X.env.scope.names.lookup x = _ ∨ _; rw [xo.sc]; exact hl
 have hp := (sound n).e c X e r xo.toXOK he
 have plain : swapsWith e (some (.Name x p)) pos.line X.env = pure false → PDS X (.Assign [.Name x p] e pos) (sSet i r) := fun h => pds_set hN hx hL hp h (.inl (xo.fnx x))
 cases e with
 | ListComp elt gens scope cpos =>
  cases hb : X.env.blockKind == .function && X.env.kindOf x == some .local && p.line == cpos.line && !(scope.names.any fun (n, k) => n == x && (k == .local || k == .cell)) with
  | false => exact plain (congrArg pure hb)
  | true =>
   have hloc : X.env.scope.names.lookup x = some .local := by
    simp only [Bool.and_eq_true] at hb
    exact eq_of_beq hb.1.1.2
   cases n with
   | zero => unfold denE at he; cases he
   | succ n => unfold denE at he; exact PS.imp ((sd_comp (sound n) xo.toXOK he).2 hodd hN hx hloc (congrArg pure hb)) fun D σ H h => asg_set h
 | SetComp _ _ _ _ => cases n <;> (unfold denE at he; cases he)
 | DictComp _ _ _ _ _ => cases n <;> (unfold denE at he; cases he)
 | _ => exact plain rfl
theorem ss_asg {n : Nat} {c : FC} {X : Cx} {e : Expr} {ts : List Expr} {r : RunS} {pos : Pos} (xo : XS c X) (h : asgD c (denE n c) e ts = some r) : PDS X (.Assign ts e pos) r := by
 cases ts with
 | nil => cases h
 | cons t ts =>
  cases ts with
  | cons _ _ => cases h
  | nil =>
   cases t <;> first | (cases h; done) | skip
   ·rename_i o i p
    have h : (if isComp e || isTup e || !plainIx i then none else (denE n c o).bind fun ro => (denE n c i).bind fun ri => (denE n c e).map fun rv => sSetIx ro ri rv) = some r := h
    cases hc1 : isComp e with
    | true => rw [hc1] at h; cases h
    | false =>
     cases hc2 : isTup e with
     | true => rw [hc1, hc2] at h; cases h
     | false =>
      cases hc3 : plainIx i with
      | false => rw [hc1, hc2, hc3] at h; cases h
      | true =>
       rw [hc1, hc2, hc3] at h
       obtain ⟨ro, ho, h⟩ := ob h
       obtain ⟨ri, hi, h⟩ := ob h
       obtain ⟨rv, hv, rfl⟩ := om h
       have po := (sound n).e c X o ro xo.toXOK ho
       have pi := (sound n).e c X i ri xo.toXOK hi
       refine pds_setIx (by have := xo.units; omega) po pi ((sound n).e c X e rv xo.toXOK hv) (fun hs => pg_sub po pi hs (by intro v; cases i <;> first | rfl | exact absurd (show false = true from hc3) Bool.false_ne_true)) (show swapsWith e (some (.Subscript o i p)) pos.line X.env = pure false from noComp_swaps hc1) ?_ (noComp_swaps hc1)
       cases e <;> first | rfl | exact absurd (show true = false from hc2) (by decide)
   ·obtain ⟨ho, h⟩ := oite3 h
    obtain ⟨i, hi, h⟩ := ob h
    obtain ⟨ra, ha, rfl⟩ := om h
    exact set_sound xo hi ho ha
theorem ss_for {n : Nat} {c : FC} {X : Cx} {tg iter : Expr} {body : List Stmt} {rb r : RunS} {pos : Pos} (ih : SoundS n) (xo : XS c X) (hcm : c.cm = true) (hb : denSs n c body = some rb) (h : forD c (denI n c) (denEs n c) rb tg iter = some r) : PDS X (.For tg iter body [] pos) r := by
 cases tg <;> first | (cases h; done) | skip
 ·rename_i x p
  obtain ⟨hs, h⟩ := oite h
  obtain ⟨i, hi, h⟩ := ob h
  obtain ⟨src, hsrc, rfl⟩ := om h
  exact pds_for xo.own' (xo.calm hcm) ((sound n).i c X x p iter src xo.toXOK hsrc) (loc_pg xo hi) (ih.ss c X body rb xo hb) (noSet_fold hs)
 ·obtain ⟨⟨x, p, y, q⟩, he, h⟩ := ob h
  obtain ⟨⟨a, e'⟩, hz, h⟩ := ob h
  obtain ⟨i, hi, h⟩ := ob h
  obtain ⟨j, hj, h⟩ := ob h
  obtain ⟨rr, hr, rfl⟩ := om h
  have he := twoN_ok he
  obtain ⟨zp, kd, vp, kp, cp, hz, ha, hl, hw⟩ := enumD_ok hz
  subst he hz
  exact pds_forE xo.own' (xo.calm hcm) (pi_enumD xo.toXOK hl hw ha ((sound n).es c X _ rr xo.toXOK hr)) (loc_pg xo hi) (loc_pg xo hj) (ih.ss c X body rb xo hb)
theorem soundS : ∀ n, SoundS n
 | 0 => ⟨fun _ _ _ _ _ h => by (unfold denS at h; cases h), fun _ _ _ _ _ h => by (unfold denSs at h; cases h)⟩
 | n + 1 => by
  have ih := soundS n
  refine ⟨fun c X s r xo h => ?_, fun c X ss r xo h => ?_⟩
  ·unfold denS at h
   cases s with
   | Return v pos =>
    cases v with
    | none => cases h; exact pds_retN
    | some e => obtain ⟨ra, ha, rfl⟩ := om h; exact pds_ret ((sound n).e c X e ra xo.toXOK ha)
   | Pass _ => cases h; exact pds_pass
   | Break _ => cases h; exact pds_brk
   | Continue _ => cases h; exact pds_cnt
   | Assign ts e pos => exact ss_asg xo h
   | If t a b pos =>
    obtain ⟨rt, ht, h⟩ := ob h
    obtain ⟨ra, ha, h⟩ := ob h
    obtain ⟨rb, hb, rfl⟩ := om h
    exact pds_if ((sound n).t c X t rt xo.toXOK ht) (ih.ss c X a ra xo ha) (ih.ss c X b rb xo hb)
   | For tg iter body orelse pos =>
    cases orelse with
    | cons _ _ => cases h
    | nil =>
     obtain ⟨hcm, h⟩ := oite2 h
     obtain ⟨rb, hb, h⟩ := ob h
     exact ss_for ih xo hcm hb h
   | Expr e pos =>
    have h : (if isComp e then none else (denE n c e).map sDrop) = some r := h
    cases hc : isComp e with
    | true => rw [hc] at h; cases h
    | false =>
     rw [hc] at h
     obtain ⟨ra, ha, rfl⟩ := om h
     exact pds_drop ((sound n).e c X e ra xo.toXOK ha) (noComp_swaps hc)
   | _ => cases h
  ·unfold denSs at h
   cases ss with
   | nil => cases h; exact pdss_nil
   | cons s ss =>
    obtain ⟨ra, ha, h⟩ := ob h
    obtain ⟨rb, hb, rfl⟩ := om h
    exact pdss_cons (ih.s c X s ra xo ha) (ih.ss c X ss rb xo hb)
def scopeOk (N ps : List Str) (sc : Scope) : Bool :=
 (sc.kind == .function) && !sc.isCoroutine && !sc.isGenerator && decide N.Nodup && decide (N.take ps.length = ps) && ps.all (fun x => sc.names.lookup x == some .local || sc.names.lookup x == some .cell) && sc.names.all (fun y => y.2 != .free)
theorem scopeOk_ok {N ps : List Str} {sc : Scope} (h : scopeOk N ps sc = true) : FnScope N ps sc := by
 unfold scopeOk at h
 simp only [Bool.and_eq_true, List.all_eq_true, decide_eq_true_eq, beq_iff_eq, Bool.not_eq_true', Bool.or_eq_true] at h
 obtain ⟨⟨⟨⟨⟨⟨h1, h2⟩, h3⟩, h4⟩, h5⟩, h6⟩, h7⟩ := h
 exact ⟨h1, h2, h3, h4, h5, fun x hx => h6 x hx, fun y hy e => by have := h7 y hy; rw [e] at this; cases this⟩
structure TX (P : Program) (w : World) (K : PySem.W.Frag) (mg : Str → Option Value) (base : Heap) (gl : List (Str × GV)) (k : Nat) : Prop where
 con : ∀ x w', gl.lookup x = some (.con w') → ∃ u v, mg x = some u ∧ RelV v u ∧ ∀ ι N G, RelW K ι N G v w'
 fn : ∀ x n op, gl.lookup x = some (.fn n op) → ∃ f fd ps, FnOk P w K mg base CX0 k f fd ps (SpD K n op) ∧ mg x = some (.ref f) ∧ PySem.W.keepIn K (.ref f) = true ∧ Binds K fd ps [] ∧ ps.length = n
 blt : ∀ x, gl.lookup x = some .blt → mg x = none
 fx : ∀ x n b op, gl.lookup x = some (.fx n b op) → ∃ f fd ps, FnX b P w K mg base k f fd ps (SpX K n op) ∧ mg x = some (.ref f) ∧ PySem.W.keepIn K (.ref f) = true ∧ Binds K fd ps [] ∧ ps.length = n
 exc : ∀ y own tab, gl.lookup y = some (.exc own tab) → ∃ cv vc, ExcOk K mg y own tab cv vc
 dcon : ∀ x ks ws, gl.lookup x = some (.dcon ks ws) → KDs P w K mg x ks ws
theorem def_ok {P : Program} {w : World} {K : PySem.W.Frag} {mg : Str → Option Value} {base : Heap} {gl : List (Str × GV)} {k n : Nat} {x qual : Str} {st : Stmt} {f : Addr} {fd : FuncData} {N ps : List Str} {mts : List (Nat × Nat)} {fz : Nat} {run : RunS} (T : TX P w K mg base gl k) (F : Fun K x qual st f fd) (hs : scopeOk N ps (defScope st) = true)
  (hd : denSs n ⟨N, defScope st, gl, mts, true, false⟩ (defBody st) = some run) : FnOk P w K mg base CX0 (k + 3) f fd ps (SpD K ps.length (callOp ps.length N.length fz run)) := by
 have Sc := scopeOk_ok hs
 refine fn_body (k := k + 2) F Sc fun cdv A outer s H E hr => (soundS n).ss ⟨N, defScope st, gl, mts, true, false⟩ _ _ run ⟨⟨rfl, Sc.nd, rfl, fun _ => rfl, fun _ => hr.hd, (by have h := hr.un; show (A.deeper (envOfC qual (defScope st) s.heap.objs.size f cdv)).units + 80 < cLine; omega), fun y hy => ?_, T.con, fun _ x n op h => ?_, T.blt, fun x n b op h => ?_, T.exc, (fun z => Bool.noConfusion z), T.dcon⟩, fun _ => rfl, PassesOwn.never⟩ hd
 ·rcases hy with hy | hy
  ·exact PySem.W.cellsFrom_some _ _ _ (.inl hy)
  ·exact absurd rfl (Sc.nofree _ (PySem.mem_of_lookup hy))
 ·obtain ⟨f, fd, ps, h1, h2, h3, h4, h5⟩ := T.fn x n op h
  exact ⟨k, f, fd, ps, h1, hr, h2, h3, h4, h5⟩
 ·obtain ⟨f, fd, ps, h1, h2, h3, h4, h5⟩ := T.fx x n b op h
  exact ⟨k, f, fd, ps, h1, ⟨(fun z => Bool.noConfusion z), hr.dp, hr.un⟩, h2, h3, h4, h5⟩
end DL
namespace DL
open PySem PySem.Spec PyProof.Rows L2
structure DefAt (K : PySem.W.Frag) (mg : Str → Option Value) (x : Str) (st : Stmt) (ps : List Str) : Prop where
 ex : ∃ f fd, Fun K x x st f fd ∧ mg x = some (.ref f) ∧ Binds K fd ps []
theorem defAt_mk {K : PySem.W.Frag} {h : Heap} {mg : Str → Option Value} {x : Str} {st : Stmt} {ps : List Str} {f : Addr} {oc : Value} {od an : Option Addr} {osl : Array (Option Value)} {kV doc pm cdv ct : Value} (X : K.In h) (G : h.Ns mainGlobals mg)
  (a : PySem.W.nsIn K mainGlobals x = some (some (.ref f))) (l : K.lookup f = some ⟨oc, od, .func (PySem.W.fnOf x x (defArgs st) (defBody st) (defScope st) .none kV doc pm an cdv ct), osl⟩)
  (c : PySem.W.codeIn K cdv x = true) (k : PySem.W.keepIn K (.ref f) = true)
  (hb : ∀ (kV doc pm : Value) (an : Option Addr) (cdv ct : Value) (us : List Value), us.length = ps.length → bindArgs (PySem.W.fnOf x x (defArgs st) (defBody st) (defScope st) .none kV doc pm an cdv ct) ⟨us, []⟩ = pure (ps.zip us)) : DefAt K mg x st ps :=
 have F := fun_mk (st := st) l c k
 ⟨_, _, F, PySem.W.mg_of X G a, F.binds hb⟩
section
variable {P : Program} {w : World} {K : PySem.W.Frag} {mg : Str → Option Value} {base : Heap} {gl : List (Str × GV)} {k : Nat}
theorem TX.mono {k' : Nat} (h : TX P w K mg base gl k) (hk : k ≤ k') : TX P w K mg base gl k' :=
 ⟨h.con, fun x n op e => let ⟨f, fd, ps, h1, h2⟩ := h.fn x n op e; ⟨f, fd, ps, h1.mono hk, h2⟩, h.blt, fun x n b op e => let ⟨f, fd, ps, h1, h2⟩ := h.fx x n b op e; ⟨f, fd, ps, h1.mono hk, h2⟩, h.exc, h.dcon⟩
def GOk (P : Program) (w : World) (K : PySem.W.Frag) (mg : Str → Option Value) (base : Heap) (k : Nat) (x : Str) : GV → Prop
 | .con w' => ∃ u v, mg x = some u ∧ RelV v u ∧ ∀ ι N G, RelW K ι N G v w'
 | .fn n op => ∃ f fd ps, FnOk P w K mg base CX0 k f fd ps (SpD K n op) ∧ mg x = some (.ref f) ∧ PySem.W.keepIn K (.ref f) = true ∧ Binds K fd ps [] ∧ ps.length = n
 | .blt => mg x = none
 | .fx n b op => ∃ f fd ps, FnX b P w K mg base k f fd ps (SpX K n op) ∧ mg x = some (.ref f) ∧ PySem.W.keepIn K (.ref f) = true ∧ Binds K fd ps [] ∧ ps.length = n
 | .exc own tab => ∃ cv vc, ExcOk K mg x own tab cv vc
 | .dcon ks ws => KDs P w K mg x ks ws
theorem TX.get (h : TX P w K mg base gl k) {x : Str} {g : GV} (q : gl.lookup x = some g) : GOk P w K mg base k x g := by
 cases g with
 | con w' => exact h.con x w' q
 | fn n op => exact h.fn x n op q
 | blt => exact h.blt x q
 | fx n b op => exact h.fx x n b op q
 | exc own tab => exact h.exc x own tab q
 | dcon ks ws => exact h.dcon x ks ws q
theorem TX.of (h : ∀ x g, gl.lookup x = some g → GOk P w K mg base k x g) : TX P w K mg base gl k :=
 ⟨fun x w' q => h x _ q, fun x n op q => h x _ q, fun x q => h x _ q, fun x n b op q => h x _ q, fun x own tab q => h x _ q, fun x ks ws q => h x _ q⟩
theorem TX.add {x : Str} {g : GV} (h : TX P w K mg base gl k) (e : GOk P w K mg base k x g) : TX P w K mg base ((x, g) :: gl) k := TX.of fun y g' q => by
 rw [List.lookup_cons] at q
 cases hy : y == x with
 | true =>
  rw [hy] at q
  cases q
  have := eq_of_beq hy
  subst this
  exact e
 | false => rw [hy] at q; exact h.get q
theorem TX.cons {x : Str} {n : Nat} {op : OpN} (h : TX P w K mg base gl k) (e : ∃ f fd ps, FnOk P w K mg base CX0 k f fd ps (SpD K n op) ∧ mg x = some (.ref f) ∧ PySem.W.keepIn K (.ref f) = true ∧ Binds K fd ps [] ∧ ps.length = n) : TX P w K mg base ((x, .fn n op) :: gl) k := h.add e
theorem TX.fnOf {x : Str} {st : Stmt} {N ps : List Str} {mts : List (Nat × Nat)} {fz : Nat} {run : RunS} {n : Nat} (T : TX P w K mg base gl k) (D : DefAt K mg x st ps) (hs : scopeOk N ps (defScope st) = true) (hd : denSs n ⟨N, defScope st, gl, mts, true, false⟩ (defBody st) = some run) :
  ∃ f fd ps', FnOk P w K mg base CX0 (k + 3) f fd ps' (SpD K ps.length (callOp ps.length N.length fz run)) ∧ mg x = some (.ref f) ∧ PySem.W.keepIn K (.ref f) = true ∧ Binds K fd ps' [] ∧ ps'.length = ps.length := by
 obtain ⟨f, fd, F, hm, hb⟩ := D.ex
 exact ⟨f, fd, ps, def_ok T F hs hd, hm, F.kp, hb, rfl⟩
theorem TX.nil {w0 : Nat} : TX P w K mg base [] w0 := TX.of fun _ _ h => by cases h
theorem TX.blt1 {x : Str} (h : TX P w K mg base gl k) (hm : mg x = none) : TX P w K mg base ((x, .blt) :: gl) k := h.add hm
end
def st0 : S := ⟨0, fun _ => none⟩
theorem sp_start {K : PySem.W.Frag} {H : Hp} {a : Addr} {ns : List Int} {op : OpN} (hS : SqL K H a (ns.map V.int)) (h : ∃ st', op [.lst (ns.map W.int)] st0 = .ok (.bl true) st') : SpD K 1 op [.ref a] H (fun v _ => v = .bl true) fun _ _ _ => False := by
 obtain ⟨st', e⟩ := h
 refine ⟨rfl, fun _ => 0, H, st0, [.lst (ns.map W.int)], ⟨Same.refl H, fun n o q => (by cases q), fun n m o o' q => (by cases q)⟩, .cons (.lst hS (RelWs.ofInts ns)) .nil, ?_⟩
 rw [e]
 intro v ι' G' H' _ _ r
 cases r; rfl
theorem walkD {l : PySem.W.OpenLaw} {q : Program} {loose : List Str} {XP : (Str → Option Value) → Heap → Prop} {YP : World → Heap → Prop} {d : DefRec} {K : Params → PySem.W.Frag} {op : OpN} {k : Nat} {x : Str} (hn : l.most = some 63) (hdf : d.params.defaults = []) (hr : Room k callerA)
  (hY : ∀ (w : World) (h : Heap), YP w h → (K w.params).In h) (hop : ∀ ns : List Int, ns.length ≤ 63 → ∃ st', op [.lst (ns.map W.int)] st0 = .ok (.bl true) st')
  (F : ∀ (w : World) (mg : Str → Option Value) (fa : Addr) (h : Heap), (K w.params).In h → h.Ns mainGlobals mg → mg d.name = some (.ref fa) →
   ∃ fd : FuncData, (∀ (s : Shared) (u : Value), BindsTo s fd ⟨[u], []⟩ [(x, u)]) ∧ ∀ base : Heap, (K w.params).In base → base.Ns mainGlobals mg → FnOk l.prog w (K w.params) mg base CX0 k fa fd [x] (SpD (K w.params) 1 op)) :
  PySem.W.WalkO q loose XP YP l.row.toRowW d [] (fun f vs => PySem.call f vs) :=
 L2.walk_of (n := 63) (k := k) (x := x) (CX := fun _ => CX0) (sp := fun w => SpD (K w.params) 1 op) hn (by decide) hdf hr hY F (fun _ _ a ns hl _ hS => sp_start hS (hop ns hl)) fun _ _ _ _ _ z => z
end DL
namespace DL
open PySem PySem.Spec PyProof.Rows L2
section
variable {α β : Type} {st : S} {Γ : Ga}
theorem ev_ok (a : α) (s : S) (f : α → S → R β) : (R.ok a s).bind f = f a s := Eq.trans rfl rfl
theorem ev_calm (a : α) (s : S) : (R.ok a s).calm = R.ok a s := Eq.trans rfl rfl
def kIf (A B : S → R α) (w : W) (s : S) : R α := match w with
 | .bl true => A s
 | .bl false => B s
 | _ => .stuck
theorem kIf_bl (A B : S → R α) (b : Bool) (s : S) : kIf A B (.bl b) s = if b = true then A s else B s := by cases b <;> rfl
def kSeq (b : RunS) (fl : Fl) (s : S) : R Fl := match fl with
 | .nx Γ' => b Γ' s
 | fl => .ok fl s
theorem kSeq_nx (b : RunS) (Γ : Ga) (s : S) : kSeq b (.nx Γ) s = b Γ s := Eq.trans rfl rfl
theorem kSeq_rt (b : RunS) (w : W) (s : S) : kSeq b (.rt w) s = .ok (.rt w) s := Eq.trans rfl rfl
theorem ev_seq (a b : RunS) : sSeq a b Γ st = (a Γ st).bind (kSeq b) := Eq.trans rfl rfl
theorem ev_if (rc : Run) (a b : RunS) : sIf rc a b Γ st = (rc Γ st).bind (kIf (a Γ) (b Γ)) := Eq.trans rfl rfl
theorem ev_ret (r : Run) : sRet r Γ st = (r Γ st).bind fun w s => .ok (.rt w) s := Eq.trans rfl rfl
theorem ev_pass : sPass Γ st = .ok (.nx Γ) st := Eq.trans rfl rfl
theorem ev_v0 (w : W) : rVar 0 (some w :: Γ) st = .ok w st := Eq.trans rfl rfl
theorem ev_v1 (a : Option W) (w : W) : rVar 1 (a :: some w :: Γ) st = .ok w st := Eq.trans rfl rfl
theorem ev_v2 (a b : Option W) (w : W) : rVar 2 (a :: b :: some w :: Γ) st = .ok w st := Eq.trans rfl rfl
theorem ev_v3 (a b c : Option W) (w : W) : rVar 3 (a :: b :: c :: some w :: Γ) st = .ok w st := Eq.trans rfl rfl
theorem ev_v5 (a b c d e : Option W) (w : W) : rVar 5 (a :: b :: c :: d :: e :: some w :: Γ) st = .ok w st := Eq.trans rfl rfl
theorem ev_v6 (a b c d e f : Option W) (w : W) : rVar 6 (a :: b :: c :: d :: e :: f :: some w :: Γ) st = .ok w st := Eq.trans rfl rfl
theorem ev_v7 (a b c d e f g : Option W) (w : W) : rVar 7 (a :: b :: c :: d :: e :: f :: g :: some w :: Γ) st = .ok w st := Eq.trans rfl rfl
theorem ev_v8 (a b c d e f g h : Option W) (w : W) : rVar 8 (a :: b :: c :: d :: e :: f :: g :: h :: some w :: Γ) st = .ok w st := Eq.trans rfl rfl
theorem ev_v9 (a b c d e f g h i : Option W) (w : W) : rVar 9 (a :: b :: c :: d :: e :: f :: g :: h :: i :: some w :: Γ) st = .ok w st := Eq.trans rfl rfl
theorem ev_rng1 (r : Run) (i : Int) (h : r Γ st = .ok (.int i) st) (h0 : -4611686018427387904 ≤ i) (h1 : i < 4611686018427387904) : runRng1 r Γ st = .ok (rangeW 0 i.toNat) st := by
 unfold runRng1
 rw [h]
 exact if_pos ⟨h0, h1⟩
def kLo (m : Bool) (w l : W) (s : S) : R W := match l with
 | .int i => opSl m (some i) none w s
 | _ => .stuck
theorem kLo_int (m : Bool) (w : W) (i : Int) (s : S) : kLo m w (.int i) s = opSl m (some i) none w s := Eq.trans rfl rfl
theorem ev_slSN (m : Bool) (a b : Run) : runSlSN m a b Γ st = (a Γ st).bind fun w s => (b Γ s).bind fun l s => kLo m w l s := Eq.trans rfl rfl
theorem ev_slT (ws : List W) (lo hi : Option Int) : opSl false lo hi (.tup ws) st = .ok (.tup (cutW ws lo hi)) st := Eq.trans rfl rfl
theorem ev_con (w : W) : rCon w Γ st = .ok w st := Eq.trans rfl rfl
theorem ev_run2 (a b : Run) (o : Op2) : run2 a b o Γ st = (a Γ st).bind fun x s => (b Γ s).bind fun y s => o x y s := Eq.trans rfl rfl
theorem ev_runN (rr : Runs) (o : OpN) : DL.runN rr o Γ st = (rr Γ st).bind o := Eq.trans rfl rfl
theorem ev_calmOp (o : OpN) (ws : List W) : calmOp o ws st = (o ws st).calm := Eq.trans rfl rfl
theorem ev_nil : runsNil Γ st = .ok [] st := Eq.trans rfl rfl
theorem ev_cons (r : Run) (rr : Runs) : runsCons r rr Γ st = (r Γ st).bind fun w s => (rr Γ s).bind fun ws s => .ok (w :: ws) s := Eq.trans rfl rfl
theorem ev_and (a b : Run) : runAnd a b Γ st = (a Γ st).bind (kIf (b Γ) (fun s => .ok (.bl false) s)) := Eq.trans rfl rfl
theorem ev_or (a b : Run) : runOr a b Γ st = (a Γ st).bind (kIf (fun s => .ok (.bl true) s) (b Γ)) := Eq.trans rfl rfl
def kNot (w : W) (s : S) : R W := match w with
 | .bl b => .ok (.bl (!b)) s
 | _ => .stuck
theorem kNot_bl (b : Bool) (s : S) : kNot (.bl b) s = .ok (.bl (!b)) s := Eq.trans rfl rfl
theorem ev_not (a : Run) : runNot a Γ st = (a Γ st).bind kNot := Eq.trans rfl rfl
theorem ev_runIf (c a b : Run) : runIf c a b Γ st = (c Γ st).bind (kIf (a Γ) (b Γ)) := Eq.trans rfl rfl
theorem ev_rtL (s0 s : S) (w : W) : leave 2 s0 (.ok (.rt w) s) = keepL s0 s w := Eq.trans rfl rfl
theorem ev_rtK (s0 s : S) (w : W) : leave 1 s0 (.ok (.rt w) s) = keep s0 s w := Eq.trans rfl rfl
theorem ev_op1 (nl fz : Nat) (run : RunS) (w : W) : callOp 1 nl fz run [w] st = leave fz st (run (some w :: List.replicate (nl - 1) none) st) := Eq.trans rfl rfl
theorem ev_op2 (nl fz : Nat) (run : RunS) (w w' : W) : callOp 2 nl fz run [w, w'] st = leave fz st (run (some w :: some w' :: List.replicate (nl - 2) none) st) := Eq.trans rfl rfl
theorem ev_op3 (nl fz : Nat) (run : RunS) (w w' w2 : W) : callOp 3 nl fz run [w, w', w2] st = leave fz st (run (some w :: some w' :: some w2 :: List.replicate (nl - 3) none) st) := Eq.trans rfl rfl
theorem ev_addI (i j : Int) : opAdd (.int i) (.int j) st = .ok (.int (i + j)) st := Eq.trans rfl rfl
theorem ev_mulI (i j : Int) (h : CMul i j) : opMul (.int i) (.int j) st = .ok (.int (i * j)) st := if_pos h
theorem ev_mulR (i j : Int) (h0 : -1000000 ≤ j) (h1 : j ≤ 1000000) : opMul (.int i) (.int j) st = .ok (.int (i * j)) st := ev_mulI i j (.inr ⟨by omega, by omega⟩)
theorem ev_mulL (i j : Int) (h0 : -1000000 ≤ i) (h1 : i ≤ 1000000) : opMul (.int i) (.int j) st = .ok (.int (i * j)) st := ev_mulI i j (.inl ⟨by omega, by omega⟩)
theorem ev_divI (i j : Int) (h : 0 < j) (h' : j < 1073741824) : opDiv (.int i) (.int j) st = .ok (.int (i / j)) st := if_pos ⟨h, h'⟩
theorem ev_modI (i j : Int) (h : 0 < j) : opMod (.int i) (.int j) st = .ok (.int (i % j)) st := if_pos h
theorem ev_ltI (i j : Int) : opLt (.int i) (.int j) st = .ok (.bl (decide (i < j))) st := Eq.trans rfl rfl
theorem ev_gtI (i j : Int) : opGt (.int i) (.int j) st = .ok (.bl (decide (j < i))) st := Eq.trans rfl rfl
theorem ev_eqI (i j : Int) : opEq (.int i) (.int j) st = .ok (.bl (i == j)) st := Eq.trans rfl rfl
theorem ev_eqS (i j : Str) : opEq (.str i) (.str j) st = .ok (.bl (i == j)) st := Eq.trans rfl rfl
theorem ev_addS (x y : Str) (h : x.length + y.length ≤ sizeLine) : opAdd (.str x) (.str y) st = .ok (.str (x ++ y)) st := if_pos h
theorem ev_lenL (xs : List W) : opLen [.lst xs] st = .ok (.int xs.length) st := Eq.trans rfl rfl
theorem ev_lenT (xs : List W) : opLen [.tup xs] st = .ok (.int xs.length) st := Eq.trans rfl rfl
theorem ev_lst (ws : List W) (h : ws.length ≤ sizeLine) : opL false ws st = .ok (.lst ws) st := if_pos h
theorem ev_tup (ws : List W) (h : ws.length ≤ sizeLine) : opTup ws st = .ok (.tup ws) st := if_pos h
theorem ev_idxL (ws : List W) (i : Int) (w : W) (h : atI ws i = some w) : opIdx (.lst ws) (.int i) st = .ok w st := by
 show (match atI ws i with | some w => R.ok w st | none => .stuck) = _
 rw [h]
theorem ev_idxT (ws : List W) (i : Int) (w : W) (h : atI ws i = some w) : opIdx (.tup ws) (.int i) st = .ok w st := by
 show (match atI ws i with | some w => R.ok w st | none => .stuck) = _
 rw [h]
theorem size_small {n : Nat} (h : n ≤ 1000) : n ≤ sizeLine := Nat.le_of_lt (small1000 h)
theorem at_in {γ : Type} (xs : List γ) (i : Int) (h0 : 0 ≤ i) (h1 : i < xs.length) : ∃ x, atI xs i = some x ∧ x ∈ xs := by
 have hj : i.toNat < xs.length := by omega
 refine ⟨xs[i.toNat], ?_, List.getElem_mem hj⟩
 have e : ((i.toNat : Nat) : Int) = i := by omega
 have h := atI_nat (xs := xs) (j := i.toNat) (List.getElem?_eq_getElem hj)
 rw [e] at h
 exact h
theorem at_nat {γ : Type} (xs : List γ) (k : Nat) (x : γ) (h : xs[k]? = some x) : atI xs (k : Int) = some x := atI_nat h
theorem idx0T (x : W) (xs : List W) : opIdx (.tup (x :: xs)) (.int 0) st = .ok x st := ev_idxT _ 0 x (at_nat (x :: xs) 0 x rfl)
theorem idx1T (x y : W) (xs : List W) : opIdx (.tup (x :: y :: xs)) (.int 1) st = .ok y st := ev_idxT _ 1 y (at_nat (x :: y :: xs) 1 y rfl)
theorem idx2T (x y z : W) (xs : List W) : opIdx (.tup (x :: y :: z :: xs)) (.int 2) st = .ok z st := ev_idxT _ 2 z (at_nat (x :: y :: z :: xs) 2 z rfl)
theorem ev_isi (w : W) (T : String) : opIsi [w, .ty T] st = if kinds.contains T then (match kindW st w with | some k => .ok (.bl (isKind k T)) st | none => .stuck) else .stuck := Eq.trans rfl rfl
end
section
variable {st : S} {Γ : Ga}
def kSet (i : Nat) (Γ : Ga) (w : W) (s : S) : R Fl := .ok (.nx (Γ.set i (some w))) s
def kDrop (Γ : Ga) (_ : W) (s : S) : R Fl := .ok (.nx Γ) s
def kFor (i : Nat) (body : RunS) (Γ : Ga) (items : List W) (s : S) : R Fl := loopS i body items Γ s
theorem kDrop_ (Γ : Ga) (w : W) (s : S) : kDrop Γ w s = .ok (.nx Γ) s := Eq.trans rfl rfl
theorem kFor_ (i : Nat) (body : RunS) (Γ : Ga) (items : List W) (s : S) : kFor i body Γ items s = loopS i body items Γ s := Eq.trans rfl rfl
theorem ks1 (a z : Option W) (Γ : Ga) (w : W) (s : S) : kSet 1 (a :: z :: Γ) w s = .ok (.nx (a :: some w :: Γ)) s := Eq.trans rfl rfl
theorem ks2 (a b z : Option W) (Γ : Ga) (w : W) (s : S) : kSet 2 (a :: b :: z :: Γ) w s = .ok (.nx (a :: b :: some w :: Γ)) s := Eq.trans rfl rfl
theorem ks3 (a b c z : Option W) (Γ : Ga) (w : W) (s : S) : kSet 3 (a :: b :: c :: z :: Γ) w s = .ok (.nx (a :: b :: c :: some w :: Γ)) s := Eq.trans rfl rfl
theorem ks4 (a b c d z : Option W) (Γ : Ga) (w : W) (s : S) : kSet 4 (a :: b :: c :: d :: z :: Γ) w s = .ok (.nx (a :: b :: c :: d :: some w :: Γ)) s := Eq.trans rfl rfl
theorem ks5 (a b c d e z : Option W) (Γ : Ga) (w : W) (s : S) : kSet 5 (a :: b :: c :: d :: e :: z :: Γ) w s = .ok (.nx (a :: b :: c :: d :: e :: some w :: Γ)) s := Eq.trans rfl rfl
theorem ks6 (a b c d e f z : Option W) (Γ : Ga) (w : W) (s : S) : kSet 6 (a :: b :: c :: d :: e :: f :: z :: Γ) w s = .ok (.nx (a :: b :: c :: d :: e :: f :: some w :: Γ)) s := Eq.trans rfl rfl
theorem ks7 (a b c d e f g z : Option W) (Γ : Ga) (w : W) (s : S) : kSet 7 (a :: b :: c :: d :: e :: f :: g :: z :: Γ) w s = .ok (.nx (a :: b :: c :: d :: e :: f :: g :: some w :: Γ)) s := Eq.trans rfl rfl
theorem ks8 (a b c d e f g h z : Option W) (Γ : Ga) (w : W) (s : S) : kSet 8 (a :: b :: c :: d :: e :: f :: g :: h :: z :: Γ) w s = .ok (.nx (a :: b :: c :: d :: e :: f :: g :: h :: some w :: Γ)) s := Eq.trans rfl rfl
theorem ks9 (a b c d e f g h i z : Option W) (Γ : Ga) (w : W) (s : S) : kSet 9 (a :: b :: c :: d :: e :: f :: g :: h :: i :: z :: Γ) w s = .ok (.nx (a :: b :: c :: d :: e :: f :: g :: h :: i :: some w :: Γ)) s := Eq.trans rfl rfl
theorem e_set (i : Nat) (r : Run) : sSet i r Γ st = (r Γ st).bind (kSet i Γ) := Eq.trans rfl rfl
theorem e_drop (r : Run) : sDrop r Γ st = (r Γ st).bind (kDrop Γ) := Eq.trans rfl rfl
theorem e_for (i : Nat) (src : Src) (body : RunS) : sFor i src body Γ st = (src Γ st).bind (kFor i body Γ) := Eq.trans rfl rfl
end
end DL
namespace DL
open PySem PySem.Spec PyProof.Rows L2
section
variable {K : PySem.W.Frag}
structure DIn (K : PySem.W.Frag) (x : Str) (st : Stmt) : Prop where
 ex : ∃ (f : Addr) (oc : Value) (od : Option Addr) (kV doc pm : Value) (an : Option Addr) (cdv ct : Value) (osl : Array (Option Value)), PySem.W.nsIn K mainGlobals x = some (some (.ref f)) ∧
  K.lookup f = some ⟨oc, od, .func (PySem.W.fnOf x x (defArgs st) (defBody st) (defScope st) .none kV doc pm an cdv ct), osl⟩ ∧ PySem.W.codeIn K cdv x = true ∧ PySem.W.keepIn K (.ref f) = true
theorem DIn.mk' {x : Str} {st : Stmt} {f : Addr} {oc : Value} {od : Option Addr} {kV doc pm : Value} {an : Option Addr} {cdv ct : Value} {osl : Array (Option Value)} (a : PySem.W.nsIn K mainGlobals x = some (some (.ref f)))
  (l : K.lookup f = some ⟨oc, od, .func (PySem.W.fnOf x x (defArgs st) (defBody st) (defScope st) .none kV doc pm an cdv ct), osl⟩) (c : PySem.W.codeIn K cdv x = true) (p : PySem.W.keepIn K (.ref f) = true) : DIn K x st := ⟨_, _, _, _, _, _, _, _, _, _, a, l, c, p⟩
theorem DIn.at_ {x : Str} {st : Stmt} {ps : List Str} {h : Heap} {mg : Str → Option Value} (X : K.In h) (G : h.Ns mainGlobals mg) (d : DIn K x st)
  (hb : ∀ (kV doc pm : Value) (an : Option Addr) (cdv ct : Value) (us : List Value), us.length = ps.length → bindArgs (PySem.W.fnOf x x (defArgs st) (defBody st) (defScope st) .none kV doc pm an cdv ct) ⟨us, []⟩ = pure (ps.zip us)) : DefAt K mg x st ps := by
 obtain ⟨_, _, _, _, _, _, _, _, _, _, a, l, c, p⟩ := d.ex
 exact defAt_mk X G a l c p hb
theorem DIn.law {x : Str} {st : Stmt} {y : Str} {h : Heap} {mg : Str → Option Value} {fa : Addr} {R : FuncData → Prop} (X : K.In h) (G : h.Ns mainGlobals mg) (d : DIn K x st) (hfa : mg x = some (.ref fa))
  (hb : ∀ (kV doc pm : Value) (an : Option Addr) (cdv ct : Value) (s : Shared) (u : Value), BindsTo s (PySem.W.fnOf x x (defArgs st) (defBody st) (defScope st) .none kV doc pm an cdv ct) ⟨[u], []⟩ [(y, u)]) (hR : ∀ fd, Fun K x x st fa fd → R fd) :
  ∃ fd : FuncData, (∀ (s : Shared) (u : Value), BindsTo s fd ⟨[u], []⟩ [(y, u)]) ∧ R fd := by
 obtain ⟨_, _, _, _, _, _, _, _, _, _, a, l, c, p⟩ := d.ex
 have e := hfa.symm.trans (PySem.W.mg_of X G a)
 cases e
 exact ⟨_, fun s u => hb _ _ _ _ _ _ s u, hR _ (fun_mk (st := st) l c p)⟩
end
end DL
namespace DL
open PySem PySem.Spec PyProof.Rows L2
def cp (z : Str) : List Nat := z.cps.toList
theorem cp_len (z : Str) : (cp z).length = z.length := by unfold cp; rw [Array.length_toList]; rfl
theorem cp_app (x y : Str) : cp (x ++ y) = cp x ++ cp y := by
 show (x.cps ++ y.cps).toList = _
 rw [Array.toList_append]; rfl
theorem cp_ext {x y : Str} (h : cp x = cp y) : x = y := by
 obtain ⟨a⟩ := x
 obtain ⟨b⟩ := y
 have : a = b := Array.toList_inj.mp h
 rw [this]
end DL
namespace DL.My
open PySem L2
def top (i : Nat) : Stmt := PySem.Challenge.pw_whyfacts_k25_drawn.main.body.getD i (.Pass ⟨0, 0, 0, 0⟩)
def gl0 : List (Str × GV) := [("enumerate", .blt), ("isinstance", .blt), ("len", .blt), ("list", .blt), ("range", .blt), ("str", .blt), ("tuple", .blt)]
abbrev s_places_in : Stmt := top 5
def N_places_in : List Str := ["row", "places", "place", "pair"]
def P_places_in : List Str := ["row"]
def M_places_in : List (Nat × Nat) := [(16, 13)]
noncomputable def r_places_in : RunS :=
 (sSeq (sSet 1 rDictN)
 (sSeq (sForE 2 3 (runsCons (rVar 0) runsNil) (sSeq (sSetIx (rVar 1) (run2 (rVar 3) (rCon (W.int 0)) opIdx) (rVar 2))
 sPass))
 (sSeq (sRet (rVar 1))
 sPass)))
noncomputable def op_places_in : OpN := callOp 1 4 2 r_places_in
abbrev s_shown_terms : Stmt := top 1
def N_shown_terms : List Str := ["terms"]
def P_shown_terms : List Str := ["terms"]
def M_shown_terms : List (Nat × Nat) := []
noncomputable def r_shown_terms : RunS :=
 (sSeq (sRet (runM "str" (rCon (W.str ", ")) (runsCons (runComp false (runSrc (rVar 0)) [] (rCon (.bl true)) (runN (runsCons (rVar 0) runsNil) opStr)) runsNil) opJoin))
 sPass)
noncomputable def op_shown_terms : OpN := callOp 1 1 0 r_shown_terms
abbrev s_l_cell_at : Stmt := top 12
def N_l_cell_at : List Str := ["_law_script", "_law_k"]
def P_l_cell_at : List Str := ["_law_script", "_law_k"]
def M_l_cell_at : List (Nat × Nat) := []
noncomputable def r_l_cell_at : RunS :=
 (sSeq (sIf (run2 (rVar 1) (runN (runsCons (rVar 0) runsNil) opLen) opLt)
  (sSeq (sRet (run2 (rVar 0) (rVar 1) opIdx))
 sPass)
  sPass)
 (sSeq (sRet (rCon (W.int 0)))
 sPass))
noncomputable def op_l_cell_at : OpN := callOp 2 2 0 r_l_cell_at
abbrev s_l_value_by : Stmt := top 13
def N_l_value_by : List Str := ["_law_cell"]
def P_l_value_by : List Str := ["_law_cell"]
def M_l_value_by : List (Nat × Nat) := []
noncomputable def r_l_value_by : RunS :=
 (sSeq (sRet (run2 (runN (runsCons (rCon (W.str "a")) (runsCons (rCon (W.str "b")) (runsCons (rCon (W.str "abcdefgh")) (runsCons (rCon (W.int 0)) (runsCons (run1 (rCon (W.int 5)) opNeg) (runsCons (rCon (W.int 999999999)) (runsCons (run1 (rCon (W.int 999999999)) opNeg) runsNil))))))) (opL false)) (run2 (rVar 0) (rCon (W.int 7)) opMod) opIdx))
 sPass)
noncomputable def op_l_value_by : OpN := callOp 1 1 0 r_l_value_by
abbrev s_l_terms : Stmt := top 18
def N_l_terms : List Str := ["_law_terms_here"]
def P_l_terms : List Str := ["_law_terms_here"]
def M_l_terms : List (Nat × Nat) := []
noncomputable def r_l_terms : RunS :=
 (sSeq (sRet (run2 (run2 (rCon (W.str "(")) (runM "str" (rCon (W.str ", ")) (runsCons (runComp false (runSrc (rVar 0)) [] (rCon (.bl true)) (runN (runsCons (rVar 0) runsNil) opStr)) runsNil) opJoin) opAdd) (rCon (W.str ")")) opAdd))
 sPass)
noncomputable def op_l_terms : OpN := callOp 1 1 0 r_l_terms
noncomputable def gl1 : List (Str × GV) := ("_law_terms", .fn 1 op_l_terms) :: ("_law_value_by", .fn 1 op_l_value_by) :: ("_law_cell_at", .fn 2 op_l_cell_at) :: ("shown_terms", .fn 1 op_shown_terms) :: ("places_in", .fn 1 op_places_in) :: gl0
abbrev s_shown_fact : Stmt := top 2
def N_shown_fact : List Str := ["fact"]
def P_shown_fact : List Str := ["fact"]
def M_shown_fact : List (Nat × Nat) := []
noncomputable def r_shown_fact : RunS :=
 (sSeq (sIf (run2 (runN (runsCons (rVar 0) runsNil) opLen) (rCon (W.int 1)) opEq)
  (sSeq (sRet (run2 (rVar 0) (rCon (W.int 0)) opIdx))
 sPass)
  sPass)
 (sSeq (sRet (run2 (run2 (run2 (run2 (rVar 0) (rCon (W.int 0)) opIdx) (rCon (W.str "(")) opAdd) (runN (runsCons (runSlSN false (rVar 0) (rCon (W.int 1))) runsNil) (calmOp op_shown_terms)) opAdd) (rCon (W.str ")")) opAdd))
 sPass))
noncomputable def op_shown_fact : OpN := callOp 1 1 0 r_shown_fact
abbrev s_l_fact_by : Stmt := top 14
def N_l_fact_by : List Str := ["_law_k", "_law_cell", "_law_values"]
def P_l_fact_by : List Str := ["_law_k", "_law_cell"]
def M_l_fact_by : List (Nat × Nat) := []
noncomputable def r_l_fact_by : RunS :=
 (sSeq (sSet 2 (runComp false (runRng1 (run2 (rVar 1) (rCon (W.int 5)) opMod)) [1] (rCon (.bl true)) (runN (runsCons (run2 (run2 (rVar 1) (rCon (W.int 5)) opDiv) (run2 (runN (runsCons (rCon (W.int 1)) (runsCons (rCon (W.int 7)) (runsCons (rCon (W.int 49)) (runsCons (rCon (W.int 343)) runsNil)))) (opL false)) (rVar 0) opIdx) opDiv) runsNil) (calmOp op_l_value_by))))
 (sSeq (sRet (runN (runsCons (run2 (runN (runsCons (run2 (runN (runsCons (rCon (W.str "road")) (runsCons (rCon (W.str "town")) (runsCons (rCon (W.str "load")) (runsCons (rCon (W.str "rain")) (runsCons (rCon (W.str "way")) (runsCons (rCon (W.str "far")) (runsCons (rCon (W.str "top")) (runsCons (rCon (W.str "cost")) (runsCons (rCon (W.str "peak")) runsNil))))))))) (opL false)) (rVar 0) opIdx) runsNil) (opL false)) (rVar 2) opAdd) runsNil) opTuple))
 sPass))
noncomputable def op_l_fact_by : OpN := callOp 2 3 0 r_l_fact_by
abbrev s_l_fact : Stmt := top 19
def N_l_fact : List Str := ["_law_fact_here"]
def P_l_fact : List Str := ["_law_fact_here"]
def M_l_fact : List (Nat × Nat) := []
noncomputable def r_l_fact : RunS :=
 (sSeq (sIf (run2 (runN (runsCons (rVar 0) runsNil) opLen) (rCon (W.int 1)) opEq)
  (sSeq (sRet (run2 (rVar 0) (rCon (W.int 0)) opIdx))
 sPass)
  sPass)
 (sSeq (sRet (run2 (run2 (rVar 0) (rCon (W.int 0)) opIdx) (runN (runsCons (runSlSN false (rVar 0) (rCon (W.int 1))) runsNil) (calmOp op_l_terms)) opAdd))
 sPass))
noncomputable def op_l_fact : OpN := callOp 1 1 0 r_l_fact
noncomputable def gl2 : List (Str × GV) := ("_law_fact", .fn 1 op_l_fact) :: ("_law_fact_by", .fn 2 op_l_fact_by) :: ("shown_fact", .fn 1 op_shown_fact) :: gl1
abbrev s_shown_part : Stmt := top 3
def N_shown_part : List Str := ["part"]
def P_shown_part : List Str := ["part"]
def M_shown_part : List (Nat × Nat) := []
noncomputable def r_shown_part : RunS :=
 (sSeq (sIf (run2 (run2 (rVar 0) (rCon (W.int 0)) opIdx) (rCon (W.str "has")) opEq)
  (sSeq (sRet (runN (runsCons (run2 (rVar 0) (rCon (W.int 1)) opIdx) runsNil) (calmOp op_shown_fact)))
 sPass)
  sPass)
 (sSeq (sIf (run2 (run2 (rVar 0) (rCon (W.int 0)) opIdx) (rCon (W.str "not")) opEq)
  (sSeq (sRet (run2 (rCon (W.str "not ")) (runN (runsCons (run2 (rVar 0) (rCon (W.int 1)) opIdx) runsNil) (calmOp op_shown_fact)) opAdd))
 sPass)
  sPass)
 (sSeq (sRet (runN (runsCons (rVar 0) runsNil) (calmOp op_shown_fact)))
 sPass)))
noncomputable def op_shown_part : OpN := callOp 1 1 0 r_shown_part
abbrev s_l_ground_by : Stmt := top 15
def N_l_ground_by : List Str := ["_law_cell", "_law_row", "_law_values"]
def P_l_ground_by : List Str := ["_law_cell", "_law_row"]
def M_l_ground_by : List (Nat × Nat) := []
noncomputable def r_l_ground_by : RunS :=
 (sSeq (sIf (runAnd (run2 (run2 (rVar 0) (rCon (W.int 3)) opMod) (rCon (W.int 0)) opGt) (run2 (runN (runsCons (rVar 1) runsNil) opLen) (rCon (W.int 0)) opGt))
  (sSeq (sRet (runN (runsCons (rCon (W.str "has")) (runsCons (run2 (run2 (rVar 1) (run2 (run2 (rVar 0) (rCon (W.int 3)) opDiv) (runN (runsCons (rVar 1) runsNil) opLen) opMod) opIdx) (rCon (W.int 0)) opIdx) runsNil)) opTup))
 sPass)
  sPass)
 (sSeq (sIf (run2 (run2 (rVar 0) (rCon (W.int 2)) opMod) (rCon (W.int 1)) opEq)
  (sSeq (sRet (runN (runsCons (rCon (W.str "not")) (runsCons (runN (runsCons (run2 (run2 (rVar 0) (rCon (W.int 6)) opDiv) (rCon (W.int 9)) opMod) (runsCons (run2 (rVar 0) (rCon (W.int 54)) opDiv) runsNil)) (calmOp op_l_fact_by)) runsNil)) opTup))
 sPass)
  sPass)
 (sSeq (sSet 2 (runComp false (runRng1 (rCon (W.int 3))) [0] (rCon (.bl true)) (runN (runsCons (run2 (run2 (rVar 1) (rCon (W.int 9)) opDiv) (run2 (runN (runsCons (rCon (W.int 1)) (runsCons (rCon (W.int 7)) (runsCons (rCon (W.int 49)) runsNil))) (opL false)) (rVar 0) opIdx) opDiv) runsNil) (calmOp op_l_value_by))))
 (sSeq (sIf (run2 (run2 (run2 (rVar 0) (rCon (W.int 6)) opDiv) (rCon (W.int 3)) opMod) (rCon (W.int 2)) opEq)
  (sSeq (sRet (runN (runsCons (rCon (W.str "plus")) (runsCons (run2 (rVar 2) (rCon (W.int 0)) opIdx) (runsCons (run2 (rVar 2) (rCon (W.int 1)) opIdx) (runsCons (run2 (rVar 2) (rCon (W.int 2)) opIdx) runsNil)))) opTup))
 sPass)
  sPass)
 (sSeq (sRet (runN (runsCons (run2 (runN (runsCons (rCon (W.str "less")) (runsCons (rCon (W.str "same")) runsNil)) (opL false)) (run2 (run2 (rVar 0) (rCon (W.int 6)) opDiv) (rCon (W.int 3)) opMod) opIdx) (runsCons (run2 (rVar 2) (rCon (W.int 0)) opIdx) (runsCons (run2 (rVar 2) (rCon (W.int 1)) opIdx) runsNil))) opTup))
 sPass)))))
noncomputable def op_l_ground_by : OpN := callOp 2 3 0 r_l_ground_by
abbrev s_l_ground : Stmt := top 20
def N_l_ground : List Str := ["_law_ground_here", "_law_row"]
def P_l_ground : List Str := ["_law_ground_here", "_law_row"]
def M_l_ground : List (Nat × Nat) := [(74, 54)]
noncomputable def r_l_ground : RunS :=
 (sSeq (sIf (run2 (run2 (rVar 0) (rCon (W.int 0)) opIdx) (rCon (W.str "has")) opEq)
  (sSeq (sRet (runN (runsCons (run2 (rCon (W.int 1)) (runM "list" (runCompL false (rVar 1) [] (run2 (rVar 0) (rCon (W.int 0)) opIdx)) (runsCons (run2 (rVar 0) (rCon (W.int 1)) opIdx) runsNil) opIndexD) opAdd) runsNil) opStr))
 sPass)
  sPass)
 (sSeq (sIf (run2 (run2 (rVar 0) (rCon (W.int 0)) opIdx) (rCon (W.str "not")) opEq)
  (sSeq (sRet (run2 (rCon (W.str "not ")) (runN (runsCons (run2 (rVar 0) (rCon (W.int 1)) opIdx) runsNil) (calmOp op_l_fact)) opAdd))
 sPass)
  sPass)
 (sSeq (sRet (run2 (run2 (rVar 0) (rCon (W.int 0)) opIdx) (runN (runsCons (runSlSN false (rVar 0) (rCon (W.int 1))) runsNil) (calmOp op_l_terms)) opAdd))
 sPass)))
noncomputable def op_l_ground : OpN := callOp 2 2 0 r_l_ground
noncomputable def gl3 : List (Str × GV) := ("_law_ground", .fn 2 op_l_ground) :: ("_law_ground_by", .fn 2 op_l_ground_by) :: ("shown_part", .fn 1 op_shown_part) :: gl2
abbrev s_drawn_ground : Stmt := top 6
def N_drawn_ground : List Str := ["ground", "places"]
def P_drawn_ground : List Str := ["ground", "places"]
def M_drawn_ground : List (Nat × Nat) := []
noncomputable def r_drawn_ground : RunS :=
 (sSeq (sIf (run2 (run2 (rVar 0) (rCon (W.int 0)) opIdx) (rCon (W.str "has")) opEq)
  (sSeq (sRet (runN (runsCons (run2 (rVar 1) (run2 (rVar 0) (rCon (W.int 1)) opIdx) opIdx) runsNil) opStr))
 sPass)
  sPass)
 (sSeq (sRet (runN (runsCons (rVar 0) runsNil) (calmOp op_shown_part)))
 sPass))
noncomputable def op_drawn_ground : OpN := callOp 2 2 0 r_drawn_ground
abbrev s_l_grounds_by : Stmt := top 16
def N_l_grounds_by : List Str := ["_law_cell", "_law_row"]
def P_l_grounds_by : List Str := ["_law_cell", "_law_row"]
def M_l_grounds_by : List (Nat × Nat) := []
noncomputable def r_l_grounds_by : RunS :=
 (sSeq (sRet (runN (runsCons (runComp false (runRng1 (run2 (rCon (W.int 1)) (run2 (rVar 0) (rCon (W.int 6)) opMod) opAdd)) [0, 1] (rCon (.bl true)) (runN (runsCons (run2 (run2 (rVar 1) (rCon (W.int 6)) opDiv) (run2 (run2 (rCon (W.int 104729)) (rVar 0) opMul) (run2 (rCon (W.int 1)) (run2 (rVar 1) (rCon (W.int 11)) opMod) opAdd) opMul) opAdd) (runsCons (rVar 2) runsNil)) (calmOp op_l_ground_by))) runsNil) opTuple))
 sPass)
noncomputable def op_l_grounds_by : OpN := callOp 2 2 0 r_l_grounds_by
abbrev s_l_grounds : Stmt := top 21
def N_l_grounds : List Str := ["_law_grounds_here", "_law_row"]
def P_l_grounds : List Str := ["_law_grounds_here", "_law_row"]
def M_l_grounds : List (Nat × Nat) := []
noncomputable def r_l_grounds : RunS :=
 (sSeq (sRet (runM "str" (rCon (W.str ", ")) (runsCons (runComp false (runSrc (rVar 0)) [1] (rCon (.bl true)) (runN (runsCons (rVar 0) (runsCons (rVar 1) runsNil)) (calmOp op_l_ground))) runsNil) opJoin))
 sPass)
noncomputable def op_l_grounds : OpN := callOp 2 2 0 r_l_grounds
noncomputable def gl4 : List (Str × GV) := ("_law_grounds", .fn 2 op_l_grounds) :: ("_law_grounds_by", .fn 2 op_l_grounds_by) :: ("drawn_ground", .fn 2 op_drawn_ground) :: gl3
abbrev s_drawn_grounds : Stmt := top 7
def N_drawn_grounds : List Str := ["grounds", "places"]
def P_drawn_grounds : List Str := ["grounds", "places"]
def M_drawn_grounds : List (Nat × Nat) := []
noncomputable def r_drawn_grounds : RunS :=
 (sSeq (sRet (runM "str" (rCon (W.str ", ")) (runsCons (runComp false (runSrc (rVar 0)) [1] (rCon (.bl true)) (runN (runsCons (rVar 0) (runsCons (rVar 1) runsNil)) (calmOp op_drawn_ground))) runsNil) opJoin))
 sPass)
noncomputable def op_drawn_grounds : OpN := callOp 2 2 0 r_drawn_grounds
abbrev s_l_cause_by : Stmt := top 17
def N_l_cause_by : List Str := ["_law_cell", "_law_row", "_law_key", "_law_fills"]
def P_l_cause_by : List Str := ["_law_cell", "_law_row"]
def M_l_cause_by : List (Nat × Nat) := []
noncomputable def r_l_cause_by : RunS :=
 (sSeq (sIf (run2 (run2 (rVar 0) (rCon (W.int 3)) opMod) (rCon (W.int 0)) opEq)
  (sSeq (sRet (runN (runsCons (rCon (W.str "told")) runsNil) opTup))
 sPass)
  sPass)
 (sSeq (sIf (run2 (run2 (rVar 0) (rCon (W.int 3)) opMod) (rCon (W.int 1)) opEq)
  (sSeq (sRet (runN (runsCons (rCon (W.str "by")) (runsCons (run2 (run2 (rVar 0) (rCon (W.int 3)) opDiv) (rCon (W.int 20)) opMod) (runsCons (runN (runsCons (run2 (rVar 0) (rCon (W.int 60)) opDiv) (runsCons (rVar 1) runsNil)) (calmOp op_l_grounds_by)) runsNil))) opTup))
 sPass)
  sPass)
 (sSeq (sSet 2 (runN (runsCons (runComp false (runRng1 (run2 (run2 (rVar 0) (rCon (W.int 3)) opDiv) (rCon (W.int 4)) opMod)) [0] (rCon (.bl true)) (runN (runsCons (run2 (run2 (rVar 1) (rCon (W.int 7)) opDiv) (rVar 0) opAdd) runsNil) (calmOp op_l_value_by))) runsNil) opTuple))
 (sSeq (sSet 3 (runN (runsCons (runComp false (runRng1 (run2 (rCon (W.int 1)) (run2 (run2 (rVar 0) (rCon (W.int 12)) opDiv) (rCon (W.int 3)) opMod) opAdd)) [0, 1] (rCon (.bl true)) (runN (runsCons (run2 (run2 (rVar 1) (rCon (W.int 60)) opDiv) (run2 (rCon (W.int 7919)) (rVar 0) opMul) opAdd) (runsCons (rVar 2) runsNil)) (calmOp op_l_grounds_by))) runsNil) opTuple))
 (sSeq (sRet (runN (runsCons (rCon (W.str "of")) (runsCons (run2 (run2 (rVar 0) (rCon (W.int 3)) opDiv) (rCon (W.int 20)) opMod) (runsCons (rVar 2) (runsCons (rVar 3) runsNil)))) opTup))
 sPass)))))
noncomputable def op_l_cause_by : OpN := callOp 2 4 0 r_l_cause_by
noncomputable def gl5 : List (Str × GV) := ("_law_cause_by", .fn 2 op_l_cause_by) :: ("drawn_grounds", .fn 2 op_drawn_grounds) :: gl4
abbrev s_drawn_reason : Stmt := top 8
def N_drawn_reason : List Str := ["reason", "places", "fills", "shown"]
def P_drawn_reason : List Str := ["reason", "places"]
def M_drawn_reason : List (Nat × Nat) := []
noncomputable def r_drawn_reason : RunS :=
 (sSeq (sIf (run2 (run2 (rVar 0) (rCon (W.int 0)) opIdx) (rCon (W.str "told")) opEq)
  (sSeq (sRet (rCon (W.str "told")))
 sPass)
  sPass)
 (sSeq (sSet 2 (runIf (run2 (run2 (rVar 0) (rCon (W.int 0)) opIdx) (rCon (W.str "by")) opEq) (runN (runsCons (run2 (rVar 0) (rCon (W.int 2)) opIdx) runsNil) (opL false)) (run2 (rVar 0) (rCon (W.int 3)) opIdx)))
 (sSeq (sSet 3 (runM "str" (rCon (W.str "; ")) (runsCons (runComp false (runSrc (rVar 2)) [1] (rCon (.bl true)) (runN (runsCons (rVar 0) (runsCons (rVar 1) runsNil)) (calmOp op_drawn_grounds))) runsNil) opJoin))
 (sSeq (sRet (run2 (run2 (run2 (run2 (run2 (rVar 0) (rCon (W.int 0)) opIdx) (rCon (W.str " ")) opAdd) (runN (runsCons (run2 (rVar 0) (rCon (W.int 1)) opIdx) runsNil) opStr) opAdd) (rCon (W.str " from ")) opAdd) (rVar 3) opAdd))
 sPass))))
noncomputable def op_drawn_reason : OpN := callOp 2 4 0 r_drawn_reason
noncomputable def gl6 : List (Str × GV) := ("drawn_reason", .fn 2 op_drawn_reason) :: gl5
abbrev s_drawn_pair : Stmt := top 9
def N_drawn_pair : List Str := ["place", "pair", "places"]
def P_drawn_pair : List Str := ["place", "pair", "places"]
def M_drawn_pair : List (Nat × Nat) := []
noncomputable def r_drawn_pair : RunS :=
 (sSeq (sRet (run2 (run2 (run2 (run2 (runN (runsCons (rVar 0) runsNil) opStr) (rCon (W.str " ")) opAdd) (runN (runsCons (run2 (rVar 1) (rCon (W.int 0)) opIdx) runsNil) (calmOp op_shown_fact)) opAdd) (rCon (W.str ": ")) opAdd) (runN (runsCons (run2 (rVar 1) (rCon (W.int 1)) opIdx) (runsCons (rVar 2) runsNil)) (calmOp op_drawn_reason)) opAdd))
 sPass)
noncomputable def op_drawn_pair : OpN := callOp 3 3 0 r_drawn_pair
noncomputable def gl7 : List (Str × GV) := ("drawn_pair", .fn 3 op_drawn_pair) :: gl6
abbrev s_drawn : Stmt := top 10
def N_drawn : List Str := ["row", "places"]
def P_drawn : List Str := ["row"]
def M_drawn : List (Nat × Nat) := [(36, 11)]
noncomputable def r_drawn : RunS :=
 (sSeq (sSet 1 (runN (runsCons (rVar 0) runsNil) (calmOp op_places_in)))
 (sSeq (sRet (runCompE true (runsCons (rVar 0) runsNil) [1] (runN (runsCons (rVar 0) (runsCons (rVar 1) (runsCons (rVar 2) runsNil))) (calmOp op_drawn_pair))))
 sPass))
noncomputable def op_drawn : OpN := callOp 1 2 2 r_drawn
noncomputable def gl8 : List (Str × GV) := ("drawn", .fn 1 op_drawn) :: gl7
abbrev s_law : Stmt := top 22
def N_law : List Str := ["_law_script", "_law_row", "_law_due", "_law_k", "_law_cell", "_law_pair", "_law_text", "_law_fills", "_law_handed", "_law_found"]
def P_law : List Str := ["_law_script"]
def M_law : List (Nat × Nat) := [(81, 15), (82, 15)]
noncomputable def r_law : RunS :=
 (sSeq (sSet 1 (runN runsNil (opL true)))
 (sSeq (sSet 2 (runN runsNil (opL true)))
 (sSeq (sFor 3 (runRng1 (run2 (rCon (W.int 1)) (run2 (runN (runsCons (rVar 0) (runsCons (rCon (W.int 0)) runsNil)) (calmOp op_l_cell_at)) (rCon (W.int 9)) opMod) opAdd)) (sSeq (sSet 4 (runN (runsCons (rVar 0) (runsCons (run2 (rCon (W.int 1)) (run2 (rCon (W.int 2)) (rVar 3) opMul) opAdd) runsNil)) (calmOp op_l_cell_at)))
 (sSeq (sSet 5 (runN (runsCons (runN (runsCons (rVar 3) (runsCons (runN (runsCons (rVar 0) (runsCons (run2 (rCon (W.int 2)) (run2 (rCon (W.int 2)) (rVar 3) opMul) opAdd) runsNil)) (calmOp op_l_cell_at)) runsNil)) (calmOp op_l_fact_by)) (runsCons (runN (runsCons (rVar 4) (runsCons (rVar 1) runsNil)) (calmOp op_l_cause_by)) runsNil)) opTup))
 (sSeq (sSet 6 (run2 (run2 (run2 (run2 (runN (runsCons (run2 (rVar 3) (rCon (W.int 1)) opAdd) runsNil) opStr) (rCon (W.str " ")) opAdd) (runN (runsCons (run2 (rVar 5) (rCon (W.int 0)) opIdx) runsNil) (calmOp op_l_fact)) opAdd) (rCon (W.str ": ")) opAdd) (run2 (run2 (rVar 5) (rCon (W.int 1)) opIdx) (rCon (W.int 0)) opIdx) opAdd))
 (sSeq (sIf (run2 (run2 (run2 (rVar 5) (rCon (W.int 1)) opIdx) (rCon (W.int 0)) opIdx) (rCon (W.str "by")) opEq)
  (sSeq (sSet 6 (run2 (run2 (run2 (run2 (rVar 6) (rCon (W.str " ")) opAdd) (runN (runsCons (run2 (run2 (rVar 5) (rCon (W.int 1)) opIdx) (rCon (W.int 1)) opIdx) runsNil) opStr) opAdd) (rCon (W.str " from ")) opAdd) (runN (runsCons (run2 (run2 (rVar 5) (rCon (W.int 1)) opIdx) (rCon (W.int 2)) opIdx) (runsCons (rVar 1) runsNil)) (calmOp op_l_grounds)) opAdd))
 sPass)
  sPass)
 (sSeq (sIf (run2 (run2 (run2 (rVar 5) (rCon (W.int 1)) opIdx) (rCon (W.int 0)) opIdx) (rCon (W.str "of")) opEq)
  (sSeq (sSet 7 (runComp false (runSrc (run2 (run2 (rVar 5) (rCon (W.int 1)) opIdx) (rCon (W.int 3)) opIdx)) [1] (rCon (.bl true)) (runN (runsCons (rVar 0) (runsCons (rVar 1) runsNil)) (calmOp op_l_grounds))))
 (sSeq (sSet 6 (run2 (run2 (run2 (run2 (rVar 6) (rCon (W.str " ")) opAdd) (runN (runsCons (run2 (run2 (rVar 5) (rCon (W.int 1)) opIdx) (rCon (W.int 1)) opIdx) runsNil) opStr) opAdd) (rCon (W.str " from ")) opAdd) (runM "str" (rCon (W.str "; ")) (runsCons (rVar 7) runsNil) opJoin) opAdd))
 sPass))
  sPass)
 (sSeq (sDrop (runM "list" (rVar 1) (runsCons (rVar 5) runsNil) opAppend))
 (sSeq (sDrop (runM "list" (rVar 2) (runsCons (rVar 6) runsNil) opAppend))
 sPass))))))))
 (sSeq (sSet 8 (runN (runsCons (rVar 1) runsNil) (opList false)))
 (sSeq (sSet 9 (runN (runsCons (rVar 8) runsNil) (calmOp op_drawn)))
 (sSeq (sIf (runOr (runNot (runN (runsCons (rVar 9) (runsCons (rCon (.ty "list")) runsNil)) opIsi)) (runOr (run2 (rVar 9) (rVar 2) opNe) (run2 (rVar 8) (rVar 1) opNe)))
  (sSeq (sRet (rCon (W.bl false)))
 sPass)
  sPass)
 (sSeq (sDrop (runM "list" (rVar 9) (runsCons (rCon (W.str "")) runsNil) opAppend))
 (sSeq (sRet (run2 (runN (runsCons (rVar 8) runsNil) (calmOp op_drawn)) (rVar 2) opEq))
 sPass))))))))
noncomputable def op_law : OpN := callOp 1 10 1 r_law
end DL.My
namespace DL.My
open PySem L2
theorem sc_places_in : scopeOk N_places_in P_places_in (defScope s_places_in) = true := by decide +kernel
theorem de_places_in : denSs 60 ⟨N_places_in, defScope s_places_in, gl0, M_places_in, true, false⟩ (defBody s_places_in) = some r_places_in := by kernel_rfl
theorem sc_shown_terms : scopeOk N_shown_terms P_shown_terms (defScope s_shown_terms) = true := by decide +kernel
theorem de_shown_terms : denSs 60 ⟨N_shown_terms, defScope s_shown_terms, gl0, M_shown_terms, true, false⟩ (defBody s_shown_terms) = some r_shown_terms := by kernel_rfl
theorem sc_shown_fact : scopeOk N_shown_fact P_shown_fact (defScope s_shown_fact) = true := by decide +kernel
theorem de_shown_fact : denSs 60 ⟨N_shown_fact, defScope s_shown_fact, gl1, M_shown_fact, true, false⟩ (defBody s_shown_fact) = some r_shown_fact := by kernel_rfl
theorem sc_shown_part : scopeOk N_shown_part P_shown_part (defScope s_shown_part) = true := by decide +kernel
theorem de_shown_part : denSs 60 ⟨N_shown_part, defScope s_shown_part, gl2, M_shown_part, true, false⟩ (defBody s_shown_part) = some r_shown_part := by kernel_rfl
theorem sc_drawn_ground : scopeOk N_drawn_ground P_drawn_ground (defScope s_drawn_ground) = true := by decide +kernel
theorem de_drawn_ground : denSs 60 ⟨N_drawn_ground, defScope s_drawn_ground, gl3, M_drawn_ground, true, false⟩ (defBody s_drawn_ground) = some r_drawn_ground := by kernel_rfl
theorem sc_drawn_grounds : scopeOk N_drawn_grounds P_drawn_grounds (defScope s_drawn_grounds) = true := by decide +kernel
theorem de_drawn_grounds : denSs 60 ⟨N_drawn_grounds, defScope s_drawn_grounds, gl4, M_drawn_grounds, true, false⟩ (defBody s_drawn_grounds) = some r_drawn_grounds := by kernel_rfl
theorem sc_drawn_reason : scopeOk N_drawn_reason P_drawn_reason (defScope s_drawn_reason) = true := by decide +kernel
theorem de_drawn_reason : denSs 60 ⟨N_drawn_reason, defScope s_drawn_reason, gl5, M_drawn_reason, true, false⟩ (defBody s_drawn_reason) = some r_drawn_reason := by kernel_rfl
theorem sc_drawn_pair : scopeOk N_drawn_pair P_drawn_pair (defScope s_drawn_pair) = true := by decide +kernel
theorem de_drawn_pair : denSs 60 ⟨N_drawn_pair, defScope s_drawn_pair, gl6, M_drawn_pair, true, false⟩ (defBody s_drawn_pair) = some r_drawn_pair := by kernel_rfl
theorem sc_drawn : scopeOk N_drawn P_drawn (defScope s_drawn) = true := by decide +kernel
theorem de_drawn : denSs 60 ⟨N_drawn, defScope s_drawn, gl7, M_drawn, true, false⟩ (defBody s_drawn) = some r_drawn := by kernel_rfl
theorem sc_l_cell_at : scopeOk N_l_cell_at P_l_cell_at (defScope s_l_cell_at) = true := by decide +kernel
theorem de_l_cell_at : denSs 60 ⟨N_l_cell_at, defScope s_l_cell_at, gl0, M_l_cell_at, true, false⟩ (defBody s_l_cell_at) = some r_l_cell_at := by kernel_rfl
theorem sc_l_value_by : scopeOk N_l_value_by P_l_value_by (defScope s_l_value_by) = true := by decide +kernel
theorem de_l_value_by : denSs 60 ⟨N_l_value_by, defScope s_l_value_by, gl0, M_l_value_by, true, false⟩ (defBody s_l_value_by) = some r_l_value_by := by kernel_rfl
theorem sc_l_fact_by : scopeOk N_l_fact_by P_l_fact_by (defScope s_l_fact_by) = true := by decide +kernel
theorem de_l_fact_by : denSs 60 ⟨N_l_fact_by, defScope s_l_fact_by, gl1, M_l_fact_by, true, false⟩ (defBody s_l_fact_by) = some r_l_fact_by := by kernel_rfl
theorem sc_l_ground_by : scopeOk N_l_ground_by P_l_ground_by (defScope s_l_ground_by) = true := by decide +kernel
theorem de_l_ground_by : denSs 60 ⟨N_l_ground_by, defScope s_l_ground_by, gl2, M_l_ground_by, true, false⟩ (defBody s_l_ground_by) = some r_l_ground_by := by kernel_rfl
theorem sc_l_grounds_by : scopeOk N_l_grounds_by P_l_grounds_by (defScope s_l_grounds_by) = true := by decide +kernel
theorem de_l_grounds_by : denSs 60 ⟨N_l_grounds_by, defScope s_l_grounds_by, gl3, M_l_grounds_by, true, false⟩ (defBody s_l_grounds_by) = some r_l_grounds_by := by kernel_rfl
theorem sc_l_cause_by : scopeOk N_l_cause_by P_l_cause_by (defScope s_l_cause_by) = true := by decide +kernel
theorem de_l_cause_by : denSs 60 ⟨N_l_cause_by, defScope s_l_cause_by, gl4, M_l_cause_by, true, false⟩ (defBody s_l_cause_by) = some r_l_cause_by := by kernel_rfl
theorem sc_l_terms : scopeOk N_l_terms P_l_terms (defScope s_l_terms) = true := by decide +kernel
theorem de_l_terms : denSs 60 ⟨N_l_terms, defScope s_l_terms, gl0, M_l_terms, true, false⟩ (defBody s_l_terms) = some r_l_terms := by kernel_rfl
theorem sc_l_fact : scopeOk N_l_fact P_l_fact (defScope s_l_fact) = true := by decide +kernel
theorem de_l_fact : denSs 60 ⟨N_l_fact, defScope s_l_fact, gl1, M_l_fact, true, false⟩ (defBody s_l_fact) = some r_l_fact := by kernel_rfl
theorem sc_l_ground : scopeOk N_l_ground P_l_ground (defScope s_l_ground) = true := by decide +kernel
theorem de_l_ground : denSs 60 ⟨N_l_ground, defScope s_l_ground, gl2, M_l_ground, true, false⟩ (defBody s_l_ground) = some r_l_ground := by kernel_rfl
theorem sc_l_grounds : scopeOk N_l_grounds P_l_grounds (defScope s_l_grounds) = true := by decide +kernel
theorem de_l_grounds : denSs 60 ⟨N_l_grounds, defScope s_l_grounds, gl3, M_l_grounds, true, false⟩ (defBody s_l_grounds) = some r_l_grounds := by kernel_rfl
theorem sc_law : scopeOk N_law P_law (defScope s_law) = true := by decide +kernel
theorem de_law : denSs 60 ⟨N_law, defScope s_law, gl8, M_law, true, false⟩ (defBody s_law) = some r_law := by kernel_rfl
end DL.My
namespace DL.My
open PySem L2
structure Tx (P : Program) (w : World) (K : PySem.W.Frag) (mg : Str → Option Value) : Prop where
 b_enumerate : mg "enumerate" = none
 b_isinstance : mg "isinstance" = none
 b_len : mg "len" = none
 b_list : mg "list" = none
 b_range : mg "range" = none
 b_str : mg "str" = none
 b_tuple : mg "tuple" = none
 d_places_in : DefAt K mg "places_in" s_places_in P_places_in
 d_shown_terms : DefAt K mg "shown_terms" s_shown_terms P_shown_terms
 d_shown_fact : DefAt K mg "shown_fact" s_shown_fact P_shown_fact
 d_shown_part : DefAt K mg "shown_part" s_shown_part P_shown_part
 d_drawn_ground : DefAt K mg "drawn_ground" s_drawn_ground P_drawn_ground
 d_drawn_grounds : DefAt K mg "drawn_grounds" s_drawn_grounds P_drawn_grounds
 d_drawn_reason : DefAt K mg "drawn_reason" s_drawn_reason P_drawn_reason
 d_drawn_pair : DefAt K mg "drawn_pair" s_drawn_pair P_drawn_pair
 d_drawn : DefAt K mg "drawn" s_drawn P_drawn
 d_l_cell_at : DefAt K mg "_law_cell_at" s_l_cell_at P_l_cell_at
 d_l_value_by : DefAt K mg "_law_value_by" s_l_value_by P_l_value_by
 d_l_fact_by : DefAt K mg "_law_fact_by" s_l_fact_by P_l_fact_by
 d_l_ground_by : DefAt K mg "_law_ground_by" s_l_ground_by P_l_ground_by
 d_l_grounds_by : DefAt K mg "_law_grounds_by" s_l_grounds_by P_l_grounds_by
 d_l_cause_by : DefAt K mg "_law_cause_by" s_l_cause_by P_l_cause_by
 d_l_terms : DefAt K mg "_law_terms" s_l_terms P_l_terms
 d_l_fact : DefAt K mg "_law_fact" s_l_fact P_l_fact
 d_l_ground : DefAt K mg "_law_ground" s_l_ground P_l_ground
 d_l_grounds : DefAt K mg "_law_grounds" s_l_grounds P_l_grounds
 d_law : DefAt K mg "law" s_law P_law
section
variable {P : Program} {w : World} {K : PySem.W.Frag} {mg : Str → Option Value} {base : Heap}
theorem tx0 (t : Tx P w K mg) : TX P w K mg base gl0 0 := by
 exact (TX.blt1 (TX.blt1 (TX.blt1 (TX.blt1 (TX.blt1 (TX.blt1 (TX.blt1 TX.nil t.b_tuple) t.b_str) t.b_range) t.b_list) t.b_len) t.b_isinstance) t.b_enumerate)
theorem tx1 (t : Tx P w K mg) : TX P w K mg base gl1 3 := by
 have T : TX P w K mg base gl0 0 := tx0 t
 exact (TX.cons (TX.cons (TX.cons (TX.cons (TX.cons (T.mono (by decide)) (TX.fnOf (fz := 2) T t.d_places_in sc_places_in de_places_in)) (TX.fnOf (fz := 0) T t.d_shown_terms sc_shown_terms de_shown_terms)) (TX.fnOf (fz := 0) T t.d_l_cell_at sc_l_cell_at de_l_cell_at)) (TX.fnOf (fz := 0) T t.d_l_value_by sc_l_value_by de_l_value_by)) (TX.fnOf (fz := 0) T t.d_l_terms sc_l_terms de_l_terms))
theorem tx2 (t : Tx P w K mg) : TX P w K mg base gl2 6 := by
 have T : TX P w K mg base gl1 3 := tx1 t
 exact (TX.cons (TX.cons (TX.cons (T.mono (by decide)) (TX.fnOf (fz := 0) T t.d_shown_fact sc_shown_fact de_shown_fact)) (TX.fnOf (fz := 0) T t.d_l_fact_by sc_l_fact_by de_l_fact_by)) (TX.fnOf (fz := 0) T t.d_l_fact sc_l_fact de_l_fact))
theorem tx3 (t : Tx P w K mg) : TX P w K mg base gl3 9 := by
 have T : TX P w K mg base gl2 6 := tx2 t
 exact (TX.cons (TX.cons (TX.cons (T.mono (by decide)) (TX.fnOf (fz := 0) T t.d_shown_part sc_shown_part de_shown_part)) (TX.fnOf (fz := 0) T t.d_l_ground_by sc_l_ground_by de_l_ground_by)) (TX.fnOf (fz := 0) T t.d_l_ground sc_l_ground de_l_ground))
theorem tx4 (t : Tx P w K mg) : TX P w K mg base gl4 12 := by
 have T : TX P w K mg base gl3 9 := tx3 t
 exact (TX.cons (TX.cons (TX.cons (T.mono (by decide)) (TX.fnOf (fz := 0) T t.d_drawn_ground sc_drawn_ground de_drawn_ground)) (TX.fnOf (fz := 0) T t.d_l_grounds_by sc_l_grounds_by de_l_grounds_by)) (TX.fnOf (fz := 0) T t.d_l_grounds sc_l_grounds de_l_grounds))
theorem tx5 (t : Tx P w K mg) : TX P w K mg base gl5 15 := by
 have T : TX P w K mg base gl4 12 := tx4 t
 exact (TX.cons (TX.cons (T.mono (by decide)) (TX.fnOf (fz := 0) T t.d_drawn_grounds sc_drawn_grounds de_drawn_grounds)) (TX.fnOf (fz := 0) T t.d_l_cause_by sc_l_cause_by de_l_cause_by))
theorem tx6 (t : Tx P w K mg) : TX P w K mg base gl6 18 := by
 have T : TX P w K mg base gl5 15 := tx5 t
 exact (TX.cons (T.mono (by decide)) (TX.fnOf (fz := 0) T t.d_drawn_reason sc_drawn_reason de_drawn_reason))
theorem tx7 (t : Tx P w K mg) : TX P w K mg base gl7 21 := by
 have T : TX P w K mg base gl6 18 := tx6 t
 exact (TX.cons (T.mono (by decide)) (TX.fnOf (fz := 0) T t.d_drawn_pair sc_drawn_pair de_drawn_pair))
theorem tx8 (t : Tx P w K mg) : TX P w K mg base gl8 24 := by
 have T : TX P w K mg base gl7 21 := tx7 t
 exact (TX.cons (T.mono (by decide)) (TX.fnOf (fz := 2) T t.d_drawn sc_drawn de_drawn))
theorem law_ok (t : Tx P w K mg) {f : Addr} {fd : FuncData} (F : Fun K "law" "law" s_law f fd) : FnOk P w K mg base CX0 27 f fd P_law (SpD K 1 op_law) :=
 def_ok (fz := 1) (tx8 t : TX P w K mg base gl8 24) F sc_law de_law
end
theorem all_mk {l : PySem.W.OpenLaw} {w : World} {K : PySem.W.Frag} {h : Heap} {mg : Str → Option Value} {fa : Addr} (X : K.In h) (G : h.Ns mainGlobals mg) (hfa : mg "law" = some (.ref fa))
  (b_enumerate : PySem.W.nsIn K mainGlobals "enumerate" = some none)
  (b_isinstance : PySem.W.nsIn K mainGlobals "isinstance" = some none)
  (b_len : PySem.W.nsIn K mainGlobals "len" = some none)
  (b_list : PySem.W.nsIn K mainGlobals "list" = some none)
  (b_range : PySem.W.nsIn K mainGlobals "range" = some none)
  (b_str : PySem.W.nsIn K mainGlobals "str" = some none)
  (b_tuple : PySem.W.nsIn K mainGlobals "tuple" = some none)
  (d_places_in : DIn K "places_in" s_places_in)
  (d_shown_terms : DIn K "shown_terms" s_shown_terms)
  (d_shown_fact : DIn K "shown_fact" s_shown_fact)
  (d_shown_part : DIn K "shown_part" s_shown_part)
  (d_drawn_ground : DIn K "drawn_ground" s_drawn_ground)
  (d_drawn_grounds : DIn K "drawn_grounds" s_drawn_grounds)
  (d_drawn_reason : DIn K "drawn_reason" s_drawn_reason)
  (d_drawn_pair : DIn K "drawn_pair" s_drawn_pair)
  (d_drawn : DIn K "drawn" s_drawn)
  (d_l_cell_at : DIn K "_law_cell_at" s_l_cell_at)
  (d_l_value_by : DIn K "_law_value_by" s_l_value_by)
  (d_l_fact_by : DIn K "_law_fact_by" s_l_fact_by)
  (d_l_ground_by : DIn K "_law_ground_by" s_l_ground_by)
  (d_l_grounds_by : DIn K "_law_grounds_by" s_l_grounds_by)
  (d_l_cause_by : DIn K "_law_cause_by" s_l_cause_by)
  (d_l_terms : DIn K "_law_terms" s_l_terms)
  (d_l_fact : DIn K "_law_fact" s_l_fact)
  (d_l_ground : DIn K "_law_ground" s_l_ground)
  (d_l_grounds : DIn K "_law_grounds" s_l_grounds)
  (d_law : DIn K "law" s_law)
  : ∃ fd : FuncData, (∀ (s : Shared) (v : Value), BindsTo s fd ⟨[v], []⟩ [("_law_script", v)]) ∧ ∀ base : Heap, K.In base → base.Ns mainGlobals mg → FnOk l.prog w K mg base CX0 27 fa fd ["_law_script"] (SpD K 1 op_law) := by
 have t : Tx l.prog w K mg := ⟨PySem.W.mg_none_of X G b_enumerate, PySem.W.mg_none_of X G b_isinstance, PySem.W.mg_none_of X G b_len, PySem.W.mg_none_of X G b_list, PySem.W.mg_none_of X G b_range, PySem.W.mg_none_of X G b_str, PySem.W.mg_none_of X G b_tuple, (d_places_in.at_ X G fun _ _ _ _ _ _ us hl => match us, hl with | [_], _ => rfl), (d_shown_terms.at_ X G fun _ _ _ _ _ _ us hl => match us, hl with | [_], _ => rfl), (d_shown_fact.at_ X G fun _ _ _ _ _ _ us hl => match us, hl with | [_], _ => rfl), (d_shown_part.at_ X G fun _ _ _ _ _ _ us hl => match us, hl with | [_], _ => rfl), (d_drawn_ground.at_ X G fun _ _ _ _ _ _ us hl => match us, hl with | [_, _], _ => rfl), (d_drawn_grounds.at_ X G fun _ _ _ _ _ _ us hl => match us, hl with | [_, _], _ => rfl), (d_drawn_reason.at_ X G fun _ _ _ _ _ _ us hl => match us, hl with | [_, _], _ => rfl), (d_drawn_pair.at_ X G fun _ _ _ _ _ _ us hl => match us, hl with | [_, _, _], _ => rfl), (d_drawn.at_ X G fun _ _ _ _ _ _ us hl => match us, hl with | [_], _ => rfl), (d_l_cell_at.at_ X G fun _ _ _ _ _ _ us hl => match us, hl with | [_, _], _ => rfl), (d_l_value_by.at_ X G fun _ _ _ _ _ _ us hl => match us, hl with | [_], _ => rfl), (d_l_fact_by.at_ X G fun _ _ _ _ _ _ us hl => match us, hl with | [_, _], _ => rfl), (d_l_ground_by.at_ X G fun _ _ _ _ _ _ us hl => match us, hl with | [_, _], _ => rfl), (d_l_grounds_by.at_ X G fun _ _ _ _ _ _ us hl => match us, hl with | [_, _], _ => rfl), (d_l_cause_by.at_ X G fun _ _ _ _ _ _ us hl => match us, hl with | [_, _], _ => rfl), (d_l_terms.at_ X G fun _ _ _ _ _ _ us hl => match us, hl with | [_], _ => rfl), (d_l_fact.at_ X G fun _ _ _ _ _ _ us hl => match us, hl with | [_], _ => rfl), (d_l_ground.at_ X G fun _ _ _ _ _ _ us hl => match us, hl with | [_, _], _ => rfl), (d_l_grounds.at_ X G fun _ _ _ _ _ _ us hl => match us, hl with | [_, _], _ => rfl), (d_law.at_ X G fun _ _ _ _ _ _ us hl => match us, hl with | [_], _ => rfl)⟩
 exact d_law.law X G hfa (fun _ _ _ _ _ _ s v => .of_eq rfl) fun fd F base _ _ => law_ok t F
end DL.My
namespace DL.My
open PySem L2
theorem ret_ok {r : Run} {Γ : Ga} {st : S} {w : W} (h : r Γ st = .ok w st) : sSeq (sRet r) sPass Γ st = .ok (.rt w) st := by
 rw [ev_seq, ev_ret, h]; rfl
theorem compGo_map {re : Run} {Γc : Ga} {st : S} (f : W → W) : ∀ (items acc : List W), (∀ x ∈ items, re (some x :: Γc) st = .ok (f x) st) → compGo (rCon (.bl true)) re Γc items acc st = .ok (acc ++ items.map f) st
 | [], acc, _ => by simp [compGo]
 | x :: xs, acc, h => by
  show ((rCon (.bl true) (some x :: Γc) st).calm.bind fun b st1 => match b with
   | .bl true => (re (some x :: Γc) st1).calm.bind fun y st2 => compGo (rCon (.bl true)) re Γc xs (acc ++ [y]) st2
   | .bl false => compGo (rCon (.bl true)) re Γc xs acc st1
   | _ => .stuck) = _
  show ((re (some x :: Γc) st).calm.bind fun y st2 => compGo (rCon (.bl true)) re Γc xs (acc ++ [y]) st2) = _
  rw [h x List.mem_cons_self, ev_calm, ev_ok, compGo_map f xs (acc ++ [f x]) fun y hy => h y (List.mem_cons_of_mem _ hy)]
  simp
theorem comp_map {src : Src} {cap : List Nat} {re : Run} {Γ : Ga} {st : S} {items : List W} (f : W → W) (hs : src Γ st = .ok items st) (hl : items.length < sizeLine) (h : ∀ x ∈ items, re (some x :: capG cap Γ) st = .ok (f x) st) :
  runComp false src cap (rCon (.bl true)) re Γ st = .ok (.lst (items.map f)) st := by
 unfold runComp
 rw [hs, ev_ok, if_pos hl, compGo_map f items [] h, ev_ok, List.nil_append]
 exact ev_lst _ (by rw [List.length_map]; exact Nat.le_of_lt hl)
theorem compGo_ex {re : Run} {Γc : Ga} {st : S} (P : W → Prop) : ∀ (items acc : List W), (∀ x ∈ items, ∃ y, P y ∧ re (some x :: Γc) st = .ok y st) → ∃ ys : List W, ys.length = items.length ∧ (∀ y ∈ ys, P y) ∧ compGo (rCon (.bl true)) re Γc items acc st = .ok (acc ++ ys) st
 | [], acc, _ => ⟨[], rfl, (fun y h => by cases h), by simp [compGo]⟩
 | x :: xs, acc, h => by
  obtain ⟨y, hy, e⟩ := h x List.mem_cons_self
  obtain ⟨ys, h1, h2, h3⟩ := compGo_ex P xs (acc ++ [y]) fun z hz => h z (List.mem_cons_of_mem _ hz)
  refine ⟨y :: ys, by rw [List.length_cons, List.length_cons, h1], fun z hz => ?_, ?_⟩
  ·rcases List.mem_cons.mp hz with rfl | hz
   ·exact hy
   ·exact h2 z hz
  ·show ((re (some x :: Γc) st).calm.bind fun y st2 => compGo (rCon (.bl true)) re Γc xs (acc ++ [y]) st2) = _
   rw [e, ev_calm, ev_ok, h3]
   simp
theorem comp_ex {src : Src} {cap : List Nat} {re : Run} {Γ : Ga} {st : S} {items : List W} (P : W → Prop) (hs : src Γ st = .ok items st) (hl : items.length ≤ 1000) (h : ∀ x ∈ items, ∃ y, P y ∧ re (some x :: capG cap Γ) st = .ok y st) :
  ∃ ys : List W, ys.length = items.length ∧ (∀ y ∈ ys, P y) ∧ runComp false src cap (rCon (.bl true)) re Γ st = .ok (.lst ys) st := by
 obtain ⟨ys, h1, h2, h3⟩ := compGo_ex P items [] h
 refine ⟨ys, h1, h2, ?_⟩
 unfold runComp
 rw [hs, ev_ok, if_pos (Nat.lt_of_le_of_lt hl (by decide)), h3, ev_ok, List.nil_append]
 exact ev_lst _ (by rw [h1]; exact size_small hl)
theorem new_put (st : S) (a b : MO) : (st.new a).put st.nxt b = st.new b := by
 unfold S.put S.new
 congr 1
 funext m
 by_cases h : m = st.nxt <;> simp [h]
theorem new_at (st : S) (a : MO) : (st.new a).mu st.nxt = some a := if_pos rfl
theorem new_old (st : S) (a : MO) : ∀ n, n < st.nxt → (st.new a).mu n = st.mu n := fun n h => if_neg (Nat.ne_of_lt h)
theorem mem_rangeW {n : Nat} {w : W} (h : w ∈ rangeW 0 n) : ∃ k : Nat, k < n ∧ w = .int k := by
 unfold rangeW at h
 obtain ⟨i, hi, rfl⟩ := List.mem_map.mp h
 exact ⟨i, List.mem_range.mp hi, by rw [Int.zero_add]⟩
theorem len_rangeW (n : Nat) : (rangeW 0 n).length = n := by unfold rangeW; rw [List.length_map, List.length_range]
theorem strsW_map (zs : List Str) : strsW (zs.map W.str) = some zs := by
 induction zs with
 | nil => rfl
 | cons z zs ih => show (strsW (zs.map W.str)).map (z :: ·) = _; rw [ih]; rfl
theorem mod_lt (i : Int) (k : Int) (h : 0 < k) : 0 ≤ i % k ∧ i % k < k := ⟨Int.emod_nonneg i (by omega), Int.emod_lt_of_pos i h⟩
theorem loop_num {i : Nat} {body : RunS} (P : Nat → Ga → S → Prop) {Γ : Ga} {s : S} (n : Nat) (h : P 0 Γ s) (st : ∀ k Γ s, k < n → P k Γ s → ∃ Γ' s', body (Γ.set i (some (.int k))) s = .ok (.nx Γ') s' ∧ P (k + 1) Γ' s') :
  ∃ Γ' s', loopS i body (rangeW 0 n) Γ s = .ok (.nx Γ') s' ∧ P n Γ' s' := by
 have go : ∀ (m k : Nat) (Γ : Ga) (s : S), k + m = n → P k Γ s → ∃ Γ' s', loopS i body ((List.range' k m).map fun (j : Nat) => W.int j) Γ s = .ok (.nx Γ') s' ∧ P n Γ' s' := by
  intro m
  induction m with
  | zero => intro k Γ s e p; rw [show k = n by omega] at p; exact ⟨Γ, s, rfl, p⟩
  | succ m ih =>
   intro k Γ s e p
   obtain ⟨Γ1, s1, e1, p1⟩ := st k Γ s (by omega) p
   obtain ⟨Γ2, s2, e2, p2⟩ := ih (k + 1) Γ1 s1 (by omega) p1
   refine ⟨Γ2, s2, ?_, p2⟩
   rw [List.range'_succ, List.map_cons]
   show ((body (Γ.set i (some (.int k))) s).bind fun fl st' => match fl with
    | .nx Γ' => loopS i body ((List.range' (k + 1) m).map fun (j : Nat) => W.int j) Γ' st'
    | .ct Γ' => loopS i body ((List.range' (k + 1) m).map fun (j : Nat) => W.int j) Γ' st'
    | .bk Γ' => .ok (.nx Γ') st'
    | .rt w => .ok (.rt w) st') = _
   rw [e1]; exact e2
 have e : rangeW 0 n = (List.range' 0 n).map fun (j : Nat) => W.int j := by
  unfold rangeW
  rw [List.range_eq_range']
  apply List.map_congr_left
  intro j _
  rw [Int.zero_add]
 rw [e]
 exact go n 0 Γ s (by omega) h
theorem hasK_iff (k : DKey) (ks : List DKey) : hasK k ks = true ↔ k ∈ ks := by
 induction ks with
 | nil => simp [hasK]
 | cons j ks ih => simp [hasK]; exact ⟨fun h => h.imp Eq.symm id, fun h => h.imp Eq.symm id⟩
theorem putW_new {ks : List DKey} {vs : List W} {k : DKey} {v : W} (h : k ∉ ks) : putW ks vs k v = (ks ++ [k], vs ++ [v]) := by
 unfold putW
 rw [if_neg (fun z => h ((hasK_iff k ks).mp z))]
theorem valW_app : ∀ {ks : List DKey} {vs : List W} {k : DKey} {v : W} (j : DKey), ks.length = vs.length → k ∉ ks → valW (ks ++ [k]) (vs ++ [v]) j = if j = k then some v else valW ks vs j
 | [], [], k, v, j, _, _ => by
  show (if k = j then some v else valW [] [] j) = _
  by_cases e : j = k
  ·rw [if_pos e, if_pos e.symm]
  ·rw [if_neg e, if_neg (fun h => e h.symm)]
 | i :: ks, w :: vs, k, v, j, h, hk => by
  have ih := valW_app (v := v) j (show ks.length = vs.length by simpa using h) (fun h => hk (List.mem_cons_of_mem _ h))
  show (if i = j then some w else valW (ks ++ [k]) (vs ++ [v]) j) = if j = k then some v else (if i = j then some w else valW ks vs j)
  rw [ih]
  by_cases e : i = j
  ·rw [if_pos e, if_pos e, if_neg (fun h => hk (by rw [← h, ← e]; exact List.mem_cons_self))]
  ·rw [if_neg e, if_neg e]
theorem replW_len (k : DKey) (v : W) : ∀ (ks : List DKey) (vs : List W), ks.length = vs.length → (replW k v ks vs).length = vs.length
 | [], [], _ => rfl
 | _ :: ks, _ :: vs, h => by
  show (replW k v ks vs).length + 1 = vs.length + 1
  rw [replW_len k v ks vs (by simpa using h)]
theorem valW_repl (k : DKey) (v : W) (j : DKey) : ∀ (ks : List DKey) (vs : List W), ks.length = vs.length → k ∈ ks → valW ks (replW k v ks vs) j = if j = k then some v else valW ks vs j
 | [], _, _, h => by cases h
 | i :: ks, w :: vs, hl, h => by
  have hl' : ks.length = vs.length := by simpa using hl
  show (if i = j then some (if i = k then v else w) else valW ks (replW k v ks vs) j) = if j = k then some v else (if i = j then some w else valW ks vs j)
  by_cases e : i = j
  ·rw [if_pos e, if_pos e]
   by_cases e2 : i = k
   ·rw [if_pos e2, if_pos (e.symm.trans e2)]
   ·rw [if_neg e2, if_neg (fun q => e2 (e.trans q))]
  ·rw [if_neg e, if_neg e]
   by_cases hk : k ∈ ks
   ·exact valW_repl k v j ks vs hl' hk
   ·have ei : i = k := ((List.mem_cons.mp h).resolve_right hk).symm
    have e3 : ¬ j = k := fun q => e (ei.trans q.symm)
    have e4 : ∀ (ks : List DKey) (vs : List W), k ∉ ks → ks.length = vs.length → replW k v ks vs = vs := by
     intro ks
     induction ks with
     | nil => intro vs _ hl; cases vs with | nil => rfl | cons _ _ => simp at hl
     | cons a ks ih =>
      intro vs hn hl
      cases vs with
      | nil => simp at hl
      | cons b vs =>
       show (if a = k then v else b) :: replW k v ks vs = b :: vs
       rw [if_neg (fun q => hn (by rw [q]; exact List.mem_cons_self)), ih vs (fun q => hn (List.mem_cons_of_mem _ q)) (by simpa using hl)]
    rw [if_neg e3, e4 ks vs hk hl']
theorem cut1 (x : W) (xs : List W) : cutW (x :: xs) (some 1) none = xs := by
 unfold cutW
 rw [show (some (1 : Int)) = some ((1 : Nat) : Int) from rfl, HT.sIx_nat, HT.sIx_none, List.length_cons, Nat.min_eq_left (show 1 ≤ xs.length + 1 by omega), List.drop_succ_cons, List.drop_zero]
 exact List.take_of_length_le (by omega)
section
variable {op : OpN} {Γ : Ga} {st s' : S} {a b c d : Run} {x y z u w' : W}
theorem callN1 (ha : a Γ st = .ok x st) (h : op [x] st = .ok w' s') : runN (runsCons a runsNil) (calmOp op) Γ st = .ok w' s' := by
 rw [ev_runN, ev_cons, ha, ev_ok, ev_nil, ev_ok, ev_ok, ev_calmOp, h]; rfl
theorem callN2 (ha : a Γ st = .ok x st) (hb : b Γ st = .ok y st) (h : op [x, y] st = .ok w' s') : runN (runsCons a (runsCons b runsNil)) (calmOp op) Γ st = .ok w' s' := by
 rw [ev_runN, ev_cons, ha, ev_ok, ev_cons, hb, ev_ok, ev_nil, ev_ok, ev_ok, ev_ok, ev_calmOp, h]; rfl
theorem callN3 (ha : a Γ st = .ok x st) (hb : b Γ st = .ok y st) (hc : c Γ st = .ok z st) (h : op [x, y, z] st = .ok w' s') : runN (runsCons a (runsCons b (runsCons c runsNil))) (calmOp op) Γ st = .ok w' s' := by
 rw [ev_runN, ev_cons, ha, ev_ok, ev_cons, hb, ev_ok, ev_cons, hc, ev_ok, ev_nil, ev_ok, ev_ok, ev_ok, ev_ok, ev_calmOp, h]; rfl
theorem ret_to (h : a Γ st = .ok x s') : sSeq (sRet a) sPass Γ st = .ok (.rt x) s' := by
 rw [ev_seq, ev_ret, h]; rfl
end
theorem ev_setIx (ro ri rv : Run) (Γ : Ga) (st : S) : sSetIx ro ri rv Γ st = (rv Γ st).bind fun v st1 => (ro Γ st1).bind fun o st2 => (ri Γ st2).bind fun i st3 => (opSetIx o i v st3).bind fun _ st4 => .ok (.nx Γ) st4 := Eq.trans rfl rfl
end DL.My
namespace DL.My
open PySem L2
theorem len_app (x y : Str) : (x ++ y).length = x.length + y.length := by rw [← cp_len, cp_app, List.length_append, cp_len, cp_len]
theorem app_assoc (x y z : Str) : x ++ y ++ z = x ++ (y ++ z) := cp_ext (by rw [cp_app, cp_app, cp_app, cp_app, List.append_assoc])
theorem join_one (s x : Str) : Txt.join s [x] = x := by
 show Builtin.Str.glued s [x] = _
 rw [StrLaws.glued_eq_join]; rfl
theorem join_len (s : Str) (B : Nat) : ∀ ys : List Str, (∀ y ∈ ys, y.length ≤ B) → (Txt.join s ys).length ≤ ys.length * (B + s.length) := by
 intro ys h
 show (Builtin.Str.glued s ys).length ≤ _
 rw [StrLaws.glued_eq_join]
 induction ys with
 | nil => exact Nat.zero_le _
 | cons x r ih =>
  have hx := h x List.mem_cons_self
  have hr := ih fun y hy => h y (List.mem_cons_of_mem _ hy)
  cases r with
  | nil => show x.length ≤ 1 * (B + s.length); omega
  | cons y r =>
   show (x ++ s ++ Str.join s (y :: r)).length ≤ ((y :: r).length + 1) * (B + s.length)
   rw [len_app, len_app, Nat.add_mul]
   omega
theorem sum_len (B : Nat) : ∀ ys : List Str, (∀ y ∈ ys, y.length ≤ B) → (ys.map (·.length)).sum ≤ ys.length * B
 | [], _ => by simp
 | y :: ys, h => by
  have := h y List.mem_cons_self
  have := sum_len B ys fun z hz => h z (List.mem_cons_of_mem _ hz)
  rw [List.map_cons, List.sum_cons, List.length_cons, Nat.add_mul]
  omega
theorem join_op {s : Str} {ys : List Str} {st : S} (hs : s.length ≤ 16) (B : Nat) (hB : B ≤ 4000) (hy : ∀ y ∈ ys, y.length ≤ B) (hl : ys.length ≤ 20) : opJoin (.str s) [.lst (ys.map W.str)] st = .ok (.str (Txt.join s ys)) st := by
 show (match strsW (ys.map W.str) with
  | some (zs : List Str) => if (s.length ≤ 16 ∧ (zs.map (fun (y : Str) => y.length)).sum + zs.length ≤ 1048576) then R.ok (W.str (Txt.join s zs)) st else .stuck
  | none => .stuck) = _
 rw [strsW_map]
 have := sum_len B ys hy
 have h2 : ys.length * B ≤ 20 * 4000 := Nat.mul_le_mul hl hB
 exact if_pos ⟨hs, by omega⟩
theorem add_op {x y : Str} {st : S} (h : x.length + y.length ≤ 10000) : opAdd (.str x) (.str y) st = .ok (.str (x ++ y)) st := ev_addS x y (Nat.le_trans h (by decide))
theorem add2 {a b : Run} {Γ : Ga} {st : S} {x y : Str} (ha : a Γ st = .ok (.str x) st) (hb : b Γ st = .ok (.str y) st) (h : x.length + y.length ≤ 10000) : run2 a b opAdd Γ st = .ok (.str (x ++ y)) st := by
 rw [ev_run2, ha, ev_ok, hb, ev_ok, add_op h]
def Va (w : W) : Prop := w ∈ [W.str "a", .str "b", .str "abcdefgh", .int 0, .int (-5), .int 999999999, .int (-999999999)]
def sh : W → Str
 | .str x => x
 | .int i => (toString i : String)
 | _ => ""
theorem va_cases {P : W → Prop} (h1 : P (.str "a")) (h2 : P (.str "b")) (h3 : P (.str "abcdefgh")) (h4 : P (.int 0)) (h5 : P (.int (-5))) (h6 : P (.int 999999999)) (h7 : P (.int (-999999999))) {w : W} (h : Va w) : P w := by
 unfold Va at h
 simp only [List.mem_cons, List.not_mem_nil, or_false] at h
 rcases h with rfl | rfl | rfl | rfl | rfl | rfl | rfl
 ·exact h1
 ·exact h2
 ·exact h3
 ·exact h4
 ·exact h5
 ·exact h6
 ·exact h7
theorem va_len {w : W} (h : Va w) : (sh w).length ≤ 10 := by
 refine va_cases (P := fun w => (sh w).length ≤ 10) ?_ ?_ ?_ ?_ ?_ ?_ ?_ h <;> decide +kernel
theorem int_str {i : Int} {st : S} (h : i.natAbs < 1000000000) : opStr [.int i] st = .ok (.str (sh (.int i))) st := by
 refine if_pos ?_
 by_cases h0 : i.natAbs = 0
 ·rw [h0]; decide
 ·rw [Nat.log2_lt h0]
  exact Nat.lt_of_lt_of_le h (Nat.le_trans (show 1000000000 ≤ 2 ^ 30 by decide) (Nat.pow_le_pow_right (by decide) (by decide)))
theorem va_str {w : W} (h : Va w) (st : S) : opStr [w] st = .ok (.str (sh w)) st := by
 refine va_cases (P := fun w => opStr [w] st = .ok (.str (sh w)) st) rfl rfl rfl (int_str (by decide)) (int_str (by decide)) (int_str (by decide)) (int_str (by decide)) h
def Vs (n : Nat) (vs : List W) : Prop := (∀ v ∈ vs, Va v) ∧ vs.length ≤ n
def terms (vs : List W) : Str := Txt.join ", " (vs.map sh)
theorem terms_len {vs : List W} (h : Vs 4 vs) : (terms vs).length ≤ 48 := by
 have := join_len ", " 10 (vs.map sh) (fun y hy => by obtain ⟨v, hv, rfl⟩ := List.mem_map.mp hy; exact va_len (h.1 v hv))
 rw [List.length_map] at this
 have hl := h.2
 have e : (", " : Str).length = 2 := by decide +kernel
 rw [e] at this
 have : vs.length * (10 + 2) ≤ 4 * 12 := Nat.mul_le_mul hl (Nat.le_refl _)
 unfold terms
 omega
theorem str_run {w : W} {Γ : Ga} {st : S} (h : Va w) : runN (runsCons (rVar 0) runsNil) opStr (some w :: Γ) st = .ok (.str (sh w)) st := by
 rw [ev_runN, ev_cons, ev_v0, ev_ok, ev_nil, ev_ok, ev_ok, va_str h]
theorem terms_run {vs : List W} {Γ : Ga} {st : S} (h : Vs 4 vs) : runM "str" (rCon (W.str ", ")) (runsCons (runComp false (runSrc (rVar 0)) [] (rCon (.bl true)) (runN (runsCons (rVar 0) runsNil) opStr)) runsNil) opJoin (some (.tup vs) :: Γ) st = .ok (.str (terms vs)) st := by
 have hc := comp_map (cap := []) (src := runSrc (rVar 0)) (re := runN (runsCons (rVar 0) runsNil) opStr) (Γ := some (.tup vs) :: Γ) (st := st) (items := vs) (fun w => .str (sh w)) rfl (Nat.lt_of_le_of_lt h.2 (by decide)) (fun x hx => str_run (h.1 x hx))
 have e : (vs.map fun w => W.str (sh w)) = (vs.map sh).map W.str := by rw [List.map_map]; rfl
 unfold runM
 rw [ev_con, ev_ok, if_pos (show kindW st (.str ", ") = some "str" from rfl), ev_cons, hc, ev_ok, ev_nil, ev_ok, ev_ok, e]
 exact join_op (by decide +kernel) 10 (by decide) (fun y hy => by obtain ⟨v, hv, rfl⟩ := List.mem_map.mp hy; exact va_len (h.1 v hv)) (by rw [List.length_map]; have := h.2; omega)
theorem terms_ok {vs : List W} (h : Vs 4 vs) (st : S) : op_shown_terms [.tup vs] st = .ok (.str (terms vs)) st := by
 unfold op_shown_terms
 rw [ev_op1]
 unfold r_shown_terms
 rw [ret_ok (terms_run h)]; rfl
def inPar (vs : List W) : Str := "(" ++ terms vs ++ ")"
theorem par_len {vs : List W} (h : Vs 4 vs) : (inPar vs).length ≤ 50 := by
 unfold inPar
 have := terms_len h
 have e1 : ("(" : Str).length = 1 := by decide +kernel
 have e2 : (")" : Str).length = 1 := by decide +kernel
 rw [len_app, len_app, e1, e2]
 omega
theorem lterms_ok {vs : List W} (h : Vs 4 vs) (st : S) : op_l_terms [.tup vs] st = .ok (.str (inPar vs)) st := by
 have tl := terms_len h
 have e1 : ("(" : Str).length = 1 := by decide +kernel
 have e2 : (")" : Str).length = 1 := by decide +kernel
 unfold op_l_terms
 rw [ev_op1]
 unfold r_l_terms
 rw [ret_ok (add2 (add2 (ev_con _) (terms_run h) (by omega)) (ev_con _) (by rw [len_app]; omega))]; rfl
def factT (n : Str) (vs : List W) : Str := if vs.isEmpty = true then n else n ++ inPar vs
theorem fact_len {n : Str} {vs : List W} (hn : n.length ≤ 8) (h : Vs 4 vs) : (factT n vs).length ≤ 58 := by
 unfold factT
 have := par_len h
 split
 ·omega
 ·rw [len_app]; omega
theorem len_eq (n : Str) (vs : List W) {Γ : Ga} {st : S} : run2 (runN (runsCons (rVar 0) runsNil) opLen) (rCon (W.int 1)) opEq (some (.tup (.str n :: vs)) :: Γ) st = .ok (.bl vs.isEmpty) st := by
 rw [ev_run2, ev_runN, ev_cons, ev_v0, ev_ok, ev_nil, ev_ok, ev_ok, ev_lenT, ev_ok, ev_con, ev_ok, ev_eqI]
 cases vs with
 | nil => rfl
 | cons v vs =>
  have : ((((W.str n :: v :: vs).length : Nat) : Int) == 1) = false := by
   rw [beq_eq_false_iff_ne, List.length_cons, List.length_cons]; omega
  rw [this]; rfl
theorem head_run (n : W) (vs : List W) {Γ : Ga} {st : S} : run2 (rVar 0) (rCon (W.int 0)) opIdx (some (.tup (n :: vs)) :: Γ) st = .ok n st := by
 rw [ev_run2, ev_v0, ev_ok, ev_con, ev_ok, idx0T]
theorem tail_run (n : W) (vs : List W) {Γ : Ga} {st : S} : runSlSN false (rVar 0) (rCon (W.int 1)) (some (.tup (n :: vs)) :: Γ) st = .ok (.tup vs) st := by
 rw [ev_slSN, ev_v0, ev_ok, ev_con, ev_ok, kLo_int, ev_slT, cut1]
theorem fact_ok {n : Str} {vs : List W} (hn : n.length ≤ 8) (h : Vs 4 vs) (st : S) : op_shown_fact [.tup (.str n :: vs)] st = .ok (.str (factT n vs)) st := by
 have tl := terms_len h
 have e1 : ("(" : Str).length = 1 := by decide +kernel
 have e2 : (")" : Str).length = 1 := by decide +kernel
 unfold op_shown_fact
 rw [ev_op1]
 unfold r_shown_fact factT
 rw [ev_seq, ev_if, len_eq, ev_ok, kIf_bl]
 cases hv : vs.isEmpty with
 | true => rw [if_pos rfl, ret_ok (head_run _ _), ev_ok, kSeq_rt]; rfl
 | false =>
  rw [if_neg Bool.false_ne_true, ev_pass, ev_ok, kSeq_nx, ret_ok (add2 (add2 (add2 (head_run _ _) (ev_con _) (by omega)) (callN1 (tail_run _ _) (terms_ok h st)) (by rw [len_app]; omega)) (ev_con _) (by rw [len_app, len_app]; omega))]
  unfold inPar
  rw [if_neg Bool.false_ne_true, ← app_assoc, ← app_assoc]; rfl
theorem lfact_ok {n : Str} {vs : List W} (hn : n.length ≤ 8) (h : Vs 4 vs) (st : S) : op_l_fact [.tup (.str n :: vs)] st = .ok (.str (factT n vs)) st := by
 have tl := par_len h
 unfold op_l_fact
 rw [ev_op1]
 unfold r_l_fact factT
 rw [ev_seq, ev_if, len_eq, ev_ok, kIf_bl]
 cases hv : vs.isEmpty with
 | true => rw [if_pos rfl, ret_ok (head_run _ _), ev_ok, kSeq_rt]; rfl
 | false =>
  rw [if_neg Bool.false_ne_true, ev_pass, ev_ok, kSeq_nx, ret_ok (add2 (head_run _ _) (callN1 (tail_run _ _) (lterms_ok h st)) (by omega)), if_neg Bool.false_ne_true]; rfl
end DL.My
namespace DL.My
open PySem L2
def nms : List Str := ["road", "town", "load", "rain", "way", "far", "top", "cost", "peak"]
def Fact (j : Nat) (f : W) : Prop := j < 9 ∧ ∃ vs, f = .tup (.str (nms.getD j "") :: vs) ∧ Vs 4 vs
def ixF : W → Nat
 | .tup (.str n :: _) => nms.findIdx (fun m => m == n) + 1
 | _ => 0
def fT : W → Str
 | .tup (.str n :: vs) => factT n vs
 | _ => ""
theorem ix_fact {j : Nat} {f : W} (h : Fact j f) : ixF f = j + 1 := by
 obtain ⟨hj, vs, rfl, _⟩ := h
 have : ∀ j, j < 9 → nms.findIdx (fun m => m == nms.getD j "") = j := by decide +kernel
 show nms.findIdx (fun m => m == nms.getD j "") + 1 = j + 1
 rw [this j hj]
theorem nm_len {j : Nat} (h : j < 9) : (nms.getD j "").length ≤ 8 := by
 have : ∀ j, j < 9 → (nms.getD j "").length ≤ 8 := by decide +kernel
 exact this j h
theorem nm_ne {i j : Nat} (hi : i < 9) (hj : j < 9) (h : i ≠ j) : (nms.getD i "" == nms.getD j "") = false := by
 have : ∀ i, i < 9 → ∀ j, j < 9 → i ≠ j → (nms.getD i "" == nms.getD j "") = false := by decide +kernel
 exact this i hi j hj h
theorem sh_small {k : Nat} (h : k ≤ 20) : (sh (.int (k : Nat))).length ≤ 10 := by
 have : ∀ k, k < 21 → (sh (.int (k : Nat))).length ≤ 10 := by decide +kernel
 exact this k (by omega)
theorem fact_txt {j : Nat} {f : W} (h : Fact j f) (st : S) : op_shown_fact [f] st = .ok (.str (fT f)) st ∧ op_l_fact [f] st = .ok (.str (fT f)) st ∧ (fT f).length ≤ 58 := by
 obtain ⟨hj, vs, rfl, hv⟩ := h
 exact ⟨fact_ok (nm_len hj) hv st, lfact_ok (nm_len hj) hv st, fact_len (nm_len hj) hv⟩
theorem va_eq {v w : W} (hv : Va v) (hw : Va w) : ∃ c, eqD 11 v w = some c ∧ (v = w → c = true) := by
 have h1 : ∃ c, eqD 11 v w = some c := by
  refine va_cases (P := fun v => ∃ c, eqD 11 v w = some c) ?_ ?_ ?_ ?_ ?_ ?_ ?_ hv
  all_goals
   refine va_cases (P := fun w => ∃ c, eqD 11 _ w = some c) ?_ ?_ ?_ ?_ ?_ ?_ ?_ hw
   all_goals exact ⟨_, rfl⟩
 obtain ⟨c, hc⟩ := h1
 refine ⟨c, hc, fun e => ?_⟩
 subst e
 have h2 : eqD 11 v v = some true := by
  refine va_cases (P := fun v => eqD 11 v v = some true) ?_ ?_ ?_ ?_ ?_ ?_ ?_ hv <;> decide +kernel
 rw [h2] at hc
 exact (Option.some.inj hc).symm
theorem vs_eq : ∀ {vs ws : List W}, (∀ v ∈ vs, Va v) → (∀ w ∈ ws, Va w) → ∃ c, eqItems (eqD 11) vs ws = some c ∧ (vs = ws → c = true)
 | [], _, _, _ => ⟨true, by unfold eqItems; rfl, fun _ => rfl⟩
 | _ :: _, [], _, _ => ⟨true, by unfold eqItems; rfl, fun _ => rfl⟩
 | v :: vs, w :: ws, h1, h2 => by
  obtain ⟨a, ha, ea⟩ := va_eq (h1 v List.mem_cons_self) (h2 w List.mem_cons_self)
  obtain ⟨b, hb, eb⟩ := vs_eq (fun x hx => h1 x (List.mem_cons_of_mem _ hx)) (fun x hx => h2 x (List.mem_cons_of_mem _ hx))
  refine ⟨a && b, by unfold eqItems; rw [ha, hb], fun e => ?_⟩
  injection e with e1 e2
  rw [ea e1, eb e2]; rfl
theorem fact_eq {i j : Nat} {f g : W} (hf : Fact i f) (hg : Fact j g) : ∃ c, eqD 12 f g = some c ∧ (i ≠ j → c = false) ∧ (f = g → c = true) := by
 obtain ⟨hi, vs, rfl, hv⟩ := hf
 obtain ⟨hj, ws, rfl, hw⟩ := hg
 obtain ⟨b, hb, eb⟩ := vs_eq hv.1 hw.1
 have e0 : eqD 11 (.str (nms.getD i "")) (.str (nms.getD j "")) = some (nms.getD i "" == nms.getD j "") := rfl
 have e1 : eqItems (eqD 11) (.str (nms.getD i "") :: vs) (.str (nms.getD j "") :: ws) = some ((nms.getD i "" == nms.getD j "") && b) := by
  unfold eqItems
  rw [e0, hb]
 refine ⟨_, (show (eqItems (eqD 11) (W.str (nms.getD i "") :: vs) (W.str (nms.getD j "") :: ws)).map (fun r => r && (W.str (nms.getD i "") :: vs).length == (W.str (nms.getD j "") :: ws).length) = _ by rw [e1]; rfl), fun h => ?_, fun h => ?_⟩
 ·rw [nm_ne hi hj h]; rfl
 ·injection h with h
  injection h with h1 h2
  injection h1 with h1
  rw [h1, eb h2, h2]
  simp
theorem first_fact {i : Nat} {f : W} : ∀ (fs : List W) (o j : Nat), (∀ m g, fs[m]? = some g → Fact (o + m) g) → fs[j]? = some f → o + j = i → Fact i f → firstD f fs = some j ∧ (inD f fs).isSome = true
 | [], _, _, _, h, _, _ => by simp at h
 | g :: fs, o, j, hF, h, hi, hf => by
  have hg := hF 0 g rfl
  obtain ⟨c, hc, c0, c1⟩ := fact_eq hg hf
  have allD : ∀ (gs : List W) (o : Nat), (∀ m g, gs[m]? = some g → Fact (o + m) g) → (inD f gs).isSome = true := by
   intro gs
   induction gs with
   | nil => intro _ _; rfl
   | cons g gs ih =>
    intro o hG
    obtain ⟨c, hc, _⟩ := fact_eq (hG 0 g rfl) hf
    have := ih (o + 1) fun m g hm => by rw [show o + 1 + m = o + (m + 1) by omega]; exact hG (m + 1) g hm
    obtain ⟨b, hb⟩ := Option.isSome_iff_exists.mp this
    unfold inD
    rw [hc, hb]; rfl
  refine ⟨?_, allD _ o hF⟩
  unfold firstD
  rw [hc]
  cases j with
  | zero =>
   have e : g = f := by simpa using h
   rw [c1 e]
  | succ j =>
   rw [c0 (by omega)]
   have := (first_fact fs (o + 1) j (fun m g hm => by rw [show o + 1 + m = o + (m + 1) by omega]; exact hF (m + 1) g hm) (by simpa using h) (by omega) hf).1
   show (firstD f fs).map (· + 1) = _
   rw [this]; rfl
theorem va_key {v : W} (h : Va v) : ∃ k, keyW0 v = some k := by
 refine va_cases (P := fun v => ∃ k, keyW0 v = some k) ?_ ?_ ?_ ?_ ?_ ?_ ?_ h <;> exact ⟨_, rfl⟩
theorem vs_key : ∀ {vs : List W}, (∀ v ∈ vs, Va v) → ∃ ks, keysW vs = some ks
 | [], _ => ⟨[], rfl⟩
 | v :: vs, h => by
  obtain ⟨k, hk⟩ := va_key (h v List.mem_cons_self)
  obtain ⟨ks, hs⟩ := vs_key fun x hx => h x (List.mem_cons_of_mem _ hx)
  exact ⟨k :: ks, by unfold keysW; rw [hk, hs]⟩
def keyF (f : W) : DKey := (keyW f).getD []
theorem key_fact {j : Nat} {f : W} (h : Fact j f) : keyW f = some (keyF f) ∧ ∃ r, keyF f = .inr (nms.getD j "") :: r := by
 obtain ⟨hj, vs, rfl, hv⟩ := h
 obtain ⟨ks, hs⟩ := vs_key hv.1
 have e : keyW (.tup (.str (nms.getD j "") :: vs)) = some (.inr (nms.getD j "") :: ks) := by
  show keysW (.str (nms.getD j "") :: vs) = _
  unfold keysW
  rw [hs]; rfl
 unfold keyF
 rw [e]
 exact ⟨rfl, ks, rfl⟩
theorem key_ne {i j : Nat} {f g : W} (hf : Fact i f) (hg : Fact j g) (h : i ≠ j) : keyF f ≠ keyF g := by
 obtain ⟨_, r, e1⟩ := key_fact hf
 obtain ⟨_, r', e2⟩ := key_fact hg
 rw [e1, e2]
 intro e
 injection e with e _
 injection e with e
 have := nm_ne hf.1 hg.1 h
 rw [e] at this
 simp at this
end DL.My
namespace DL.My
open PySem L2
inductive Gr (P : W → Prop) : W → Prop
 | has {f : W} : P f → Gr P (.tup [.str "has", f])
 | not {j : Nat} {f : W} : Fact j f → Gr P (.tup [.str "not", f])
 | test {k : Str} {vs : List W} : (k = "plus" ∨ k = "less" ∨ k = "same") → Vs 4 vs → vs ≠ [] → Gr P (.tup (.str k :: vs))
theorem Gr.mono {P P' : W → Prop} (h : ∀ f, P f → P' f) {g : W} (hg : Gr P g) : Gr P' g := by
 cases hg with
 | has p => exact .has (h _ p)
 | not p => exact .not p
 | test a b c => exact .test a b c
def hd : List W → W
 | w :: _ => w
 | [] => .non
def groundT : W → Str
 | .tup (.str k :: r) => if (k == "has") = true then sh (.int (ixF (hd r) : Nat)) else if (k == "not") = true then "not " ++ fT (hd r) else k ++ inPar r
 | _ => ""
theorem k_test {k : Str} (h : k = "plus" ∨ k = "less" ∨ k = "same") : (k == "has") = false ∧ (k == "not") = false ∧ k.length ≤ 8 := by
 rcases h with rfl | rfl | rfl <;> decide +kernel
theorem nh : (("not" : Str) == "has") = false := by decide +kernel
theorem gT (k : Str) (r : List W) : groundT (.tup (.str k :: r)) = if (k == "has") = true then sh (.int (ixF (hd r) : Nat)) else if (k == "not") = true then "not " ++ fT (hd r) else k ++ inPar r := rfl
theorem gT_has (f : W) : groundT (.tup [.str "has", f]) = sh (.int (ixF f : Nat)) := by
 rw [gT, if_pos (by decide +kernel)]; rfl
theorem gT_not (f : W) : groundT (.tup [.str "not", f]) = "not " ++ fT f := by
 rw [gT, nh, if_neg Bool.false_ne_true, if_pos (by decide +kernel)]; rfl
theorem gT_test {k : Str} (vs : List W) (h : k = "plus" ∨ k = "less" ∨ k = "same") : groundT (.tup (.str k :: vs)) = k ++ inPar vs := by
 rw [gT, (k_test h).1, (k_test h).2.1, if_neg Bool.false_ne_true, if_neg Bool.false_ne_true]
theorem ground_len {P : W → Prop} (hP : ∀ f, P f → ∃ j, Fact j f) {g : W} (h : Gr P g) : (groundT g).length ≤ 70 := by
 cases h with
 | has p =>
  obtain ⟨j, hj⟩ := hP _ p
  rw [gT_has, ix_fact hj]
  exact Nat.le_trans (sh_small (k := j + 1) (by have := hj.1; omega)) (by decide)
 | not hf =>
  rw [gT_not, len_app]
  have := (fact_txt hf st0).2.2
  have e : ("not " : Str).length = 4 := by decide +kernel
  omega
 | @test k vs hk hv hn =>
  obtain ⟨k1, k2, k3⟩ := k_test hk
  rw [gT_test vs hk, len_app]
  have := par_len hv
  omega
theorem kind_run (k : Str) (r : List W) (y : Str) {Γ : Ga} {st : S} : run2 (run2 (rVar 0) (rCon (W.int 0)) opIdx) (rCon (W.str y)) opEq (some (.tup (.str k :: r)) :: Γ) st = .ok (.bl (k == y)) st := by
 rw [ev_run2, head_run, ev_ok, ev_con, ev_ok, ev_eqS]
theorem one_run (x f : W) (r : List W) {Γ : Ga} {st : S} : run2 (rVar 0) (rCon (W.int 1)) opIdx (some (.tup (x :: f :: r)) :: Γ) st = .ok f st := by
 rw [ev_run2, ev_v0, ev_ok, ev_con, ev_ok, idx1T]
theorem part_ok {P : W → Prop} {g : W} (h : Gr P g) (hn : ∀ f, g ≠ .tup [.str "has", f]) (st : S) : op_shown_part [g] st = .ok (.str (groundT g)) st := by
 cases h with
 | @has f p => exact absurd rfl (hn f)
 | @not j f hf =>
  obtain ⟨h1, _, h3⟩ := fact_txt hf st
  have e : ("not " : Str).length = 4 := by decide +kernel
  unfold op_shown_part
  rw [ev_op1]
  unfold r_shown_part
  rw [ev_seq, ev_if, kind_run, ev_ok, kIf_bl, nh, if_neg Bool.false_ne_true, ev_pass, ev_ok, kSeq_nx, ev_seq, ev_if, kind_run, ev_ok, kIf_bl, if_pos (by decide +kernel), ret_ok (add2 (ev_con _) (callN1 (one_run _ _ _) h1) (by omega)), ev_ok, kSeq_rt]
  rw [gT_not]; rfl
 | @test k vs hk hv hne =>
  obtain ⟨k1, k2, k3⟩ := k_test hk
  have h1 := fact_ok (n := k) k3 hv st
  unfold op_shown_part
  rw [ev_op1]
  unfold r_shown_part
  rw [ev_seq, ev_if, kind_run, ev_ok, kIf_bl, k1, if_neg Bool.false_ne_true, ev_pass, ev_ok, kSeq_nx, ev_seq, ev_if, kind_run, ev_ok, kIf_bl, k2, if_neg Bool.false_ne_true, ev_pass, ev_ok, kSeq_nx, ret_to (callN1 (ev_v0 _) h1)]
  rw [gT_test vs hk]
  unfold factT
  rw [if_neg (by cases vs with | nil => exact absurd rfl hne | cons _ _ => exact Bool.false_ne_true)]; rfl
theorem ground_ok {P : W → Prop} {d g : W} {st : S} (hD : ∀ f, P f → ∃ j, Fact j f ∧ opIdx d f st = .ok (.int ((j + 1 : Nat) : Int)) st) (h : Gr P g) : op_drawn_ground [g, d] st = .ok (.str (groundT g)) st := by
 have notHas : ∀ (k : Str) (r : List W), g = .tup (.str k :: r) → (k == "has") = false → op_shown_part [g] st = .ok (.str (groundT g)) st → op_drawn_ground [g, d] st = .ok (.str (groundT g)) st := by
  intro k r e hk hp
  rw [e] at hp ⊢
  unfold op_drawn_ground
  rw [ev_op2]
  unfold r_drawn_ground
  rw [ev_seq, ev_if, kind_run, ev_ok, kIf_bl, hk, if_neg Bool.false_ne_true, ev_pass, ev_ok, kSeq_nx, ret_to (callN1 (ev_v0 _) hp)]; rfl
 cases h with
 | @has f p =>
  obtain ⟨j, hj, hi⟩ := hD f p
  have hj9 := hj.1
  unfold op_drawn_ground
  rw [ev_op2]
  unfold r_drawn_ground
  have e : runN (runsCons (run2 (rVar 1) (run2 (rVar 0) (rCon (W.int 1)) opIdx) opIdx) runsNil) opStr [some (.tup [.str "has", f]), some d] st = .ok (.str (sh (.int ((j + 1 : Nat) : Int)))) st := by
   rw [ev_runN, ev_cons, ev_run2, ev_v1, ev_ok, one_run, ev_ok, hi, ev_ok, ev_nil, ev_ok, ev_ok]
   exact int_str (by omega)
  rw [show List.replicate (2 - 2) (none : Option W) = [] from rfl, ev_seq, ev_if, kind_run, ev_ok, kIf_bl, if_pos (by decide +kernel), ret_ok e, ev_ok, kSeq_rt]
  rw [gT_has, ix_fact hj]; rfl
 | not hf => exact notHas _ _ rfl nh (part_ok (P := P) (.not hf) (fun _ h => by cases h) st)
 | test hk h2 h3 => exact notHas _ _ rfl (k_test hk).1 (part_ok (P := P) (.test hk h2 h3) (fun _ h => by rw [(W.str.inj (List.cons.inj (W.tup.inj h)).1)] at hk; exact absurd (k_test hk).1 (by decide +kernel)) st)
def fstW : W → W
 | .tup (f :: _) => f
 | _ => .non
theorem compGoL_map {n : Nat} {all : List W} {re : Run} {Γc : Ga} {st : S} (f : W → W) (hm : st.mu n = some (.lst all)) : ∀ (items acc : List W), (∀ x ∈ items, re (some x :: Γc) st = .ok (f x) st) → compGoL n all re Γc items acc st = .ok (acc ++ items.map f) st
 | [], acc, _ => by unfold compGoL; rw [if_pos hm, List.map_nil, List.append_nil]
 | x :: xs, acc, h => by
  unfold compGoL
  rw [if_pos hm, h x List.mem_cons_self]
  show compGoL n all re Γc xs (acc ++ [f x]) st = _
  rw [compGoL_map f hm xs _ fun y hy => h y (List.mem_cons_of_mem _ hy), List.map_cons, List.append_assoc]; rfl
def RowOk (row : List W) : Prop := row.length ≤ 9 ∧ ∀ i p, row[i]? = some p → ∃ f c, p = W.tup [f, c] ∧ Fact i f
def InRow (row : List W) (f : W) : Prop := ∃ (i : Nat) (c : W), row[i]? = some (W.tup [f, c])
theorem InRow.fact {row : List W} (h : RowOk row) {f : W} (p : InRow row f) : ∃ j, Fact j f ∧ (row.map fstW)[j]? = some f := by
 obtain ⟨i, c, hi⟩ := p
 obtain ⟨f', c', e, hf⟩ := h.2 i _ hi
 cases e
 exact ⟨i, hf, by rw [List.getElem?_map, hi]; rfl⟩
theorem index_run {row : List W} {n : Nat} {f g : W} {st : S} (h : RowOk row) (hm : st.mu n = some (.lst row)) (p : InRow row f) {ra : Run} (ha : ra [some g, some (.ref n)] st = .ok f st) :
  ∃ j, Fact j f ∧ runM "list" (runCompL false (rVar 1) [] (run2 (rVar 0) (rCon (W.int 0)) opIdx)) (runsCons ra runsNil) opIndexD [some g, some (.ref n)] st = .ok (.int (j : Nat)) st := by
 obtain ⟨j, hj, hg⟩ := p.fact h
 refine ⟨j, hj, ?_⟩
 have hc : runCompL false (rVar 1) [] (run2 (rVar 0) (rCon (W.int 0)) opIdx) [some g, some (.ref n)] st = .ok (.lst (row.map fstW)) st := by
  unfold runCompL
  rw [ev_v1, ev_ok]
  show (match st.mu n with
   | some (.lst xs) => if xs.length < sizeLine then (compGoL n xs (run2 (rVar 0) (rCon (W.int 0)) opIdx) (capG [] [some g, some (.ref n)]) xs [] st).bind (opL false) else .stuck
   | _ => .stuck) = _
  rw [hm]
  show (if row.length < sizeLine then (compGoL n row (run2 (rVar 0) (rCon (W.int 0)) opIdx) (capG [] [some g, some (.ref n)]) row [] st).bind (opL false) else .stuck) = _
  rw [if_pos (Nat.lt_of_le_of_lt h.1 (by decide)), compGoL_map fstW hm row [] (fun x hx => by
   obtain ⟨i, hi⟩ := List.mem_iff_getElem?.mp hx
   obtain ⟨f', c', rfl, _⟩ := h.2 i x hi
   exact head_run _ _), ev_ok, List.nil_append]
  exact ev_lst _ (by rw [List.length_map]; exact Nat.le_trans h.1 (by decide))
 obtain ⟨q1, q2⟩ := first_fact (i := j) (f := f) (row.map fstW) 0 j (fun m x hx => by
  rw [List.getElem?_map] at hx
  cases hr : row[m]? with
  | none => rw [hr] at hx; cases hx
  | some p =>
   rw [hr] at hx
   obtain ⟨f', c', rfl, hf'⟩ := h.2 m p hr
   cases hx
   rw [Nat.zero_add]; exact hf') hg (Nat.zero_add _) hj
 unfold runM
 rw [hc, ev_ok, if_pos (show kindW st (.lst (row.map fstW)) = some "list" from rfl), ev_cons, ha, ev_ok, ev_nil, ev_ok, ev_ok]
 show (if (inD f (row.map fstW)).isSome = true then (match firstD f (row.map fstW) with | some j => R.ok (W.int (j : Nat)) st | none => .stuck) else .stuck) = _
 rw [if_pos q2, q1]
theorem lground_ok {row : List W} {n : Nat} {g : W} {st : S} (hr : RowOk row) (hm : st.mu n = some (.lst row)) (h : Gr (InRow row) g) : op_l_ground [g, .ref n] st = .ok (.str (groundT g)) st := by
 unfold op_l_ground
 rw [ev_op2]
 unfold r_l_ground
 rw [show List.replicate (2 - 2) (none : Option W) = [] from rfl]
 cases h with
 | @has f p =>
  obtain ⟨j, hj, hi⟩ := index_run (g := .tup [.str "has", f]) hr hm p (ra := run2 (rVar 0) (rCon (W.int 1)) opIdx) (one_run _ _ _)
  have hj9 := hj.1
  have e : runN (runsCons (run2 (rCon (W.int 1)) (runM "list" (runCompL false (rVar 1) [] (run2 (rVar 0) (rCon (W.int 0)) opIdx)) (runsCons (run2 (rVar 0) (rCon (W.int 1)) opIdx) runsNil) opIndexD) opAdd) runsNil) opStr [some (.tup [.str "has", f]), some (.ref n)] st = .ok (.str (sh (.int ((j + 1 : Nat) : Int)))) st := by
   rw [ev_runN, ev_cons, ev_run2, ev_con, ev_ok, hi, ev_ok, ev_addI, ev_ok, ev_nil, ev_ok, ev_ok, show (1 : Int) + (j : Nat) = ((j + 1 : Nat) : Int) by omega]
   exact int_str (by omega)
  rw [ev_seq, ev_if, kind_run, ev_ok, kIf_bl, if_pos (by decide +kernel), ret_ok e, ev_ok, kSeq_rt]
  rw [gT_has, ix_fact hj]; rfl
 | @not j f hf =>
  obtain ⟨_, h1, h3⟩ := fact_txt hf st
  have e : ("not " : Str).length = 4 := by decide +kernel
  rw [ev_seq, ev_if, kind_run, ev_ok, kIf_bl, nh, if_neg Bool.false_ne_true, ev_pass, ev_ok, kSeq_nx, ev_seq, ev_if, kind_run, ev_ok, kIf_bl, if_pos (by decide +kernel), ret_ok (add2 (ev_con _) (callN1 (one_run _ _ _) h1) (by omega)), ev_ok, kSeq_rt]
  rw [gT_not]; rfl
 | @test k vs hk hv hn =>
  obtain ⟨k1, k2, k3⟩ := k_test hk
  have tl := par_len hv
  rw [ev_seq, ev_if, kind_run, ev_ok, kIf_bl, k1, if_neg Bool.false_ne_true, ev_pass, ev_ok, kSeq_nx, ev_seq, ev_if, kind_run, ev_ok, kIf_bl, k2, if_neg Bool.false_ne_true, ev_pass, ev_ok, kSeq_nx, ret_ok (add2 (head_run _ _) (callN1 (tail_run _ _) (lterms_ok hv st)) (by omega))]
  rw [gT_test vs hk]; rfl
end DL.My
namespace DL.My
open PySem L2
def Gs (P : W → Prop) (gs : List W) : Prop := (∀ g ∈ gs, Gr P g) ∧ gs.length ≤ 6
theorem Gs.mono {P P' : W → Prop} (h : ∀ f, P f → P' f) {gs : List W} (hg : Gs P gs) : Gs P' gs := ⟨fun g hx => (hg.1 g hx).mono h, hg.2⟩
def groundsT (gs : List W) : Str := Txt.join ", " (gs.map groundT)
theorem grounds_len {P : W → Prop} (hP : ∀ f, P f → ∃ j, Fact j f) {gs : List W} (h : Gs P gs) : (groundsT gs).length ≤ 432 := by
 have := join_len ", " 70 (gs.map groundT) (fun y hy => by obtain ⟨v, hv, rfl⟩ := List.mem_map.mp hy; exact ground_len hP (h.1 v hv))
 rw [List.length_map, show (", " : Str).length = 2 by decide +kernel] at this
 have h2 : gs.length * (70 + 2) ≤ 6 * 72 := Nat.mul_le_mul h.2 (Nat.le_refl _)
 unfold groundsT
 omega
theorem join_run {op : OpN} {P : W → Prop} (hP : ∀ f, P f → ∃ j, Fact j f) {gs : List W} {d : W} {st : S} (h : Gs P gs) (ho : ∀ g, Gr P g → op [g, d] st = .ok (.str (groundT g)) st) :
  runM "str" (rCon (W.str ", ")) (runsCons (runComp false (runSrc (rVar 0)) [1] (rCon (.bl true)) (runN (runsCons (rVar 0) (runsCons (rVar 1) runsNil)) (calmOp op))) runsNil) opJoin [some (.tup gs), some d] st = .ok (.str (groundsT gs)) st := by
 have hc := comp_map (cap := [1]) (src := runSrc (rVar 0)) (re := runN (runsCons (rVar 0) (runsCons (rVar 1) runsNil)) (calmOp op)) (Γ := [some (.tup gs), some d]) (st := st) (items := gs) (fun g => .str (groundT g)) rfl (Nat.lt_of_le_of_lt h.2 (by decide)) (fun x hx => callN2 rfl rfl (ho x (h.1 x hx)))
 have e : (gs.map fun w => W.str (groundT w)) = (gs.map groundT).map W.str := by rw [List.map_map]; rfl
 unfold runM
 rw [ev_con, ev_ok, if_pos (show kindW st (.str ", ") = some "str" from rfl), ev_cons, hc, ev_ok, ev_nil, ev_ok, ev_ok, e]
 exact join_op (by decide +kernel) 70 (by decide) (fun y hy => by obtain ⟨v, hv, rfl⟩ := List.mem_map.mp hy; exact ground_len hP (h.1 v hv)) (by rw [List.length_map]; have := h.2; omega)
theorem grounds_ok {P : W → Prop} {d : W} {st : S} (hD : ∀ f, P f → ∃ j, Fact j f ∧ opIdx d f st = .ok (.int ((j + 1 : Nat) : Int)) st) {gs : List W} (h : Gs P gs) : op_drawn_grounds [.tup gs, d] st = .ok (.str (groundsT gs)) st := by
 unfold op_drawn_grounds
 rw [ev_op2]
 unfold r_drawn_grounds
 rw [show List.replicate (2 - 2) (none : Option W) = [] from rfl, ret_ok (join_run (fun f p => let ⟨j, hj, _⟩ := hD f p; ⟨j, hj⟩) h fun g hg => ground_ok hD hg)]; rfl
theorem lgrounds_ok {row : List W} {n : Nat} {st : S} (hr : RowOk row) (hm : st.mu n = some (.lst row)) {gs : List W} (h : Gs (InRow row) gs) : op_l_grounds [.tup gs, .ref n] st = .ok (.str (groundsT gs)) st := by
 unfold op_l_grounds
 rw [ev_op2]
 unfold r_l_grounds
 rw [show List.replicate (2 - 2) (none : Option W) = [] from rfl, ret_ok (join_run (fun f p => let ⟨j, hj, _⟩ := p.fact hr; ⟨j, hj⟩) h fun g hg => lground_ok hr hm hg)]; rfl
def gsW : W → Str
 | .tup gs => groundsT gs
 | _ => ""
inductive Re (P : W → Prop) : W → Prop
 | told : Re P (.tup [.str "told"])
 | by_ {n : Nat} {gs : List W} : n ≤ 20 → Gs P gs → Re P (.tup [.str "by", .int (n : Nat), .tup gs])
 | of_ {n : Nat} {key : W} {fs : List W} : n ≤ 20 → (∃ vs, key = .tup vs ∧ Vs 4 vs) → (∀ w ∈ fs, ∃ gs, w = .tup gs ∧ Gs P gs) → fs.length ≤ 3 → Re P (.tup [.str "of", .int (n : Nat), key, .tup fs])
theorem Re.mono {P P' : W → Prop} (h : ∀ f, P f → P' f) {r : W} (hr : Re P r) : Re P' r := by
 cases hr with
 | told => exact .told
 | by_ a b => exact .by_ a (b.mono h)
 | of_ a k b c => exact .of_ a k (fun w hw => let ⟨gs, e, g⟩ := b w hw; ⟨gs, e, g.mono h⟩) c
def tailT (n : Nat) (x : Str) : Str := " " ++ (sh (.int (n : Nat)) ++ (" from " ++ x))
def fillsT (fs : List W) : Str := Txt.join "; " (fs.map gsW)
def tupW : W → List W
 | .tup xs => xs
 | _ => []
def bodyT (r : List W) : Str := if r.length = 1 then gsW (hd r) else fillsT (tupW (hd r.tail))
def reasonT : W → Str
 | .tup (.str k :: .int n :: r) => k ++ tailT n.toNat (bodyT r)
 | .tup (.str k :: _) => k
 | _ => ""
theorem fills_len {P : W → Prop} (hP : ∀ f, P f → ∃ j, Fact j f) {fs : List W} (h : ∀ w ∈ fs, ∃ gs, w = .tup gs ∧ Gs P gs) (hl : fs.length ≤ 3) : (fillsT fs).length ≤ 1302 := by
 have := join_len "; " 432 (fs.map gsW) (fun y hy => by
  obtain ⟨v, hv, rfl⟩ := List.mem_map.mp hy
  obtain ⟨gs, rfl, hg⟩ := h v hv
  exact grounds_len hP hg)
 rw [List.length_map, show ("; " : Str).length = 2 by decide +kernel] at this
 have h2 : fs.length * (432 + 2) ≤ 3 * 434 := Nat.mul_le_mul hl (Nat.le_refl _)
 unfold fillsT
 omega
theorem tail_len {n : Nat} {x : Str} (hn : n ≤ 20) : (tailT n x).length ≤ x.length + 20 := by
 unfold tailT
 have := sh_small hn
 rw [len_app, len_app, len_app, show (" " : Str).length = 1 by decide +kernel, show (" from " : Str).length = 6 by decide +kernel]
 omega
theorem reason_len {P : W → Prop} (hP : ∀ f, P f → ∃ j, Fact j f) {r : W} (h : Re P r) : (reasonT r).length ≤ 1400 := by
 cases h with
 | told => decide +kernel
 | @by_ n gs hn hg =>
  show (("by" : Str) ++ tailT (Int.toNat (n : Nat)) (groundsT gs)).length ≤ 1400
  rw [Int.toNat_natCast, len_app, show ("by" : Str).length = 2 by decide +kernel]
  have := tail_len (x := groundsT gs) hn
  have := grounds_len hP hg
  omega
 | @of_ n key fs hn hk hf hl =>
  show (("of" : Str) ++ tailT (Int.toNat (n : Nat)) (fillsT fs)).length ≤ 1400
  rw [Int.toNat_natCast, len_app, show ("of" : Str).length = 2 by decide +kernel]
  have := tail_len (x := fillsT fs) hn
  have := fills_len hP hf hl
  omega
theorem fills_run {op : OpN} {P : W → Prop} (hP : ∀ f, P f → ∃ j, Fact j f) {fs : List W} {d : W} {st : S} {Γ : Ga} {src : Src} {c : Nat} (hs : src Γ st = .ok fs st) (hc : capG [c] Γ = [some d]) (h : ∀ w ∈ fs, ∃ gs, w = .tup gs ∧ Gs P gs) (hl : fs.length ≤ 3) (ho : ∀ gs, Gs P gs → op [.tup gs, d] st = .ok (.str (groundsT gs)) st) :
  runComp false src [c] (rCon (.bl true)) (runN (runsCons (rVar 0) (runsCons (rVar 1) runsNil)) (calmOp op)) Γ st = .ok (.lst ((fs.map gsW).map W.str)) st ∧ opJoin (.str "; ") [.lst ((fs.map gsW).map W.str)] st = .ok (.str (fillsT fs)) st := by
 constructor
 ·rw [comp_map (cap := [c]) (fun g => .str (gsW g)) hs (Nat.lt_of_le_of_lt hl (by decide)) (fun x hx => by
   obtain ⟨gs, rfl, hg⟩ := h x hx
   rw [hc]
   exact callN2 rfl rfl (ho gs hg)), List.map_map]; rfl
 ·exact join_op (by decide +kernel) 432 (by decide) (fun y hy => by
   obtain ⟨v, hv, rfl⟩ := List.mem_map.mp hy
   obtain ⟨gs, rfl, hg⟩ := h v hv
   exact grounds_len hP hg) (by rw [List.length_map]; omega)
theorem reason_ok {P : W → Prop} {d : W} {st : S} (hD : ∀ f, P f → ∃ j, Fact j f ∧ opIdx d f st = .ok (.int ((j + 1 : Nat) : Int)) st) {r : W} (h : Re P r) : op_drawn_reason [r, d] st = .ok (.str (reasonT r)) st := by
 have hP : ∀ f, P f → ∃ j, Fact j f := fun f p => let ⟨j, hj, _⟩ := hD f p; ⟨j, hj⟩
 unfold op_drawn_reason
 rw [ev_op2]
 unfold r_drawn_reason
 rw [show List.replicate (4 - 2) (none : Option W) = [none, none] from rfl]
 cases h with
 | told => rw [ev_seq, ev_if, kind_run, ev_ok, kIf_bl, if_pos (by decide +kernel)]; rfl
 | @by_ n gs hn hg =>
  have sl := sh_small hn
  have gl := grounds_len hP hg
  have e1 : (" " : Str).length = 1 := by decide +kernel
  have e2 : (" from " : Str).length = 6 := by decide +kernel
  have e3 : ("by" : Str).length = 2 := by decide +kernel
  have c2 : runIf (run2 (run2 (rVar 0) (rCon (W.int 0)) opIdx) (rCon (W.str "by")) opEq) (runN (runsCons (run2 (rVar 0) (rCon (W.int 2)) opIdx) runsNil) (opL false)) (run2 (rVar 0) (rCon (W.int 3)) opIdx) [some (.tup [.str "by", .int (n : Nat), .tup gs]), some d, none, none] st = .ok (.lst [.tup gs]) st := by
   rw [ev_runIf, kind_run, ev_ok, kIf_bl, if_pos (by decide +kernel), ev_runN, ev_cons, ev_run2, ev_v0, ev_ok, ev_con, ev_ok, idx2T, ev_ok, ev_nil, ev_ok, ev_ok, ev_lst [W.tup gs] (show 1 ≤ sizeLine by decide)]
  obtain ⟨f1, f2⟩ := fills_run (op := op_drawn_grounds) (P := P) hP (fs := [.tup gs]) (d := d) (st := st) (Γ := [some (.tup [.str "by", .int (n : Nat), .tup gs]), some d, some (.lst [.tup gs]), none]) (src := runSrc (rVar 2)) (c := 1) rfl rfl (fun w hw => ⟨gs, List.mem_singleton.mp hw, hg⟩) (show 1 ≤ 3 by decide) (fun gs hg => grounds_ok hD hg)
  have ej : fillsT [.tup gs] = groundsT gs := join_one _ _
  rw [ej] at f2
  have c3 : runM "str" (rCon (W.str "; ")) (runsCons (runComp false (runSrc (rVar 2)) [1] (rCon (.bl true)) (runN (runsCons (rVar 0) (runsCons (rVar 1) runsNil)) (calmOp op_drawn_grounds))) runsNil) opJoin [some (.tup [.str "by", .int (n : Nat), .tup gs]), some d, some (.lst [.tup gs]), none] st = .ok (.str (groundsT gs)) st := by
   unfold runM
   rw [ev_con, ev_ok, if_pos (show kindW st (.str "; ") = some "str" from rfl), ev_cons, f1, ev_ok, ev_nil, ev_ok, ev_ok, f2]
  have cn : runN (runsCons (run2 (rVar 0) (rCon (W.int 1)) opIdx) runsNil) opStr [some (.tup [.str "by", .int (n : Nat), .tup gs]), some d, some (.lst [.tup gs]), some (.str (groundsT gs))] st = .ok (.str (sh (.int (n : Nat)))) st := by
   rw [ev_runN, ev_cons, one_run, ev_ok, ev_nil, ev_ok, ev_ok]
   exact int_str (by omega)
  rw [ev_seq, ev_if, kind_run, ev_ok, kIf_bl, show (("by" : Str) == "told") = false by decide +kernel, if_neg Bool.false_ne_true, ev_pass, ev_ok, kSeq_nx, ev_seq, e_set, c2, ev_ok, ks2, ev_ok, kSeq_nx, ev_seq, e_set, c3, ev_ok, ks3, ev_ok, kSeq_nx,
   ret_ok (add2 (add2 (add2 (add2 (head_run _ _) (ev_con _) (by omega)) cn (by rw [len_app]; omega)) (ev_con _) (by rw [len_app, len_app]; omega)) (ev_v3 _ _ _ _) (by rw [len_app, len_app, len_app]; omega))]
  show R.ok (W.str _) st = R.ok (W.str (("by" : Str) ++ tailT (Int.toNat (n : Nat)) (groundsT gs))) st
  unfold tailT
  rw [Int.toNat_natCast, app_assoc, app_assoc, app_assoc]
 | @of_ n key fs hn hk hf hl =>
  have sl := sh_small hn
  have gl := fills_len hP hf hl
  have e1 : (" " : Str).length = 1 := by decide +kernel
  have e2 : (" from " : Str).length = 6 := by decide +kernel
  have e3 : ("of" : Str).length = 2 := by decide +kernel
  have c2 : runIf (run2 (run2 (rVar 0) (rCon (W.int 0)) opIdx) (rCon (W.str "by")) opEq) (runN (runsCons (run2 (rVar 0) (rCon (W.int 2)) opIdx) runsNil) (opL false)) (run2 (rVar 0) (rCon (W.int 3)) opIdx) [some (.tup [.str "of", .int (n : Nat), key, .tup fs]), some d, none, none] st = .ok (.tup fs) st := by
   rw [ev_runIf, kind_run, ev_ok, kIf_bl, show (("of" : Str) == "by") = false by decide +kernel, if_neg Bool.false_ne_true, ev_run2, ev_v0, ev_ok, ev_con, ev_ok]
   exact ev_idxT _ _ _ (at_nat _ 3 _ rfl)
  obtain ⟨f1, f2⟩ := fills_run (op := op_drawn_grounds) (P := P) hP (fs := fs) (d := d) (st := st) (Γ := [some (.tup [.str "of", .int (n : Nat), key, .tup fs]), some d, some (.tup fs), none]) (src := runSrc (rVar 2)) (c := 1) rfl rfl hf hl (fun gs hg => grounds_ok hD hg)
  have c3 : runM "str" (rCon (W.str "; ")) (runsCons (runComp false (runSrc (rVar 2)) [1] (rCon (.bl true)) (runN (runsCons (rVar 0) (runsCons (rVar 1) runsNil)) (calmOp op_drawn_grounds))) runsNil) opJoin [some (.tup [.str "of", .int (n : Nat), key, .tup fs]), some d, some (.tup fs), none] st = .ok (.str (fillsT fs)) st := by
   unfold runM
   rw [ev_con, ev_ok, if_pos (show kindW st (.str "; ") = some "str" from rfl), ev_cons, f1, ev_ok, ev_nil, ev_ok, ev_ok, f2]
  have cn : runN (runsCons (run2 (rVar 0) (rCon (W.int 1)) opIdx) runsNil) opStr [some (.tup [.str "of", .int (n : Nat), key, .tup fs]), some d, some (.tup fs), some (.str (fillsT fs))] st = .ok (.str (sh (.int (n : Nat)))) st := by
   rw [ev_runN, ev_cons, one_run, ev_ok, ev_nil, ev_ok, ev_ok]
   exact int_str (by omega)
  rw [ev_seq, ev_if, kind_run, ev_ok, kIf_bl, show (("of" : Str) == "told") = false by decide +kernel, if_neg Bool.false_ne_true, ev_pass, ev_ok, kSeq_nx, ev_seq, e_set, c2, ev_ok, ks2, ev_ok, kSeq_nx, ev_seq, e_set, c3, ev_ok, ks3, ev_ok, kSeq_nx,
   ret_ok (add2 (add2 (add2 (add2 (head_run _ _) (ev_con _) (by omega)) cn (by rw [len_app]; omega)) (ev_con _) (by rw [len_app, len_app]; omega)) (ev_v3 _ _ _ _) (by rw [len_app, len_app, len_app]; omega))]
  show R.ok (W.str _) st = R.ok (W.str (("of" : Str) ++ tailT (Int.toNat (n : Nat)) (fillsT fs))) st
  unfold tailT
  rw [Int.toNat_natCast, app_assoc, app_assoc, app_assoc]
def pairT (k : Nat) : W → Str
 | .tup [f, c] => sh (.int (k : Nat)) ++ (" " ++ (fT f ++ (": " ++ reasonT c)))
 | _ => ""
theorem pair_ok {P : W → Prop} {d : W} {st : S} (hD : ∀ f, P f → ∃ j, Fact j f ∧ opIdx d f st = .ok (.int ((j + 1 : Nat) : Int)) st) {k j : Nat} {f c : W} (hk : k ≤ 20) (hf : Fact j f) (h : Re P c) : op_drawn_pair [.int (k : Nat), .tup [f, c], d] st = .ok (.str (pairT k (.tup [f, c]))) st := by
 have hP : ∀ f, P f → ∃ j, Fact j f := fun f p => let ⟨j, hj, _⟩ := hD f p; ⟨j, hj⟩
 have l1 := sh_small hk
 obtain ⟨h1, _, l2⟩ := fact_txt hf st
 have l3 := reason_len hP h
 have e1 : (" " : Str).length = 1 := by decide +kernel
 have e2 : (": " : Str).length = 2 := by decide +kernel
 unfold op_drawn_pair
 rw [ev_op3]
 unfold r_drawn_pair
 rw [show List.replicate (3 - 3) (none : Option W) = [] from rfl]
 have c0 : runN (runsCons (rVar 0) runsNil) opStr [some (.int (k : Nat)), some (.tup [f, c]), some d] st = .ok (.str (sh (.int (k : Nat)))) st := by
  rw [ev_runN, ev_cons, ev_v0, ev_ok, ev_nil, ev_ok, ev_ok]
  exact int_str (by omega)
 have c1 : run2 (rVar 1) (rCon (W.int 0)) opIdx [some (.int (k : Nat)), some (.tup [f, c]), some d] st = .ok f st := by rw [ev_run2, ev_v1, ev_ok, ev_con, ev_ok, idx0T]
 have c2 : run2 (rVar 1) (rCon (W.int 1)) opIdx [some (.int (k : Nat)), some (.tup [f, c]), some d] st = .ok c st := by rw [ev_run2, ev_v1, ev_ok, ev_con, ev_ok, idx1T]
 rw [ret_ok (add2 (add2 (add2 (add2 c0 (ev_con _) (by omega)) (callN1 c1 h1) (by rw [len_app]; omega)) (ev_con _) (by rw [len_app, len_app]; omega)) (callN2 c2 (ev_v2 _ _ _) (reason_ok hD h)) (by rw [len_app, len_app, len_app]; omega))]
 show R.ok (W.str _) st = R.ok (W.str (sh (.int (k : Nat)) ++ (" " ++ (fT f ++ (": " ++ reasonT c))))) st
 rw [app_assoc, app_assoc, app_assoc]
end DL.My
namespace DL.My
open PySem L2
theorem replW_mem (k : DKey) (v : W) : ∀ (ks : List DKey) (vs : List W), ∀ w ∈ replW k v ks vs, w ∈ vs ∨ w = v
 | [], vs, w, h => by cases vs <;> cases h
 | _ :: _, [], w, h => by cases h
 | j :: ks, u :: vs, w, h => by
  have h : w ∈ (if j = k then v else u) :: replW k v ks vs := h
  rcases List.mem_cons.mp h with e | h
  ·rw [e]
   split
   ·exact .inr rfl
   ·exact .inl List.mem_cons_self
  ·rcases replW_mem k v ks vs w h with h | h
   ·exact .inl (List.mem_cons_of_mem _ h)
   ·exact .inr h
def Ints (vs : List W) : Prop := ∀ v ∈ vs, ∃ i, v = W.int i
theorem put_val {ks : List DKey} {vs : List W} (k : DKey) (i : Int) (h : ks.length = vs.length) (hi : Ints vs) :
  (putW ks vs k (.int i)).1.length = (putW ks vs k (.int i)).2.length ∧ (putW ks vs k (.int i)).1.length ≤ ks.length + 1 ∧ Ints (putW ks vs k (.int i)).2 ∧ ∀ j, valW (putW ks vs k (.int i)).1 (putW ks vs k (.int i)).2 j = if j = k then some (.int i) else valW ks vs j := by
 by_cases hk : k ∈ ks
 ·have e : putW ks vs k (.int i) = (ks, replW k (.int i) ks vs) := by unfold putW; rw [if_pos ((hasK_iff k ks).mpr hk)]
  rw [e]
  refine ⟨h.trans (replW_len k _ ks vs h).symm, Nat.le_succ _, fun v hv => ?_, fun j => valW_repl k _ j ks vs h hk⟩
  rcases replW_mem k _ ks vs v hv with q | q
  ·exact hi v q
  ·exact ⟨i, q⟩
 ·rw [putW_new hk]
  refine ⟨by simp [h], by simp, fun v hv => ?_, fun j => valW_app j h hk⟩
  rcases List.mem_append.mp hv with q | q
  ·exact hi v q
  ·exact ⟨i, List.mem_singleton.mp q⟩
noncomputable def plBody : RunS := (sSeq (sSetIx (rVar 1) (run2 (rVar 3) (rCon (W.int 0)) opIdx) (rVar 2))
 sPass)
theorem pl_loop {row : List W} {st : S} (hr : RowOk row) : ∀ (items : List W) (k : Nat) (ks : List DKey) (vs : List W) (x2 x3 : Option W), row.drop k = items → ks.length = vs.length → ks.length ≤ k → Ints vs → (∀ m f c, m < k → row[m]? = some (.tup [f, c]) → valW ks vs (keyF f) = some (.int ((m + 1 : Nat) : Int))) →
  ∃ ks' vs' y2 y3, ks'.length = vs'.length ∧ Ints vs' ∧ (∀ (m : Nat) f c, row[m]? = some (.tup [f, c]) → valW ks' vs' (keyF f) = some (.int ((m + 1 : Nat) : Int))) ∧
   loopZ 2 3 plBody (enumP (k + 1) items) [some (.lst row), some (.ref st.nxt), x2, x3] (st.new (.dct ks vs)) = .ok (.nx [some (.lst row), some (.ref st.nxt), y2, y3]) (st.new (.dct ks' vs'))
 | [], k, ks, vs, x2, x3, hd, hl, _, hi, hv => by
  have hk : row.length ≤ k := by
   have := congrArg List.length hd
   rw [List.length_drop, List.length_nil] at this
   omega
  exact ⟨ks, vs, x2, x3, hl, hi, fun m f c hm => hv m f c (Nat.lt_of_lt_of_le (List.getElem?_eq_some_iff.mp hm).1 hk) hm, rfl⟩
 | p :: items, k, ks, vs, x2, x3, hd, hl, hk, hi, hv => by
  have hp : row[k]? = some p := by rw [← Nat.add_zero k, ← List.getElem?_drop, hd]; rfl
  have hd' : row.drop (k + 1) = items := by rw [← List.drop_drop, hd]; rfl
  obtain ⟨f, c, rfl, hf⟩ := hr.2 k p hp
  have k9 := hf.1
  obtain ⟨p1, p2, p3, p4⟩ := put_val (keyF f) ((k + 1 : Nat) : Int) hl hi
  obtain ⟨ks', vs', y2, y3, h1, h2, h3, h4⟩ := pl_loop hr items (k + 1) _ _ (some (.int ((k + 1 : Nat) : Int))) (some (.tup [f, c])) hd' p1 (by omega) p3 (fun m g d hm hg => by
   rw [p4]
   by_cases e : m = k
   ·subst e
    rw [hp] at hg
    cases hg
    rw [if_pos rfl]
   ·obtain ⟨g', d', e', hg'⟩ := hr.2 m _ hg
    cases e'
    rw [if_neg (key_ne hg' hf e)]
    exact hv m g d (by omega) hg)
  refine ⟨ks', vs', y2, y3, h1, h2, h3, ?_⟩
  have ek := (key_fact hf).1
  have eb : plBody [some (.lst row), some (.ref st.nxt), some (.int ((k + 1 : Nat) : Int)), some (.tup [f, c])] (st.new (.dct ks vs)) = .ok (.nx [some (.lst row), some (.ref st.nxt), some (.int ((k + 1 : Nat) : Int)), some (.tup [f, c])]) (st.new (.dct (putW ks vs (keyF f) (.int ((k + 1 : Nat) : Int))).1 (putW ks vs (keyF f) (.int ((k + 1 : Nat) : Int))).2)) := by
   have es : opSetIx (.ref st.nxt) f (.int ((k + 1 : Nat) : Int)) (st.new (.dct ks vs)) = .ok () (st.new (.dct (putW ks vs (keyF f) (.int ((k + 1 : Nat) : Int))).1 (putW ks vs (keyF f) (.int ((k + 1 : Nat) : Int))).2)) := by
    show setIx1 st.nxt f _ _ ((st.new (.dct ks vs)).mu st.nxt) (keyW f) = _
    rw [new_at, ek]
    show (if ks.length < sizeLine then R.ok () ((st.new (.dct ks vs)).put st.nxt (.dct _ _)) else .stuck) = _
    rw [if_pos (Nat.lt_of_le_of_lt (show ks.length ≤ 9 by omega) (by decide)), new_put]
   have ei : run2 (rVar 3) (rCon (W.int 0)) opIdx [some (.lst row), some (.ref st.nxt), some (.int ((k + 1 : Nat) : Int)), some (.tup [f, c])] (st.new (.dct ks vs)) = .ok f (st.new (.dct ks vs)) := by
    rw [ev_run2, ev_v3, ev_ok, ev_con, ev_ok, idx0T]
   unfold plBody
   rw [ev_seq, ev_setIx, ev_v2, ev_ok, ev_v1, ev_ok, ei, ev_ok, es, ev_ok, ev_ok, kSeq_nx, ev_pass]
  show ((plBody [some (.lst row), some (.ref st.nxt), some (.int ((k + 1 : Nat) : Int)), some (.tup [f, c])] (st.new (.dct ks vs))).bind fun fl st' => match fl with
   | .nx Γ' => loopZ 2 3 plBody (enumP (k + 1 + 1) items) Γ' st'
   | .ct Γ' => loopZ 2 3 plBody (enumP (k + 1 + 1) items) Γ' st'
   | .bk Γ' => .ok (.nx Γ') st'
   | .rt w => .ok (.rt w) st') = _
  rw [eb]
  exact h4
theorem frzs_ints {N k : Nat} {mu : Nat → Option MO} : ∀ {ws : List W}, Ints ws → frzs (frz N mu (k + 1)) ws = some ws
 | [], _ => rfl
 | w :: ws, h => by
  obtain ⟨i, rfl⟩ := h w List.mem_cons_self
  show (match frz N mu (k + 1) (.int i), frzs (frz N mu (k + 1)) ws with | some y, some ys => some (y :: ys) | _, _ => none) = _
  rw [frzs_ints fun x hx => h x (List.mem_cons_of_mem _ hx)]; rfl
theorem places_ok {row : List W} (hr : RowOk row) (st : S) : ∃ ks vs, (∀ f, InRow row f → ∃ j, Fact j f ∧ opIdx (.ref st.nxt) f (st.new (.dct ks vs)) = .ok (.int ((j + 1 : Nat) : Int)) (st.new (.dct ks vs))) ∧ op_places_in [.lst row] st = .ok (.ref st.nxt) (st.new (.dct ks vs)) := by
 obtain ⟨ks, vs, y2, y3, h1, h2, h3, h4⟩ := pl_loop (st := st) hr row 0 [] [] none none rfl rfl (Nat.le_refl _) (fun v h => by cases h) (fun m f c hm => absurd hm (Nat.not_lt_zero _))
 refine ⟨ks, vs, fun f ⟨i, c, hi⟩ => ?_, ?_⟩
 ·obtain ⟨f', c', e, hf⟩ := hr.2 i _ hi
  cases e
  refine ⟨i, hf, ?_⟩
  have ed : dctOf (st.new (.dct ks vs)) (.ref st.nxt) = some (ks, vs) := by
   show (match (st.new (.dct ks vs)).mu st.nxt with | some (.dct ks ws) => some (ks, ws) | _ => none) = _
   rw [new_at]
  unfold opIdx
  rw [ed, (key_fact hf).1]
  show (match valW ks vs (keyF f) with | some w => R.ok w _ | none => .stuck) = _
  rw [h3 i f c hi]
 ·have rn : ∀ Γ : Ga, rDictN Γ st = .ok (.ref st.nxt) (st.new (.dct [] [])) := fun Γ => rfl
  have fe : ∀ body : RunS, sForE 2 3 (runsCons (rVar 0) runsNil) body [some (.lst row), some (.ref st.nxt), none, none] (st.new (.dct [] [])) = loopZ 2 3 body (enumP 1 row) [some (.lst row), some (.ref st.nxt), none, none] (st.new (.dct [] [])) := fun body => rfl
  unfold plBody at h4
  unfold op_places_in
  rw [ev_op1]
  unfold r_places_in
  rw [show List.replicate (4 - 1) (none : Option W) = [none, none, none] from rfl, ev_seq, e_set, rn, ev_ok, ks1, ev_ok, kSeq_nx, ev_seq, fe, h4, ev_ok, kSeq_nx, ret_to (ev_v1 _ _), ev_rtL]
  show (if st.nxt < st.nxt then _ else @ite _ (∀ m, m < st.nxt → (st.new (.dct ks vs)).mu m = st.mu m) (Classical.propDecidable _) (match (st.new (.dct ks vs)).mu st.nxt with
   | some o => (match frzMO st.nxt ((st.new (.dct ks vs)).less st.nxt).mu o with
    | some o' => R.ok (W.ref st.nxt) (st.new o')
    | none => .stuck)
   | none => .stuck) .stuck) = _
  rw [if_neg (Nat.lt_irrefl _), if_pos (new_old st _), new_at]
  show (match (frzs (frz st.nxt ((st.new (.dct ks vs)).less st.nxt).mu 12) vs).map (MO.dct ks) with
    | some o' => R.ok (W.ref st.nxt) (st.new o')
    | none => .stuck) = _
  rw [frzs_ints h2]; rfl
def textsT : Nat → List W → List W
 | _, [] => []
 | k, p :: ps => .str (pairT k p) :: textsT (k + 1) ps
theorem texts_len : ∀ (k : Nat) (ps : List W), (textsT k ps).length = ps.length
 | _, [] => rfl
 | k, p :: ps => by show (textsT (k + 1) ps).length + 1 = _; rw [texts_len]; rfl
theorem texts_app : ∀ (k : Nat) (ps : List W) (p : W), textsT k (ps ++ [p]) = textsT k ps ++ [.str (pairT (k + ps.length) p)]
 | k, [], p => rfl
 | k, q :: ps, p => by
  show W.str (pairT k q) :: textsT (k + 1) (ps ++ [p]) = W.str (pairT k q) :: (textsT (k + 1) ps ++ _)
  rw [texts_app (k + 1) ps p, List.length_cons, show k + 1 + ps.length = k + (ps.length + 1) by omega]
def Strs (ws : List W) : Prop := ∀ w ∈ ws, ∃ x, w = W.str x
theorem texts_strs : ∀ (k : Nat) (ps : List W), Strs (textsT k ps)
 | _, [], w, h => by cases h
 | k, p :: ps, w, h => by
  rcases List.mem_cons.mp h with e | h
  ·exact ⟨_, e⟩
  ·exact texts_strs (k + 1) ps w h
theorem frzs_strs {N k : Nat} {mu : Nat → Option MO} : ∀ {ws : List W}, Strs ws → frzs (frz N mu (k + 1)) ws = some ws
 | [], _ => rfl
 | w :: ws, h => by
  obtain ⟨i, rfl⟩ := h w List.mem_cons_self
  show (match frz N mu (k + 1) (.str i), frzs (frz N mu (k + 1)) ws with | some y, some ys => some (y :: ys) | _, _ => none) = _
  rw [frzs_strs fun x hx => h x (List.mem_cons_of_mem _ hx)]; rfl
def Whole (row : List W) : Prop := RowOk row ∧ ∀ (i : Nat) f c, row[i]? = some (.tup [f, c]) → Re (InRow row) c
theorem go_pairs {row : List W} {d : W} {st : S} (h : Whole row) (hD : ∀ f, InRow row f → ∃ j, Fact j f ∧ opIdx d f st = .ok (.int ((j + 1 : Nat) : Int)) st) : ∀ (items : List W) (k : Nat) (acc : List W), row.drop k = items →
  compGo2 (runN (runsCons (rVar 0) (runsCons (rVar 1) (runsCons (rVar 2) runsNil))) (calmOp op_drawn_pair)) [some d] (enumP (k + 1) items) acc st = .ok (acc ++ textsT (k + 1) items) st
 | [], k, acc, _ => by
  show R.ok acc st = R.ok (acc ++ []) st
  rw [List.append_nil]
 | p :: items, k, acc, hd => by
  have hp : row[k]? = some p := by rw [← Nat.add_zero k, ← List.getElem?_drop, hd]; rfl
  have hd' : row.drop (k + 1) = items := by rw [← List.drop_drop, hd]; rfl
  obtain ⟨f, c, rfl, hf⟩ := h.1.2 k p hp
  have k9 := hf.1
  have e := callN3 (op := op_drawn_pair) (a := rVar 0) (b := rVar 1) (c := rVar 2) (Γ := [some (.int ((k + 1 : Nat) : Int)), some (.tup [f, c]), some d]) (st := st) rfl rfl rfl (pair_ok hD (k := k + 1) (by omega) hf (h.2 k f c hp))
  show ((runN (runsCons (rVar 0) (runsCons (rVar 1) (runsCons (rVar 2) runsNil))) (calmOp op_drawn_pair) [some (.int ((k + 1 : Nat) : Int)), some (.tup [f, c]), some d] st).calm.bind fun y st2 => compGo2 _ [some d] (enumP (k + 1 + 1) items) (acc ++ [y]) st2) = _
  rw [e]
  show compGo2 _ [some d] (enumP (k + 1 + 1) items) (acc ++ [_]) st = _
  rw [go_pairs h hD items (k + 1) _ hd', List.append_assoc]; rfl
theorem drawn_ok {row : List W} (h : Whole row) (st : S) : op_drawn [.lst row] st = .ok (.ref st.nxt) (st.new (.lst (textsT 1 row))) := by
 obtain ⟨ks, vs, hD, e1⟩ := places_ok h.1 st
 have c1 := callN1 (op := op_places_in) (a := rVar 0) (Γ := [some (.lst row), none]) (st := st) rfl e1
 have hl : (textsT 1 row).length ≤ sizeLine := by rw [texts_len]; exact Nat.le_trans h.1.1 (by decide)
 have c2 : runCompE true (runsCons (rVar 0) runsNil) [1] (runN (runsCons (rVar 0) (runsCons (rVar 1) (runsCons (rVar 2) runsNil))) (calmOp op_drawn_pair)) [some (.lst row), some (.ref st.nxt)] (st.new (.dct ks vs)) = .ok (.ref (st.nxt + 1)) ((st.new (.dct ks vs)).new (.lst (textsT 1 row))) := by
  show (if (enumP 1 row).length < sizeLine then (compGo2 _ [some (.ref st.nxt)] (enumP 1 row) [] (st.new (.dct ks vs))).bind (opL true) else .stuck) = _
  rw [if_pos (by rw [enumP_len]; exact Nat.lt_of_le_of_lt h.1.1 (by decide)), go_pairs h hD row 0 [] rfl, ev_ok, List.nil_append]
  exact if_pos hl
 unfold op_drawn
 rw [ev_op1]
 unfold r_drawn
 rw [show List.replicate (2 - 1) (none : Option W) = [none] from rfl, ev_seq, e_set, c1, ev_ok, ks1, ev_ok, kSeq_nx, ret_to c2, ev_rtL]
 have old : ∀ m, m < st.nxt → ((st.new (.dct ks vs)).new (.lst (textsT 1 row))).mu m = st.mu m := fun m hm => (new_old (st.new (.dct ks vs)) _ m (Nat.lt_succ_of_lt hm)).trans (new_old st _ m hm)
 show (if st.nxt + 1 < st.nxt then _ else @ite _ (∀ m, m < st.nxt → ((st.new (.dct ks vs)).new (.lst (textsT 1 row))).mu m = st.mu m) (Classical.propDecidable _) (match ((st.new (.dct ks vs)).new (.lst (textsT 1 row))).mu (st.nxt + 1) with
  | some o => (match frzMO st.nxt (((st.new (.dct ks vs)).new (.lst (textsT 1 row))).less (st.nxt + 1)).mu o with
   | some o' => R.ok (W.ref st.nxt) (st.new o')
   | none => .stuck)
  | none => .stuck) .stuck) = _
 rw [if_neg (by omega), if_pos old, show ((st.new (.dct ks vs)).new (.lst (textsT 1 row))).mu (st.nxt + 1) = some (.lst (textsT 1 row)) from new_at (st.new (.dct ks vs)) _]
 show (match (frzs (frz st.nxt (((st.new (.dct ks vs)).new (.lst (textsT 1 row))).less (st.nxt + 1)).mu 12) (textsT 1 row)).map MO.lst with
   | some o' => R.ok (W.ref st.nxt) (st.new o')
   | none => .stuck) = _
 rw [frzs_strs (texts_strs 1 row)]; rfl
end DL.My
namespace DL.My
open PySem L2
theorem cell_ok (ns : List Int) (k : Nat) (st : S) : op_l_cell_at [.lst (ns.map W.int), .int k] st = .ok (.int (ns.getD k 0)) st := by
 unfold op_l_cell_at
 rw [ev_op2]
 unfold r_l_cell_at
 rw [ev_seq, ev_if, ev_run2, ev_v1, ev_ok, ev_runN, ev_cons, ev_v0, ev_ok, ev_nil, ev_ok, ev_ok, ev_lenL, ev_ok, ev_ltI, ev_ok, kIf_bl, List.length_map]
 by_cases h : k < ns.length
 ·rw [decide_eq_true (show (k : Int) < (ns.length : Nat) by omega), if_pos rfl]
  have e : run2 (rVar 0) (rVar 1) opIdx (some (.lst (ns.map W.int)) :: some (.int k) :: List.replicate (2 - 2) none) st = .ok (.int (ns.getD k 0)) st := by
   rw [ev_run2, ev_v0, ev_ok, ev_v1, ev_ok]
   exact ev_idxL _ _ _ (at_nat _ _ _ (by rw [List.getElem?_map, List.getD_eq_getElem?_getD, List.getElem?_eq_getElem h]; rfl))
  rw [ret_ok e, ev_ok, kSeq_rt]; rfl
 ·rw [decide_eq_false (show ¬ (k : Int) < (ns.length : Nat) by omega), if_neg Bool.false_ne_true, ev_pass, ev_ok, kSeq_nx, ret_ok (ev_con _), List.getD_eq_getElem?_getD, List.getElem?_eq_none (by omega)]; rfl
theorem value_ok (n : Int) (st : S) : ∃ v, Va v ∧ op_l_value_by [.int n] st = .ok v st := by
 obtain ⟨m0, m1⟩ := mod_lt n 7 (by decide)
 obtain ⟨v, hv, hm⟩ := at_in [W.str "a", .str "b", .str "abcdefgh", .int 0, .int (-5), .int 999999999, .int (-999999999)] (n % 7) m0 m1
 refine ⟨v, hm, ?_⟩
 have hs : runN (runsCons (rCon (W.str "a")) (runsCons (rCon (W.str "b")) (runsCons (rCon (W.str "abcdefgh")) (runsCons (rCon (W.int 0)) (runsCons (run1 (rCon (W.int 5)) opNeg) (runsCons (rCon (W.int 999999999)) (runsCons (run1 (rCon (W.int 999999999)) opNeg) runsNil))))))) (opL false) [some (.int n)] st = .ok (.lst [W.str "a", .str "b", .str "abcdefgh", .int 0, .int (-5), .int 999999999, .int (-999999999)]) st := rfl
 unfold op_l_value_by
 rw [ev_op1]
 unfold r_l_value_by
 rw [show List.replicate (1 - 1) (none : Option W) = [] from rfl, ret_ok (w := v) (by rw [ev_run2, hs, ev_ok, ev_run2, ev_v0, ev_ok, ev_con, ev_ok, ev_modI _ _ (by decide), ev_ok]; exact ev_idxL _ _ _ hv)]; rfl
theorem pick_run {ds : List W} {rl : Run} {Γ : Ga} {st : S} {k : Nat} {q : W} (hl : rl (some (.int (k : Nat)) :: Γ) st = .ok (.lst ds) st) (hq : ds[k]? = some q) : run2 rl (rVar 0) opIdx (some (.int (k : Nat)) :: Γ) st = .ok q st := by
 rw [ev_run2, hl, ev_ok, ev_v0, ev_ok]
 exact ev_idxL _ _ _ (at_nat _ _ _ hq)
theorem fact_by {k : Nat} (hk : k < 9) (cell : Int) (st : S) : ∃ f, Fact k f ∧ op_l_fact_by [.int (k : Nat), .int cell] st = .ok f st := by
 obtain ⟨m0, m1⟩ := mod_lt cell 5 (by decide)
 obtain ⟨vs, l1, v1, e1⟩ := comp_ex (cap := [1]) (src := runRng1 (run2 (rVar 1) (rCon (W.int 5)) opMod)) (re := runN (runsCons (run2 (run2 (rVar 1) (rCon (W.int 5)) opDiv) (run2 (runN (runsCons (rCon (W.int 1)) (runsCons (rCon (W.int 7)) (runsCons (rCon (W.int 49)) (runsCons (rCon (W.int 343)) runsNil)))) (opL false)) (rVar 0) opIdx) opDiv) runsNil) (calmOp op_l_value_by))
  (Γ := [some (.int (k : Nat)), some (.int cell), none]) (st := st) (items := rangeW 0 (cell % 5).toNat) Va (ev_rng1 _ _ (by rw [ev_run2, ev_v1, ev_ok, ev_con, ev_ok, ev_modI _ _ (by decide)]) (by omega) (by omega)) (by rw [len_rangeW]; omega) (fun x hx => by
   obtain ⟨j, hj, rfl⟩ := mem_rangeW hx
   have hq : ∃ q : Int, 0 < q ∧ q < 1073741824 ∧ [W.int 1, .int 7, .int 49, .int 343][j]? = some (.int q) := by
    have : j < 4 := by omega
    match j, this with
    | 0, _ => exact ⟨1, by decide, by decide, rfl⟩
    | 1, _ => exact ⟨7, by decide, by decide, rfl⟩
    | 2, _ => exact ⟨49, by decide, by decide, rfl⟩
    | 3, _ => exact ⟨343, by decide, by decide, rfl⟩
   obtain ⟨q, q0, q1, hq⟩ := hq
   obtain ⟨v, hv, ev⟩ := value_ok (cell / 5 / q) st
   refine ⟨v, hv, callN1 (x := .int (cell / 5 / q)) ?_ ev⟩
   show run2 (run2 (rVar 1) (rCon (W.int 5)) opDiv) _ opDiv [some (.int j), some (.int cell)] st = _
   rw [ev_run2, ev_run2, ev_v1, ev_ok, ev_con, ev_ok, ev_divI _ _ (by decide) (by decide), ev_ok, pick_run (ds := [W.int 1, .int 7, .int 49, .int 343]) rfl hq, ev_ok, ev_divI _ _ q0 q1])
 rw [len_rangeW] at l1
 refine ⟨.tup (.str (nms.getD k "") :: vs), ⟨hk, vs, rfl, v1, by omega⟩, ?_⟩
 have hn : run2 (runN (runsCons (rCon (W.str "road")) (runsCons (rCon (W.str "town")) (runsCons (rCon (W.str "load")) (runsCons (rCon (W.str "rain")) (runsCons (rCon (W.str "way")) (runsCons (rCon (W.str "far")) (runsCons (rCon (W.str "top")) (runsCons (rCon (W.str "cost")) (runsCons (rCon (W.str "peak")) runsNil))))))))) (opL false)) (rVar 0) opIdx [some (.int (k : Nat)), some (.int cell), some (.lst vs)] st = .ok (.str (nms.getD k "")) st := by
  refine pick_run (ds := nms.map W.str) rfl ?_
  have : k < nms.length := hk
  rw [List.getElem?_map, List.getD_eq_getElem?_getD, List.getElem?_eq_getElem this]; rfl
 unfold op_l_fact_by
 rw [ev_op2]
 unfold r_l_fact_by
 rw [show List.replicate (3 - 2) (none : Option W) = [none] from rfl, ev_seq, e_set, e1, ev_ok, ks2, ev_ok, kSeq_nx]
 have er : runN (runsCons (run2 (runN (runsCons (run2 (runN (runsCons (rCon (W.str "road")) (runsCons (rCon (W.str "town")) (runsCons (rCon (W.str "load")) (runsCons (rCon (W.str "rain")) (runsCons (rCon (W.str "way")) (runsCons (rCon (W.str "far")) (runsCons (rCon (W.str "top")) (runsCons (rCon (W.str "cost")) (runsCons (rCon (W.str "peak")) runsNil))))))))) (opL false)) (rVar 0) opIdx) runsNil) (opL false)) (rVar 2) opAdd) runsNil) opTuple [some (.int (k : Nat)), some (.int cell), some (.lst vs)] st = .ok (.tup (.str (nms.getD k "") :: vs)) st := by
  rw [ev_runN, ev_cons, ev_run2, ev_runN, ev_cons, hn, ev_ok, ev_nil, ev_ok, ev_ok, ev_lst [W.str (nms.getD k "")] (show 1 ≤ sizeLine by decide), ev_ok, ev_v2, ev_ok]
  have e : opAdd (.lst [.str (nms.getD k "")]) (.lst vs) st = .ok (.lst (.str (nms.getD k "") :: vs)) st := if_pos (show 1 + vs.length ≤ sizeLine from size_small (by omega))
  rw [e, ev_ok, ev_nil, ev_ok, ev_ok]
  exact ev_tup _ (by rw [List.length_cons]; exact size_small (by omega))
 rw [ret_ok er]; rfl
theorem tuple_of {ws : List W} {st : S} (h : ws.length ≤ 100) : opTuple [.lst ws] st = .ok (.tup ws) st := ev_tup _ (size_small (by omega))
theorem len_row {row : List W} {n : Nat} {st : S} (hm : st.mu n = some (.lst row)) {Γ : Ga} {r : Run} (h : r Γ st = .ok (.ref n) st) : runN (runsCons r runsNil) opLen Γ st = .ok (.int (row.length : Nat)) st := by
 rw [ev_runN, ev_cons, h, ev_ok, ev_nil, ev_ok, ev_ok]
 show (match MO.items (st.mu n) with | some xs => R.ok (W.int xs.length) st | none => .stuck) = _
 rw [hm]; rfl
theorem idx_row {row : List W} {n k : Nat} {p : W} {st : S} (hm : st.mu n = some (.lst row)) (hp : row[k]? = some p) : opIdx (.ref n) (.int (k : Nat)) st = .ok p st := by
 have e : atI row (k : Int) = some p := at_nat _ _ _ hp
 have ed : dctOf st (.ref n) = none := by
  show (match st.mu n with | some (.dct ks ws) => some (ks, ws) | _ => none) = _
  rw [hm]
 unfold opIdx
 rw [ed]
 show (match MO.items (st.mu n) with
   | some ws => (match atI ws k with | some w => R.ok w st | none => .stuck)
   | none => .stuck) = _
 rw [hm]
 show (match atI row k with | some w => R.ok w st | none => .stuck) = _
 rw [e]
theorem ground_by {row : List W} {n : Nat} {st : S} (hr : RowOk row) (hm : st.mu n = some (.lst row)) (cell : Int) : ∃ g, Gr (InRow row) g ∧ op_l_ground_by [.int cell, .ref n] st = .ok g st := by
 have c0 : runAnd (run2 (run2 (rVar 0) (rCon (W.int 3)) opMod) (rCon (W.int 0)) opGt) (run2 (runN (runsCons (rVar 1) runsNil) opLen) (rCon (W.int 0)) opGt) [some (.int cell), some (.ref n), none] st = .ok (.bl (decide (0 < cell % 3) && decide ((0 : Int) < (row.length : Nat)))) st := by
  rw [ev_and, ev_run2, ev_run2, ev_v0, ev_ok, ev_con, ev_ok, ev_modI _ _ (by decide), ev_ok, ev_con, ev_ok, ev_gtI, ev_ok, kIf_bl, ev_run2, len_row hm (ev_v1 _ _), ev_ok, ev_con, ev_ok, ev_gtI]
  cases decide (0 < cell % 3) <;> rfl
 unfold op_l_ground_by
 rw [ev_op2]
 unfold r_l_ground_by
 rw [show List.replicate (3 - 2) (none : Option W) = [none] from rfl, ev_seq, ev_if, c0, ev_ok, kIf_bl]
 cases hc : decide (0 < cell % 3) && decide ((0 : Int) < (row.length : Nat)) with
 | true =>
  rw [Bool.and_eq_true, decide_eq_true_eq, decide_eq_true_eq] at hc
  obtain ⟨q0, q1⟩ := mod_lt (cell / 3) (row.length : Nat) hc.2
  have hj : (cell / 3 % (row.length : Nat)).toNat < row.length := by omega
  obtain ⟨f, c, ep, hf⟩ := hr.2 _ _ (List.getElem?_eq_getElem hj)
  refine ⟨.tup [.str "has", f], .has ⟨_, c, by rw [List.getElem?_eq_getElem hj, ep]⟩, ?_⟩
  have e1 : run2 (run2 (rVar 1) (run2 (run2 (rVar 0) (rCon (W.int 3)) opDiv) (runN (runsCons (rVar 1) runsNil) opLen) opMod) opIdx) (rCon (W.int 0)) opIdx [some (.int cell), some (.ref n), none] st = .ok f st := by
   rw [ev_run2, ev_run2, ev_v1, ev_ok, ev_run2, ev_run2, ev_v0, ev_ok, ev_con, ev_ok, ev_divI _ _ (by decide) (by decide), ev_ok, len_row hm (ev_v1 _ _), ev_ok, ev_modI _ _ hc.2, ev_ok, show cell / 3 % (row.length : Nat) = (((cell / 3 % (row.length : Nat)).toNat : Nat) : Int) by omega, idx_row hm (by rw [List.getElem?_eq_getElem hj, ep]), ev_ok, ev_con, ev_ok, idx0T]
  rw [if_pos rfl, ret_ok (w := .tup [.str "has", f]) (by rw [ev_runN, ev_cons, ev_con, ev_ok, ev_cons, e1, ev_ok, ev_nil, ev_ok, ev_ok, ev_ok]; exact ev_tup _ (show 2 ≤ sizeLine by decide)), ev_ok, kSeq_rt]; rfl
 | false =>
  rw [if_neg Bool.false_ne_true, ev_pass, ev_ok, kSeq_nx, ev_seq, ev_if, ev_run2, ev_run2, ev_v0, ev_ok, ev_con, ev_ok, ev_modI _ _ (by decide), ev_ok, ev_con, ev_ok, ev_eqI, ev_ok, kIf_bl]
  cases h2 : cell % 2 == 1 with
  | true =>
   obtain ⟨q0, q1⟩ := mod_lt (cell / 6) 9 (by decide)
   obtain ⟨f, hf, ef⟩ := fact_by (k := (cell / 6 % 9).toNat) (by omega) (cell / 54) st
   refine ⟨.tup [.str "not", f], .not hf, ?_⟩
   have e1 := callN2 (op := op_l_fact_by) (a := run2 (run2 (rVar 0) (rCon (W.int 6)) opDiv) (rCon (W.int 9)) opMod) (b := run2 (rVar 0) (rCon (W.int 54)) opDiv) (Γ := [some (.int cell), some (.ref n), none]) (st := st)
    (x := .int ((cell / 6 % 9).toNat : Nat)) (y := .int (cell / 54)) (by rw [ev_run2, ev_run2, ev_v0, ev_ok, ev_con, ev_ok, ev_divI _ _ (by decide) (by decide), ev_ok, ev_con, ev_ok, ev_modI _ _ (by decide), show (((cell / 6 % 9).toNat : Nat) : Int) = cell / 6 % 9 by omega]) (by rw [ev_run2, ev_v0, ev_ok, ev_con, ev_ok, ev_divI _ _ (by decide) (by decide)]) ef
   rw [if_pos rfl, ret_ok (w := .tup [.str "not", f]) (by rw [ev_runN, ev_cons, ev_con, ev_ok, ev_cons, e1, ev_ok, ev_nil, ev_ok, ev_ok, ev_ok]; exact ev_tup _ (show 2 ≤ sizeLine by decide)), ev_ok, kSeq_rt]; rfl
  | false =>
   obtain ⟨vs, l1, v1, e1⟩ := comp_ex (cap := [0]) (src := runRng1 (rCon (W.int 3))) (re := runN (runsCons (run2 (run2 (rVar 1) (rCon (W.int 9)) opDiv) (run2 (runN (runsCons (rCon (W.int 1)) (runsCons (rCon (W.int 7)) (runsCons (rCon (W.int 49)) runsNil))) (opL false)) (rVar 0) opIdx) opDiv) runsNil) (calmOp op_l_value_by))
    (Γ := [some (.int cell), some (.ref n), none]) (st := st) (items := rangeW 0 3) Va (ev_rng1 (rCon (W.int 3)) 3 rfl (by decide) (by decide)) (by rw [len_rangeW]; decide) (fun x hx => by
     obtain ⟨j, hj, rfl⟩ := mem_rangeW hx
     have hq : ∃ q : Int, 0 < q ∧ q < 1073741824 ∧ [W.int 1, .int 7, .int 49][j]? = some (.int q) := by
      match j, hj with
      | 0, _ => exact ⟨1, by decide, by decide, rfl⟩
      | 1, _ => exact ⟨7, by decide, by decide, rfl⟩
      | 2, _ => exact ⟨49, by decide, by decide, rfl⟩
     obtain ⟨q, q0, q1, hq⟩ := hq
     obtain ⟨v, hv, ev⟩ := value_ok (cell / 9 / q) st
     refine ⟨v, hv, callN1 (x := .int (cell / 9 / q)) ?_ ev⟩
     show run2 (run2 (rVar 1) (rCon (W.int 9)) opDiv) _ opDiv [some (.int j), some (.int cell)] st = _
     rw [ev_run2, ev_run2, ev_v1, ev_ok, ev_con, ev_ok, ev_divI _ _ (by decide) (by decide), ev_ok, pick_run (ds := [W.int 1, .int 7, .int 49]) rfl hq, ev_ok, ev_divI _ _ q0 q1])
   rw [len_rangeW] at l1
   obtain ⟨a, b, d, rfl⟩ : ∃ a b d, vs = [a, b, d] := by
    match vs, l1 with
    | [a, b, d], _ => exact ⟨a, b, d, rfl⟩
   obtain ⟨q0, q1⟩ := mod_lt (cell / 6) 3 (by decide)
   have i0 : run2 (rVar 2) (rCon (W.int 0)) opIdx [some (.int cell), some (.ref n), some (.lst [a, b, d])] st = .ok a st := by rw [ev_run2, ev_v2, ev_ok, ev_con, ev_ok]; exact ev_idxL _ _ _ (at_nat _ 0 _ rfl)
   have i1 : run2 (rVar 2) (rCon (W.int 1)) opIdx [some (.int cell), some (.ref n), some (.lst [a, b, d])] st = .ok b st := by rw [ev_run2, ev_v2, ev_ok, ev_con, ev_ok]; exact ev_idxL _ _ _ (at_nat _ 1 _ rfl)
   have i2 : run2 (rVar 2) (rCon (W.int 2)) opIdx [some (.int cell), some (.ref n), some (.lst [a, b, d])] st = .ok d st := by rw [ev_run2, ev_v2, ev_ok, ev_con, ev_ok]; exact ev_idxL _ _ _ (at_nat _ 2 _ rfl)
   have ck : run2 (run2 (rVar 0) (rCon (W.int 6)) opDiv) (rCon (W.int 3)) opMod [some (.int cell), some (.ref n), some (.lst [a, b, d])] st = .ok (.int (cell / 6 % 3)) st := by
    rw [ev_run2, ev_run2, ev_v0, ev_ok, ev_con, ev_ok, ev_divI _ _ (by decide) (by decide), ev_ok, ev_con, ev_ok, ev_modI _ _ (by decide)]
   rw [if_neg Bool.false_ne_true, ev_pass, ev_ok, kSeq_nx, ev_seq, e_set, e1, ev_ok, ks2, ev_ok, kSeq_nx, ev_seq, ev_if, ev_run2, ck, ev_ok, ev_con, ev_ok, ev_eqI, ev_ok, kIf_bl]
   cases h3 : cell / 6 % 3 == 2 with
   | true =>
    refine ⟨.tup [.str "plus", a, b, d], .test (.inl rfl) ⟨v1, show 3 ≤ 4 by decide⟩ (by simp), ?_⟩
    rw [if_pos rfl, ret_ok (w := .tup [.str "plus", a, b, d]) (by rw [ev_runN, ev_cons, ev_con, ev_ok, ev_cons, i0, ev_ok, ev_cons, i1, ev_ok, ev_cons, i2, ev_ok, ev_nil, ev_ok, ev_ok, ev_ok, ev_ok, ev_ok]; exact ev_tup _ (show 4 ≤ sizeLine by decide)), ev_ok, kSeq_rt]; rfl
   | false =>
    have h3' : cell / 6 % 3 ≠ 2 := by simpa using h3
    have hw : ∃ k : Str, (k = "less" ∨ k = "same") ∧ [W.str "less", .str "same"][(cell / 6 % 3).toNat]? = some (.str k) := by
     have : (cell / 6 % 3).toNat < 2 := by omega
     generalize (cell / 6 % 3).toNat = j at this
     match j, this with
     | 0, _ => exact ⟨"less", .inl rfl, rfl⟩
     | 1, _ => exact ⟨"same", .inr rfl, rfl⟩
    obtain ⟨k, hk, hw⟩ := hw
    have ik : run2 (runN (runsCons (rCon (W.str "less")) (runsCons (rCon (W.str "same")) runsNil)) (opL false)) (run2 (run2 (rVar 0) (rCon (W.int 6)) opDiv) (rCon (W.int 3)) opMod) opIdx [some (.int cell), some (.ref n), some (.lst [a, b, d])] st = .ok (.str k) st := by
     have el : runN (runsCons (rCon (W.str "less")) (runsCons (rCon (W.str "same")) runsNil)) (opL false) [some (.int cell), some (.ref n), some (.lst [a, b, d])] st = .ok (.lst [.str "less", .str "same"]) st := rfl
     rw [ev_run2, el, ev_ok, ck, ev_ok, show cell / 6 % 3 = (((cell / 6 % 3).toNat : Nat) : Int) by omega]
     exact ev_idxL _ _ _ (at_nat _ _ _ hw)
    refine ⟨.tup [.str k, a, b], .test (.inr hk) ⟨fun v hv => v1 v (by simp only [List.mem_cons, List.not_mem_nil, or_false] at hv ⊢; rcases hv with h | h; exact .inl h; exact .inr (.inl h)), by show 2 ≤ 4; decide⟩ (by simp), ?_⟩
    rw [if_neg Bool.false_ne_true, ev_pass, ev_ok, kSeq_nx, ret_ok (w := .tup [.str k, a, b]) (by rw [ev_runN, ev_cons, ik, ev_ok, ev_cons, i0, ev_ok, ev_cons, i1, ev_ok, ev_nil, ev_ok, ev_ok, ev_ok, ev_ok]; exact ev_tup _ (show 3 ≤ sizeLine by decide))]; rfl
theorem grounds_by {row : List W} {n : Nat} {st : S} (hr : RowOk row) (hm : st.mu n = some (.lst row)) (cell : Int) : ∃ gs, Gs (InRow row) gs ∧ op_l_grounds_by [.int cell, .ref n] st = .ok (.tup gs) st := by
 obtain ⟨m0, m1⟩ := mod_lt cell 6 (by decide)
 obtain ⟨a0, a1⟩ := mod_lt cell 11 (by decide)
 obtain ⟨gs, l1, g1, e1⟩ := comp_ex (cap := [0, 1]) (src := runRng1 (run2 (rCon (W.int 1)) (run2 (rVar 0) (rCon (W.int 6)) opMod) opAdd)) (re := runN (runsCons (run2 (run2 (rVar 1) (rCon (W.int 6)) opDiv) (run2 (run2 (rCon (W.int 104729)) (rVar 0) opMul) (run2 (rCon (W.int 1)) (run2 (rVar 1) (rCon (W.int 11)) opMod) opAdd) opMul) opAdd) (runsCons (rVar 2) runsNil)) (calmOp op_l_ground_by))
  (Γ := [some (.int cell), some (.ref n)]) (st := st) (items := rangeW 0 (1 + cell % 6).toNat) (Gr (InRow row)) (ev_rng1 _ _ (by rw [ev_run2, ev_con, ev_ok, ev_run2, ev_v0, ev_ok, ev_con, ev_ok, ev_modI _ _ (by decide), ev_ok, ev_addI]) (by omega) (by omega)) (by rw [len_rangeW]; omega) (fun x hx => by
   obtain ⟨j, hj, rfl⟩ := mem_rangeW hx
   obtain ⟨g, hg, eg⟩ := ground_by hr hm (cell / 6 + 104729 * (j : Int) * (1 + cell % 11))
   refine ⟨g, hg, callN2 (x := .int (cell / 6 + 104729 * (j : Int) * (1 + cell % 11))) (y := .ref n) ?_ rfl eg⟩
   show run2 (run2 (rVar 1) (rCon (W.int 6)) opDiv) (run2 (run2 (rCon (W.int 104729)) (rVar 0) opMul) (run2 (rCon (W.int 1)) (run2 (rVar 1) (rCon (W.int 11)) opMod) opAdd) opMul) opAdd [some (.int j), some (.int cell), some (.ref n)] st = _
   rw [ev_run2, ev_run2, ev_v1, ev_ok, ev_con, ev_ok, ev_divI _ _ (by decide) (by decide), ev_ok, ev_run2, ev_run2, ev_con, ev_ok, ev_v0, ev_ok, ev_mulL 104729 (j : Int) (by decide) (by decide), ev_ok, ev_run2, ev_con, ev_ok, ev_run2, ev_v1, ev_ok, ev_con, ev_ok, ev_modI _ _ (by decide), ev_ok, ev_addI, ev_ok, ev_mulR _ (1 + cell % 11) (by omega) (by omega), ev_ok, ev_addI])
 rw [len_rangeW] at l1
 refine ⟨gs, ⟨g1, by omega⟩, ?_⟩
 unfold op_l_grounds_by
 rw [ev_op2]
 unfold r_l_grounds_by
 rw [show List.replicate (2 - 2) (none : Option W) = [] from rfl, ret_ok (w := .tup gs) (by rw [ev_runN, ev_cons, e1, ev_ok, ev_nil, ev_ok, ev_ok]; exact tuple_of (by omega))]; rfl
theorem cause_by {row : List W} {n : Nat} {st : S} (hr : RowOk row) (hm : st.mu n = some (.lst row)) (cell : Int) : ∃ c, Re (InRow row) c ∧ op_l_cause_by [.int cell, .ref n] st = .ok c st := by
 obtain ⟨m0, m1⟩ := mod_lt (cell / 3) 20 (by decide)
 have cn : ∀ (x y : Option W), run2 (run2 (rVar 0) (rCon (W.int 3)) opDiv) (rCon (W.int 20)) opMod [some (.int cell), some (.ref n), x, y] st = .ok (.int (((cell / 3 % 20).toNat : Nat) : Int)) st := fun x y => by
  rw [ev_run2, ev_run2, ev_v0, ev_ok, ev_con, ev_ok, ev_divI _ _ (by decide) (by decide), ev_ok, ev_con, ev_ok, ev_modI _ _ (by decide), show (((cell / 3 % 20).toNat : Nat) : Int) = cell / 3 % 20 by omega]
 unfold op_l_cause_by
 rw [ev_op2]
 unfold r_l_cause_by
 rw [show List.replicate (4 - 2) (none : Option W) = [none, none] from rfl, ev_seq, ev_if, ev_run2, ev_run2, ev_v0, ev_ok, ev_con, ev_ok, ev_modI _ _ (by decide), ev_ok, ev_con, ev_ok, ev_eqI, ev_ok, kIf_bl]
 cases h0 : cell % 3 == 0 with
 | true => exact ⟨_, .told, by rw [if_pos rfl]; rfl⟩
 | false =>
  rw [if_neg Bool.false_ne_true, ev_pass, ev_ok, kSeq_nx, ev_seq, ev_if, ev_run2, ev_run2, ev_v0, ev_ok, ev_con, ev_ok, ev_modI _ _ (by decide), ev_ok, ev_con, ev_ok, ev_eqI, ev_ok, kIf_bl]
  cases h1 : cell % 3 == 1 with
  | true =>
   obtain ⟨gs, hg, eg⟩ := grounds_by hr hm (cell / 60)
   have e1 := callN2 (op := op_l_grounds_by) (a := run2 (rVar 0) (rCon (W.int 60)) opDiv) (b := rVar 1) (Γ := [some (.int cell), some (.ref n), none, none]) (st := st) (x := .int (cell / 60)) (y := .ref n) (by rw [ev_run2, ev_v0, ev_ok, ev_con, ev_ok, ev_divI _ _ (by decide) (by decide)]) rfl eg
   refine ⟨_, .by_ (n := (cell / 3 % 20).toNat) (by omega) hg, ?_⟩
   rw [if_pos rfl, ret_ok (w := .tup [.str "by", .int (((cell / 3 % 20).toNat : Nat) : Int), .tup gs]) (by rw [ev_runN, ev_cons, ev_con, ev_ok, ev_cons, cn, ev_ok, ev_cons, e1, ev_ok, ev_nil, ev_ok, ev_ok, ev_ok, ev_ok]; exact ev_tup _ (show 3 ≤ sizeLine by decide)), ev_ok, kSeq_rt]; rfl
  | false =>
   obtain ⟨a0, a1⟩ := mod_lt (cell / 3) 4 (by decide)
   obtain ⟨b0, b1⟩ := mod_lt (cell / 12) 3 (by decide)
   obtain ⟨vs, l1, v1, e1⟩ := comp_ex (cap := [0]) (src := runRng1 (run2 (run2 (rVar 0) (rCon (W.int 3)) opDiv) (rCon (W.int 4)) opMod)) (re := runN (runsCons (run2 (run2 (rVar 1) (rCon (W.int 7)) opDiv) (rVar 0) opAdd) runsNil) (calmOp op_l_value_by))
    (Γ := [some (.int cell), some (.ref n), none, none]) (st := st) (items := rangeW 0 (cell / 3 % 4).toNat) Va (ev_rng1 _ _ (by rw [ev_run2, ev_run2, ev_v0, ev_ok, ev_con, ev_ok, ev_divI _ _ (by decide) (by decide), ev_ok, ev_con, ev_ok, ev_modI _ _ (by decide)]) (by omega) (by omega)) (by rw [len_rangeW]; omega) (fun x hx => by
     obtain ⟨j, hj, rfl⟩ := mem_rangeW hx
     obtain ⟨v, hv, ev⟩ := value_ok (cell / 7 + (j : Int)) st
     refine ⟨v, hv, callN1 (x := .int (cell / 7 + (j : Int))) ?_ ev⟩
     show run2 (run2 (rVar 1) (rCon (W.int 7)) opDiv) (rVar 0) opAdd [some (.int j), some (.int cell)] st = _
     rw [ev_run2, ev_run2, ev_v1, ev_ok, ev_con, ev_ok, ev_divI _ _ (by decide) (by decide), ev_ok, ev_v0, ev_ok, ev_addI])
   rw [len_rangeW] at l1
   obtain ⟨fs, l2, f2, e2⟩ := comp_ex (cap := [0, 1]) (src := runRng1 (run2 (rCon (W.int 1)) (run2 (run2 (rVar 0) (rCon (W.int 12)) opDiv) (rCon (W.int 3)) opMod) opAdd)) (re := runN (runsCons (run2 (run2 (rVar 1) (rCon (W.int 60)) opDiv) (run2 (rCon (W.int 7919)) (rVar 0) opMul) opAdd) (runsCons (rVar 2) runsNil)) (calmOp op_l_grounds_by))
    (Γ := [some (.int cell), some (.ref n), some (.tup vs), none]) (st := st) (items := rangeW 0 (1 + cell / 12 % 3).toNat) (fun w => ∃ gs, w = .tup gs ∧ Gs (InRow row) gs) (ev_rng1 _ _ (by rw [ev_run2, ev_con, ev_ok, ev_run2, ev_run2, ev_v0, ev_ok, ev_con, ev_ok, ev_divI _ _ (by decide) (by decide), ev_ok, ev_con, ev_ok, ev_modI _ _ (by decide), ev_ok, ev_addI]) (by omega) (by omega)) (by rw [len_rangeW]; omega) (fun x hx => by
     obtain ⟨j, hj, rfl⟩ := mem_rangeW hx
     obtain ⟨gs, hg, eg⟩ := grounds_by hr hm (cell / 60 + 7919 * (j : Int))
     refine ⟨.tup gs, ⟨gs, rfl, hg⟩, callN2 (x := .int (cell / 60 + 7919 * (j : Int))) (y := .ref n) ?_ rfl eg⟩
     show run2 (run2 (rVar 1) (rCon (W.int 60)) opDiv) (run2 (rCon (W.int 7919)) (rVar 0) opMul) opAdd [some (.int j), some (.int cell), some (.ref n)] st = _
     rw [ev_run2, ev_run2, ev_v1, ev_ok, ev_con, ev_ok, ev_divI _ _ (by decide) (by decide), ev_ok, ev_run2, ev_con, ev_ok, ev_v0, ev_ok, ev_mulL 7919 (j : Int) (by decide) (by decide), ev_ok, ev_addI])
   rw [len_rangeW] at l2
   refine ⟨_, .of_ (n := (cell / 3 % 20).toNat) (key := .tup vs) (by omega) ⟨vs, rfl, v1, by omega⟩ f2 (by omega), ?_⟩
   have c2 : ∀ {A : Run}, A [some (.int cell), some (.ref n), none, none] st = .ok (.lst vs) st → runN (runsCons A runsNil) opTuple [some (.int cell), some (.ref n), none, none] st = .ok (.tup vs) st := fun {A} h => by
    rw [ev_runN, ev_cons, h, ev_ok, ev_nil, ev_ok, ev_ok]; exact tuple_of (by omega)
   have c3 : ∀ {A : Run}, A [some (.int cell), some (.ref n), some (.tup vs), none] st = .ok (.lst fs) st → runN (runsCons A runsNil) opTuple [some (.int cell), some (.ref n), some (.tup vs), none] st = .ok (.tup fs) st := fun {A} h => by
    rw [ev_runN, ev_cons, h, ev_ok, ev_nil, ev_ok, ev_ok]; exact tuple_of (by omega)
   rw [if_neg Bool.false_ne_true, ev_pass, ev_ok, kSeq_nx, ev_seq, e_set, c2 e1, ev_ok, ks2, ev_ok, kSeq_nx, ev_seq, e_set, c3 e2, ev_ok, ks3, ev_ok, kSeq_nx,
    ret_ok (w := .tup [.str "of", .int (((cell / 3 % 20).toNat : Nat) : Int), .tup vs, .tup fs]) (by rw [ev_runN, ev_cons, ev_con, ev_ok, ev_cons, cn, ev_ok, ev_cons, ev_v2, ev_ok, ev_cons, ev_v3, ev_ok, ev_nil, ev_ok, ev_ok, ev_ok, ev_ok, ev_ok]; exact ev_tup _ (show 4 ≤ sizeLine by decide))]
   rfl
end DL.My
namespace DL.My
open PySem L2
inductive Dat : Nat → W → Prop
 | int (n : Nat) (i : Int) : Dat n (.int i)
 | str (n : Nat) (x : Str) : Dat n (.str x)
 | tup {n : Nat} {xs : List W} : (∀ x ∈ xs, Dat n x) → Dat (n + 1) (.tup xs)
 | lst {n : Nat} {xs : List W} : (∀ x ∈ xs, Dat n x) → Dat (n + 1) (.lst xs)
theorem frzs_id {f : W → Option W} : ∀ {ws : List W}, (∀ w ∈ ws, f w = some w) → frzs f ws = some ws
 | [], _ => rfl
 | w :: ws, h => by
  show (match f w, frzs f ws with | some y, some ys => some (y :: ys) | _, _ => none) = _
  rw [h w List.mem_cons_self, frzs_id fun x hx => h x (List.mem_cons_of_mem _ hx)]
theorem Dat.frz {n : Nat} {w : W} (h : Dat n w) (N : Nat) (mu : Nat → Option MO) : ∀ m, n < m → DL.frz N mu m w = some w := by
 induction h with
 | int n i => intro m hm; cases m with | zero => omega | succ m => rfl
 | str n x => intro m hm; cases m with | zero => omega | succ m => rfl
 | @tup n xs _ ih =>
  intro m hm
  cases m with
  | zero => omega
  | succ m =>
   show (frzs (DL.frz N mu m) xs).map W.tup = _
   rw [frzs_id fun x hx => ih x hx m (by omega)]; rfl
 | @lst n xs _ ih =>
  intro m hm
  cases m with
  | zero => omega
  | succ m =>
   show (frzs (DL.frz N mu m) xs).map W.lst = _
   rw [frzs_id fun x hx => ih x hx m (by omega)]; rfl
theorem items_id {f : W → W → Option Bool} : ∀ {ws : List W}, (∀ w ∈ ws, f w w = some true) → eqItems f ws ws = some true
 | [], _ => by unfold eqItems; rfl
 | w :: ws, h => by
  unfold eqItems
  rw [h w List.mem_cons_self, items_id fun x hx => h x (List.mem_cons_of_mem _ hx)]; rfl
theorem Dat.eq {n : Nat} {w : W} (h : Dat n w) : ∀ m, n < m → eqD m w w = some true := by
 induction h with
 | int n i =>
  intro m hm
  cases m with
  | zero => omega
  | succ m => show some (i == i) = _; simp
 | str n x =>
  intro m hm
  cases m with
  | zero => omega
  | succ m => show some (x == x) = _; simp
 | @tup n xs _ ih =>
  intro m hm
  cases m with
  | zero => omega
  | succ m =>
   show (eqItems (eqD m) xs xs).map (fun r => r && xs.length == xs.length) = _
   rw [items_id fun x hx => ih x hx m (by omega)]; simp
 | @lst n xs _ ih =>
  intro m hm
  cases m with
  | zero => omega
  | succ m =>
   show (if xs.length = xs.length then eqItems (eqD m) xs xs else some false) = _
   rw [if_pos rfl, items_id fun x hx => ih x hx m (by omega)]
theorem Dat.mono {n : Nat} {w : W} (h : Dat n w) : ∀ m, n ≤ m → Dat m w := by
 induction h with
 | int n i => intro m _; exact .int m i
 | str n x => intro m _; exact .str m x
 | tup _ ih =>
  intro m hm
  cases m with
  | zero => omega
  | succ m => exact .tup fun x hx => ih x hx m (by omega)
 | lst _ ih =>
  intro m hm
  cases m with
  | zero => omega
  | succ m => exact .lst fun x hx => ih x hx m (by omega)
theorem va_dat {v : W} (h : Va v) (n : Nat) : Dat n v := va_cases (P := Dat n) (.str _ _) (.str _ _) (.str _ _) (.int _ _) (.int _ _) (.int _ _) (.int _ _) h
theorem vs_dat {m : Nat} {vs : List W} (h : Vs m vs) : Dat 1 (.tup vs) := .tup fun x hx => va_dat (h.1 x hx) 0
theorem fact_dat {j : Nat} {f : W} (h : Fact j f) : Dat 1 f := by
 obtain ⟨_, vs, rfl, hv⟩ := h
 refine .tup fun x hx => ?_
 rcases List.mem_cons.mp hx with rfl | hx
 ·exact .str _ _
 ·exact va_dat (hv.1 x hx) 0
theorem ground_dat {P : W → Prop} (hP : ∀ f, P f → ∃ j, Fact j f) {g : W} (h : Gr P g) : Dat 2 g := by
 have two : ∀ (k : Str) (f : W), Dat 1 f → Dat 2 (.tup [.str k, f]) := fun k f hf => .tup fun x hx => by
  simp only [List.mem_cons, List.not_mem_nil, or_false] at hx
  rcases hx with rfl | rfl
  ·exact .str _ _
  ·exact hf
 cases h with
 | has p => obtain ⟨j, hj⟩ := hP _ p; exact two _ _ (fact_dat hj)
 | not hf => exact two _ _ (fact_dat hf)
 | test _ hv _ =>
  refine .tup fun x hx => ?_
  rcases List.mem_cons.mp hx with rfl | hx
  ·exact .str _ _
  ·exact va_dat (hv.1 x hx) 1
theorem reason_dat {P : W → Prop} (hP : ∀ f, P f → ∃ j, Fact j f) {r : W} (h : Re P r) : Dat 5 r := by
 have gsd : ∀ gs, Gs P gs → Dat 3 (.tup gs) := fun gs hg => .tup fun x hx => ground_dat hP (hg.1 x hx)
 cases h with
 | told => exact .tup fun x hx => by rw [List.mem_singleton.mp hx]; exact .str _ _
 | by_ _ hg =>
  refine .tup fun x hx => ?_
  simp only [List.mem_cons, List.not_mem_nil, or_false] at hx
  rcases hx with rfl | rfl | rfl
  ·exact .str _ _
  ·exact .int _ _
  ·exact (gsd _ hg).mono 4 (by decide)
 | of_ _ hk hf _ =>
  obtain ⟨vs, rfl, hv⟩ := hk
  refine .tup fun x hx => ?_
  simp only [List.mem_cons, List.not_mem_nil, or_false] at hx
  rcases hx with rfl | rfl | rfl | rfl
  ·exact .str _ _
  ·exact .int _ _
  ·exact (vs_dat hv).mono 4 (by decide)
  ·exact .tup fun w hw => by obtain ⟨gs, rfl, hg⟩ := hf w hw; exact gsd gs hg
theorem row_dat {row : List W} (h : Whole row) : Dat 7 (.lst row) := by
 refine .lst fun p hp => ?_
 obtain ⟨i, hi⟩ := List.mem_iff_getElem?.mp hp
 obtain ⟨f, c, rfl, hf⟩ := h.1.2 i p hi
 refine .tup fun x hx => ?_
 simp only [List.mem_cons, List.not_mem_nil, or_false] at hx
 rcases hx with rfl | rfl
 ·exact (fact_dat hf).mono 5 (by decide)
 ·exact reason_dat (fun f p => let ⟨j, hj, _⟩ := p.fact h.1; ⟨j, hj⟩) (h.2 i _ _ hi)
theorem texts_dat (k : Nat) (ps : List W) : Dat 1 (.lst (textsT k ps)) := .lst fun x hx => by obtain ⟨y, rfl⟩ := texts_strs k ps x hx; exact .str _ _
def two (st : S) (a b : List W) : S := (st.new (.lst a)).new (.lst b)
theorem two_a (st : S) (a b : List W) : (two st a b).mu st.nxt = some (.lst a) := (new_old (st.new (.lst a)) _ st.nxt (Nat.lt_succ_self _)).trans (new_at st _)
theorem two_b (st : S) (a b : List W) : (two st a b).mu (st.nxt + 1) = some (.lst b) := new_at (st.new (.lst a)) _
theorem two_old (st : S) (a b : List W) (m : Nat) (h : m < st.nxt) : (two st a b).mu m = st.mu m := (new_old (st.new (.lst a)) _ m (Nat.lt_succ_of_lt h)).trans (new_old st _ m h)
theorem two_putA (st : S) (a b a' : List W) : (two st a b).put st.nxt (.lst a') = two st a' b := by
 show (⟨_, _⟩ : S) = ⟨_, _⟩
 congr 1
 funext m
 show (if m = st.nxt then some (MO.lst a') else if m = st.nxt + 1 then some (.lst b) else if m = st.nxt then some (.lst a) else st.mu m) = (if m = st.nxt + 1 then some (.lst b) else if m = st.nxt then some (.lst a') else st.mu m)
 by_cases h : m = st.nxt
 ·rw [if_pos h, if_neg (by omega), if_pos h]
 ·rw [if_neg h, if_neg h, if_neg h]
theorem two_putB (st : S) (a b b' : List W) : (two st a b).put (st.nxt + 1) (.lst b') = two st a b' := new_put (st.new (.lst a)) _ _
theorem appendA {st : S} {a b : List W} {w : W} (h : a.length ≤ 100) : opAppend (.ref st.nxt) [w] (two st a b) = .ok .non (two st (a ++ [w]) b) := by
 show (match (two st a b).mu st.nxt with
  | some (.lst xs) => if xs.length < sizeLine then R.ok W.non ((two st a b).put st.nxt (.lst (xs ++ [w]))) else .stuck
  | _ => .stuck) = _
 rw [two_a]
 show (if a.length < sizeLine then R.ok W.non ((two st a b).put st.nxt (.lst (a ++ [w]))) else .stuck) = _
 rw [if_pos (Nat.lt_of_le_of_lt h (by decide)), two_putA]
theorem appendB {st : S} {a b : List W} {w : W} (h : b.length ≤ 100) : opAppend (.ref (st.nxt + 1)) [w] (two st a b) = .ok .non (two st a (b ++ [w])) := by
 show (match (two st a b).mu (st.nxt + 1) with
  | some (.lst xs) => if xs.length < sizeLine then R.ok W.non ((two st a b).put (st.nxt + 1) (.lst (xs ++ [w]))) else .stuck
  | _ => .stuck) = _
 rw [two_b]
 show (if b.length < sizeLine then R.ok W.non ((two st a b).put (st.nxt + 1) (.lst (b ++ [w]))) else .stuck) = _
 rw [if_pos (Nat.lt_of_le_of_lt h (by decide)), two_putB]
theorem app_runs {n : Nat} {Γ : Ga} {s s' : S} {ro re : Run} {w : W} {xs : List W} (ho : ro Γ s = .ok (.ref n) s) (hk : s.mu n = some (.lst xs)) (he : re Γ s = .ok w s) (ha : opAppend (.ref n) [w] s = .ok .non s') : runM "list" ro (runsCons re runsNil) opAppend Γ s = .ok .non s' := by
 unfold runM
 have hk : kindW s (.ref n) = some "list" := by
  show MO.kind (s.mu n) = _
  rw [hk]; rfl
 rw [ho, ev_ok, if_pos hk, ev_cons, he, ev_ok, ev_nil, ev_ok, ev_ok, ha]
theorem Whole.snoc {row : List W} (h : Whole row) {f c : W} (hl : row.length < 9) (hf : Fact row.length f) (hc : Re (InRow row) c) : Whole (row ++ [.tup [f, c]]) := by
 have up : ∀ g, InRow row g → InRow (row ++ [.tup [f, c]]) g := fun g ⟨i, d, hi⟩ => ⟨i, d, by rw [List.getElem?_append_left (List.getElem?_eq_some_iff.mp hi).1]; exact hi⟩
 have at_ : ∀ (i : Nat) p, (row ++ [.tup [f, c]])[i]? = some p → row[i]? = some p ∨ (i = row.length ∧ p = .tup [f, c]) := fun i p hi => by
  by_cases hlt : i < row.length
  ·rw [List.getElem?_append_left hlt] at hi; exact .inl hi
  ·rw [List.getElem?_append_right (by omega)] at hi
   by_cases h0 : i - row.length = 0
   ·rw [h0] at hi
    exact .inr ⟨by omega, (Option.some.inj hi).symm⟩
   ·rw [List.getElem?_eq_none (by simp; omega)] at hi; cases hi
 refine ⟨⟨by rw [List.length_append, List.length_singleton]; omega, fun i p hi => ?_⟩, fun i g d hi => ?_⟩
 ·rcases at_ i p hi with q | ⟨rfl, rfl⟩
  ·exact h.1.2 i p q
  ·exact ⟨f, c, rfl, hf⟩
 ·rcases at_ i _ hi with q | ⟨rfl, e⟩
  ·exact (h.2 i g d q).mono up
  ·cases e; exact hc.mono up
end DL.My
namespace DL.My
open PySem L2
noncomputable def lawBody : RunS := (sSeq (sSet 4 (runN (runsCons (rVar 0) (runsCons (run2 (rCon (W.int 1)) (run2 (rCon (W.int 2)) (rVar 3) opMul) opAdd) runsNil)) (calmOp op_l_cell_at)))
 (sSeq (sSet 5 (runN (runsCons (runN (runsCons (rVar 3) (runsCons (runN (runsCons (rVar 0) (runsCons (run2 (rCon (W.int 2)) (run2 (rCon (W.int 2)) (rVar 3) opMul) opAdd) runsNil)) (calmOp op_l_cell_at)) runsNil)) (calmOp op_l_fact_by)) (runsCons (runN (runsCons (rVar 4) (runsCons (rVar 1) runsNil)) (calmOp op_l_cause_by)) runsNil)) opTup))
 (sSeq (sSet 6 (run2 (run2 (run2 (run2 (runN (runsCons (run2 (rVar 3) (rCon (W.int 1)) opAdd) runsNil) opStr) (rCon (W.str " ")) opAdd) (runN (runsCons (run2 (rVar 5) (rCon (W.int 0)) opIdx) runsNil) (calmOp op_l_fact)) opAdd) (rCon (W.str ": ")) opAdd) (run2 (run2 (rVar 5) (rCon (W.int 1)) opIdx) (rCon (W.int 0)) opIdx) opAdd))
 (sSeq (sIf (run2 (run2 (run2 (rVar 5) (rCon (W.int 1)) opIdx) (rCon (W.int 0)) opIdx) (rCon (W.str "by")) opEq)
  (sSeq (sSet 6 (run2 (run2 (run2 (run2 (rVar 6) (rCon (W.str " ")) opAdd) (runN (runsCons (run2 (run2 (rVar 5) (rCon (W.int 1)) opIdx) (rCon (W.int 1)) opIdx) runsNil) opStr) opAdd) (rCon (W.str " from ")) opAdd) (runN (runsCons (run2 (run2 (rVar 5) (rCon (W.int 1)) opIdx) (rCon (W.int 2)) opIdx) (runsCons (rVar 1) runsNil)) (calmOp op_l_grounds)) opAdd))
 sPass)
  sPass)
 (sSeq (sIf (run2 (run2 (run2 (rVar 5) (rCon (W.int 1)) opIdx) (rCon (W.int 0)) opIdx) (rCon (W.str "of")) opEq)
  (sSeq (sSet 7 (runComp false (runSrc (run2 (run2 (rVar 5) (rCon (W.int 1)) opIdx) (rCon (W.int 3)) opIdx)) [1] (rCon (.bl true)) (runN (runsCons (rVar 0) (runsCons (rVar 1) runsNil)) (calmOp op_l_grounds))))
 (sSeq (sSet 6 (run2 (run2 (run2 (run2 (rVar 6) (rCon (W.str " ")) opAdd) (runN (runsCons (run2 (run2 (rVar 5) (rCon (W.int 1)) opIdx) (rCon (W.int 1)) opIdx) runsNil) opStr) opAdd) (rCon (W.str " from ")) opAdd) (runM "str" (rCon (W.str "; ")) (runsCons (rVar 7) runsNil) opJoin) opAdd))
 sPass))
  sPass)
 (sSeq (sDrop (runM "list" (rVar 1) (runsCons (rVar 5) runsNil) opAppend))
 (sSeq (sDrop (runM "list" (rVar 2) (runsCons (rVar 6) runsNil) opAppend))
 sPass)))))))
section
variable {x0 x1 x2 x3 x4 x6 x7 x8 x9 : Option W} {f c : W} {s : S}
theorem p5_0 : run2 (rVar 5) (rCon (W.int 0)) opIdx [x0, x1, x2, x3, x4, some (.tup [f, c]), x6, x7, x8, x9] s = .ok f s := by rw [ev_run2, ev_v5, ev_ok, ev_con, ev_ok, idx0T]
theorem p5_1 : run2 (rVar 5) (rCon (W.int 1)) opIdx [x0, x1, x2, x3, x4, some (.tup [f, c]), x6, x7, x8, x9] s = .ok c s := by rw [ev_run2, ev_v5, ev_ok, ev_con, ev_ok, idx1T]
theorem p5_1k (i : Int) {xs : List W} {w : W} (h : atI xs i = some w) : run2 (run2 (rVar 5) (rCon (W.int 1)) opIdx) (rCon (W.int i)) opIdx [x0, x1, x2, x3, x4, some (.tup [f, .tup xs]), x6, x7, x8, x9] s = .ok w s := by
 rw [ev_run2, p5_1, ev_ok, ev_con, ev_ok]
 exact ev_idxT _ _ _ h
theorem p5_kind {k y : Str} {r : List W} : run2 (run2 (run2 (rVar 5) (rCon (W.int 1)) opIdx) (rCon (W.int 0)) opIdx) (rCon (W.str y)) opEq [x0, x1, x2, x3, x4, some (.tup [f, .tup (.str k :: r)]), x6, x7, x8, x9] s = .ok (.bl (k == y)) s := by
 rw [ev_run2, p5_1k 0 (at_nat _ 0 _ rfl), ev_ok, ev_con, ev_ok, ev_eqS]
end
theorem law_turn (ns : List Int) (st : S) {row : List W} (h : Whole row) (hl : row.length < 9) (x4 x5 x6 x7 : Option W) :
  ∃ p y4 y5 y6 y7, Whole (row ++ [p]) ∧ lawBody [some (.lst (ns.map W.int)), some (.ref st.nxt), some (.ref (st.nxt + 1)), some (.int (row.length : Nat)), x4, x5, x6, x7, none, none] (two st row (textsT 1 row)) =
   .ok (.nx [some (.lst (ns.map W.int)), some (.ref st.nxt), some (.ref (st.nxt + 1)), some (.int (row.length : Nat)), y4, y5, y6, y7, none, none]) (two st (row ++ [p]) (textsT 1 (row ++ [p]))) := by
 have hm := two_a st row (textsT 1 row)
 have hmb := two_b st row (textsT 1 row)
 have hP : ∀ f, InRow row f → ∃ j, Fact j f := fun f p => let ⟨j, hj, _⟩ := p.fact h.1; ⟨j, hj⟩
 generalize hs : two st row (textsT 1 row) = s at hm hmb
 generalize hk : row.length = k at hl
 have c4 : ∀ {Γ : Ga}, Γ = [some (.lst (ns.map W.int)), some (.ref st.nxt), some (.ref (st.nxt + 1)), some (.int (k : Nat)), x4, x5, x6, x7, none, none] → runN (runsCons (rVar 0) (runsCons (run2 (rCon (W.int 1)) (run2 (rCon (W.int 2)) (rVar 3) opMul) opAdd) runsNil)) (calmOp op_l_cell_at) Γ s = .ok (.int (ns.getD (1 + 2 * k) 0)) s := fun e => by
  subst e
  refine callN2 (y := .int ((1 + 2 * k : Nat) : Int)) rfl ?_ (cell_ok ns (1 + 2 * k) s)
  rw [ev_run2, ev_con, ev_ok, ev_run2, ev_con, ev_ok, ev_v3, ev_ok, ev_mulL 2 (k : Int) (by decide) (by decide), ev_ok, ev_addI]
  congr 2 <;> omega
 obtain ⟨c, hc, ec⟩ := cause_by h.1 hm (ns.getD (1 + 2 * k) 0)
 obtain ⟨f, hf, ef⟩ := fact_by hl (ns.getD (2 + 2 * k) 0) s
 have c5 : runN (runsCons (runN (runsCons (rVar 3) (runsCons (runN (runsCons (rVar 0) (runsCons (run2 (rCon (W.int 2)) (run2 (rCon (W.int 2)) (rVar 3) opMul) opAdd) runsNil)) (calmOp op_l_cell_at)) runsNil)) (calmOp op_l_fact_by)) (runsCons (runN (runsCons (rVar 4) (runsCons (rVar 1) runsNil)) (calmOp op_l_cause_by)) runsNil)) opTup
   [some (.lst (ns.map W.int)), some (.ref st.nxt), some (.ref (st.nxt + 1)), some (.int (k : Nat)), some (.int (ns.getD (1 + 2 * k) 0)), x5, x6, x7, none, none] s = .ok (.tup [f, c]) s := by
  have e1 := callN2 (op := op_l_cell_at) (a := rVar 0) (b := run2 (rCon (W.int 2)) (run2 (rCon (W.int 2)) (rVar 3) opMul) opAdd) (Γ := [some (.lst (ns.map W.int)), some (.ref st.nxt), some (.ref (st.nxt + 1)), some (.int (k : Nat)), some (.int (ns.getD (1 + 2 * k) 0)), x5, x6, x7, none, none]) (st := s) (y := .int ((2 + 2 * k : Nat) : Int)) rfl (by
   rw [ev_run2, ev_con, ev_ok, ev_run2, ev_con, ev_ok, ev_v3, ev_ok, ev_mulL 2 (k : Int) (by decide) (by decide), ev_ok, ev_addI]
   congr 2 <;> omega) (cell_ok ns (2 + 2 * k) s)
  have e2 := callN2 (op := op_l_fact_by) (a := rVar 3) rfl e1 ef
  have e3 := callN2 (op := op_l_cause_by) (a := rVar 4) (b := rVar 1) (Γ := [some (.lst (ns.map W.int)), some (.ref st.nxt), some (.ref (st.nxt + 1)), some (.int (k : Nat)), some (.int (ns.getD (1 + 2 * k) 0)), x5, x6, x7, none, none]) (st := s) rfl rfl ec
  rw [ev_runN, ev_cons, e2, ev_ok, ev_cons, e3, ev_ok, ev_nil, ev_ok, ev_ok, ev_ok]
  exact ev_tup _ (show 2 ≤ sizeLine by decide)
 have wh : Whole (row ++ [.tup [f, c]]) := h.snoc (by omega) (by rw [hk]; exact hf) hc
 have hsn : (sh (.int ((k + 1 : Nat) : Int))).length ≤ 10 := sh_small (by omega)
 obtain ⟨_, efl, lfl⟩ := fact_txt hf s
 have e1 : (" " : Str).length = 1 := by decide +kernel
 have e2 : (": " : Str).length = 2 := by decide +kernel
 have e3 : (" from " : Str).length = 6 := by decide +kernel
 have c6 : ∀ (w : Str) (r : List W), c = .tup (.str w :: r) → w.length ≤ 4 → run2 (run2 (run2 (run2 (runN (runsCons (run2 (rVar 3) (rCon (W.int 1)) opAdd) runsNil) opStr) (rCon (W.str " ")) opAdd) (runN (runsCons (run2 (rVar 5) (rCon (W.int 0)) opIdx) runsNil) (calmOp op_l_fact)) opAdd) (rCon (W.str ": ")) opAdd) (run2 (run2 (rVar 5) (rCon (W.int 1)) opIdx) (rCon (W.int 0)) opIdx) opAdd
   [some (.lst (ns.map W.int)), some (.ref st.nxt), some (.ref (st.nxt + 1)), some (.int (k : Nat)), some (.int (ns.getD (1 + 2 * k) 0)), some (.tup [f, c]), x6, x7, none, none] s = .ok (.str (sh (.int ((k + 1 : Nat) : Int)) ++ " " ++ fT f ++ ": " ++ w)) s := by
  intro w r ew hw
  subst ew
  have a1 : runN (runsCons (run2 (rVar 3) (rCon (W.int 1)) opAdd) runsNil) opStr [some (.lst (ns.map W.int)), some (.ref st.nxt), some (.ref (st.nxt + 1)), some (.int (k : Nat)), some (.int (ns.getD (1 + 2 * k) 0)), some (.tup [f, .tup (.str w :: r)]), x6, x7, none, none] s = .ok (.str (sh (.int ((k + 1 : Nat) : Int)))) s := by
   rw [ev_runN, ev_cons, ev_run2, ev_v3, ev_ok, ev_con, ev_ok, ev_addI, ev_ok, ev_nil, ev_ok, ev_ok]
   exact int_str (i := ((k + 1 : Nat) : Int)) (by omega)
  exact add2 (add2 (add2 (add2 a1 (ev_con _) (by omega)) (callN1 p5_0 efl) (by rw [len_app]; omega)) (ev_con _) (by rw [len_app, len_app]; omega)) (p5_1k 0 (at_nat _ 0 _ rfl)) (by rw [len_app, len_app, len_app]; omega)
 have fin : ∀ (y6 y7 : Option W) (t : Str), t = pairT (k + 1) (.tup [f, c]) → y6 = some (.str t) →
   (sSeq (sDrop (runM "list" (rVar 1) (runsCons (rVar 5) runsNil) opAppend)) (sSeq (sDrop (runM "list" (rVar 2) (runsCons (rVar 6) runsNil) opAppend)) sPass)) [some (.lst (ns.map W.int)), some (.ref st.nxt), some (.ref (st.nxt + 1)), some (.int (k : Nat)), some (.int (ns.getD (1 + 2 * k) 0)), some (.tup [f, c]), y6, y7, none, none] s =
    .ok (.nx [some (.lst (ns.map W.int)), some (.ref st.nxt), some (.ref (st.nxt + 1)), some (.int (k : Nat)), some (.int (ns.getD (1 + 2 * k) 0)), some (.tup [f, c]), y6, y7, none, none]) (two st (row ++ [.tup [f, c]]) (textsT 1 (row ++ [.tup [f, c]]))) := by
  intro y6 y7 t et ey
  subst ey hs
  have a1 := app_runs (ro := rVar 1) (re := rVar 5) (Γ := [some (.lst (ns.map W.int)), some (.ref st.nxt), some (.ref (st.nxt + 1)), some (.int (k : Nat)), some (.int (ns.getD (1 + 2 * k) 0)), some (.tup [f, c]), some (.str t), y7, none, none]) rfl hm rfl (appendA (st := st) (a := row) (b := textsT 1 row) (w := .tup [f, c]) (by omega))
  have a2 := app_runs (ro := rVar 2) (re := rVar 6) (Γ := [some (.lst (ns.map W.int)), some (.ref st.nxt), some (.ref (st.nxt + 1)), some (.int (k : Nat)), some (.int (ns.getD (1 + 2 * k) 0)), some (.tup [f, c]), some (.str t), y7, none, none]) rfl (two_b st (row ++ [.tup [f, c]]) (textsT 1 row)) rfl (appendB (st := st) (a := row ++ [.tup [f, c]]) (b := textsT 1 row) (w := .str t) (by rw [texts_len]; omega))
  rw [ev_seq, e_drop, a1, ev_ok, kDrop_, ev_ok, kSeq_nx, ev_seq, e_drop, a2, ev_ok, kDrop_, ev_ok, kSeq_nx, ev_pass, texts_app, hk, show 1 + k = k + 1 by omega, ← et]
 refine ⟨.tup [f, c], ?_⟩
 unfold lawBody
 cases hc with
 | told =>
  refine ⟨some (.int (ns.getD (1 + 2 * k) 0)), some (.tup [f, .tup [.str "told"]]), some (.str (sh (.int ((k + 1 : Nat) : Int)) ++ " " ++ fT f ++ ": " ++ "told")), x7, wh, ?_⟩
  rw [ev_seq, e_set, c4 rfl, ev_ok, ks4, ev_ok, kSeq_nx, ev_seq, e_set, c5, ev_ok, ks5, ev_ok, kSeq_nx, ev_seq, e_set, c6 _ _ rfl (by decide +kernel), ev_ok, ks6, ev_ok, kSeq_nx, ev_seq, ev_if, p5_kind, ev_ok, kIf_bl, show (("told" : Str) == "by") = false by decide +kernel, if_neg Bool.false_ne_true, ev_pass, ev_ok, kSeq_nx,
   ev_seq, ev_if, p5_kind, ev_ok, kIf_bl, show (("told" : Str) == "of") = false by decide +kernel, if_neg Bool.false_ne_true, ev_pass, ev_ok, kSeq_nx]
  refine fin _ _ _ ?_ rfl
  show _ = sh (.int ((k + 1 : Nat) : Int)) ++ (" " ++ (fT f ++ (": " ++ "told")))
  rw [app_assoc, app_assoc, app_assoc]
 | @by_ n gs hn hg =>
  have sl := sh_small hn
  have gl := grounds_len hP hg
  have t0l : (sh (.int ((k + 1 : Nat) : Int)) ++ " " ++ fT f ++ ": " ++ ("by" : Str)).length ≤ 100 := by
   rw [len_app, len_app, len_app, len_app, e1, e2, show ("by" : Str).length = 2 by decide +kernel]; omega
  generalize ht : sh (.int ((k + 1 : Nat) : Int)) ++ " " ++ fT f ++ ": " ++ ("by" : Str) = t0 at t0l
  have cn : ∀ y6 y7 : Option W, runN (runsCons (run2 (run2 (rVar 5) (rCon (W.int 1)) opIdx) (rCon (W.int 1)) opIdx) runsNil) opStr [some (.lst (ns.map W.int)), some (.ref st.nxt), some (.ref (st.nxt + 1)), some (.int (k : Nat)), some (.int (ns.getD (1 + 2 * k) 0)), some (.tup [f, .tup [.str "by", .int (n : Nat), .tup gs]]), y6, y7, none, none] s = .ok (.str (sh (.int (n : Nat)))) s := fun y6 y7 => by
   rw [ev_runN, ev_cons, p5_1k 1 (at_nat _ 1 _ rfl), ev_ok, ev_nil, ev_ok, ev_ok]
   exact int_str (by omega)
  have cg := callN2 (op := op_l_grounds) (a := run2 (run2 (rVar 5) (rCon (W.int 1)) opIdx) (rCon (W.int 2)) opIdx) (b := rVar 1) (Γ := [some (.lst (ns.map W.int)), some (.ref st.nxt), some (.ref (st.nxt + 1)), some (.int (k : Nat)), some (.int (ns.getD (1 + 2 * k) 0)), some (.tup [f, .tup [.str "by", .int (n : Nat), .tup gs]]), some (.str t0), x7, none, none]) (st := s) (p5_1k 2 (at_nat _ 2 _ rfl)) rfl (lgrounds_ok h.1 hm hg)
  refine ⟨some (.int (ns.getD (1 + 2 * k) 0)), some (.tup [f, .tup [.str "by", .int (n : Nat), .tup gs]]), some (.str (t0 ++ " " ++ sh (.int (n : Nat)) ++ " from " ++ groundsT gs)), x7, wh, ?_⟩
  rw [ev_seq, e_set, c4 rfl, ev_ok, ks4, ev_ok, kSeq_nx, ev_seq, e_set, c5, ev_ok, ks5, ev_ok, kSeq_nx, ev_seq, e_set, c6 _ _ rfl (by decide +kernel), ht, ev_ok, ks6, ev_ok, kSeq_nx, ev_seq, ev_if, p5_kind, ev_ok, kIf_bl, if_pos (by decide +kernel),
   ev_seq, e_set, add2 (add2 (add2 (add2 (ev_v6 _ _ _ _ _ _ _) (ev_con _) (by omega)) (cn _ _) (by rw [len_app]; omega)) (ev_con _) (by rw [len_app, len_app]; omega)) cg (by rw [len_app, len_app, len_app]; omega), ev_ok, ks6, ev_ok, kSeq_nx, ev_pass, ev_ok, kSeq_nx,
   ev_seq, ev_if, p5_kind, ev_ok, kIf_bl, show (("by" : Str) == "of") = false by decide +kernel, if_neg Bool.false_ne_true, ev_pass, ev_ok, kSeq_nx]
  refine fin _ _ _ ?_ rfl
  show _ = sh (.int ((k + 1 : Nat) : Int)) ++ (" " ++ (fT f ++ (": " ++ (("by" : Str) ++ tailT (Int.toNat (n : Nat)) (groundsT gs)))))
  unfold tailT
  rw [← ht, Int.toNat_natCast]
  simp only [app_assoc]
 | @of_ n key fs hn hkk hfs hlf =>
  have sl := sh_small hn
  have gl := fills_len hP hfs hlf
  have t0l : (sh (.int ((k + 1 : Nat) : Int)) ++ " " ++ fT f ++ ": " ++ ("of" : Str)).length ≤ 100 := by
   rw [len_app, len_app, len_app, len_app, e1, e2, show ("of" : Str).length = 2 by decide +kernel]; omega
  generalize ht : sh (.int ((k + 1 : Nat) : Int)) ++ " " ++ fT f ++ ": " ++ ("of" : Str) = t0 at t0l
  have cn : ∀ y6 y7 : Option W, runN (runsCons (run2 (run2 (rVar 5) (rCon (W.int 1)) opIdx) (rCon (W.int 1)) opIdx) runsNil) opStr [some (.lst (ns.map W.int)), some (.ref st.nxt), some (.ref (st.nxt + 1)), some (.int (k : Nat)), some (.int (ns.getD (1 + 2 * k) 0)), some (.tup [f, .tup [.str "of", .int (n : Nat), key, .tup fs]]), y6, y7, none, none] s = .ok (.str (sh (.int (n : Nat)))) s := fun y6 y7 => by
   rw [ev_runN, ev_cons, p5_1k 1 (at_nat _ 1 _ rfl), ev_ok, ev_nil, ev_ok, ev_ok]
   exact int_str (by omega)
  obtain ⟨f1, f2⟩ := fills_run (op := op_l_grounds) (P := InRow row) hP (fs := fs) (d := .ref st.nxt) (st := s) (Γ := [some (.lst (ns.map W.int)), some (.ref st.nxt), some (.ref (st.nxt + 1)), some (.int (k : Nat)), some (.int (ns.getD (1 + 2 * k) 0)), some (.tup [f, .tup [.str "of", .int (n : Nat), key, .tup fs]]), some (.str t0), x7, none, none])
   (src := runSrc (run2 (run2 (rVar 5) (rCon (W.int 1)) opIdx) (rCon (W.int 3)) opIdx)) (c := 1) (by unfold runSrc; rw [p5_1k 3 (at_nat _ 3 _ rfl), ev_ok]; rfl) rfl hfs hlf (fun gs hg => lgrounds_ok h.1 hm hg)
  have cj : runM "str" (rCon (W.str "; ")) (runsCons (rVar 7) runsNil) opJoin [some (.lst (ns.map W.int)), some (.ref st.nxt), some (.ref (st.nxt + 1)), some (.int (k : Nat)), some (.int (ns.getD (1 + 2 * k) 0)), some (.tup [f, .tup [.str "of", .int (n : Nat), key, .tup fs]]), some (.str t0), some (.lst ((fs.map gsW).map W.str)), none, none] s = .ok (.str (fillsT fs)) s := by
   unfold runM
   rw [ev_con, ev_ok, if_pos (show kindW s (.str "; ") = some "str" from rfl), ev_cons, ev_v7, ev_ok, ev_nil, ev_ok, ev_ok, f2]
  refine ⟨some (.int (ns.getD (1 + 2 * k) 0)), some (.tup [f, .tup [.str "of", .int (n : Nat), key, .tup fs]]), some (.str (t0 ++ " " ++ sh (.int (n : Nat)) ++ " from " ++ fillsT fs)), some (.lst ((fs.map gsW).map W.str)), wh, ?_⟩
  rw [ev_seq, e_set, c4 rfl, ev_ok, ks4, ev_ok, kSeq_nx, ev_seq, e_set, c5, ev_ok, ks5, ev_ok, kSeq_nx, ev_seq, e_set, c6 _ _ rfl (by decide +kernel), ht, ev_ok, ks6, ev_ok, kSeq_nx, ev_seq, ev_if, p5_kind, ev_ok, kIf_bl, show (("of" : Str) == "by") = false by decide +kernel, if_neg Bool.false_ne_true, ev_pass, ev_ok, kSeq_nx,
   ev_seq, ev_if, p5_kind, ev_ok, kIf_bl, if_pos (by decide +kernel), ev_seq, e_set, f1, ev_ok, ks7, ev_ok, kSeq_nx,
   ev_seq, e_set, add2 (add2 (add2 (add2 (ev_v6 _ _ _ _ _ _ _) (ev_con _) (by omega)) (cn _ _) (by rw [len_app]; omega)) (ev_con _) (by rw [len_app, len_app]; omega)) cj (by rw [len_app, len_app, len_app]; omega), ev_ok, ks6, ev_ok, kSeq_nx, ev_pass, ev_ok, kSeq_nx]
  refine fin _ _ _ ?_ rfl
  show _ = sh (.int ((k + 1 : Nat) : Int)) ++ (" " ++ (fT f ++ (": " ++ (("of" : Str) ++ tailT (Int.toNat (n : Nat)) (fillsT fs)))))
  unfold tailT
  rw [← ht, Int.toNat_natCast]
  simp only [app_assoc]
end DL.My
namespace DL.My
open PySem L2
theorem eq_refs {s : S} {a b : Nat} {xs : List W} (ha : s.mu a = some (.lst xs)) (hb : s.mu b = some (.lst xs)) {n : Nat} (h : Dat n (.lst xs)) (hn : n ≤ 10) : eqW s (.ref a) (.ref b) = some true := by
 have fr : ∀ m, s.mu m = some (.lst xs) → frz 0 s.mu 12 (.ref m) = some (.lst xs) := fun m hm => by
  show (if m < 0 then some (W.ref m) else (match s.mu m with
    | some (.lst ys) => (frzs (frz 0 s.mu 11) ys).map W.lst
    | some (.dct ks ys) => (frzs (frz 0 s.mu 11) ys).map (W.dct ks)
    | none => none)) = _
  rw [if_neg (Nat.not_lt_zero _), hm]
  show (frzs (frz 0 s.mu 11) xs).map W.lst = _
  cases h with
  | lst hx => rw [frzs_id fun x hm' => (hx x hm').frz 0 s.mu 11 (by omega)]; rfl
 show (match (none : Option Bool) with
  | some c => some c
  | none => (match (none : Option Bool) with
   | some c => some c
   | none => (match frz 0 s.mu 12 (.ref a), frz 0 s.mu 12 (.ref b) with
    | some a', some b' => eqD 12 a' b'
    | _, _ => none))) = _
 rw [fr a ha, fr b hb]
 exact h.eq 12 (by omega)
theorem eq_lref {s : S} {b : Nat} {xs : List W} (hb : s.mu b = some (.lst xs)) {n : Nat} (h : Dat n (.lst xs)) (hn : n ≤ 10) : eqW s (.lst xs) (.ref b) = some true := by
 have fr : frz 0 s.mu 12 (.ref b) = some (.lst xs) := by
  show (if b < 0 then some (W.ref b) else (match s.mu b with
    | some (.lst ys) => (frzs (frz 0 s.mu 11) ys).map W.lst
    | some (.dct ks ys) => (frzs (frz 0 s.mu 11) ys).map (W.dct ks)
    | none => none)) = _
  rw [if_neg (Nat.not_lt_zero _), hb]
  show (frzs (frz 0 s.mu 11) xs).map W.lst = _
  cases h with
  | lst hx => rw [frzs_id fun x hm' => (hx x hm').frz 0 s.mu 11 (by omega)]; rfl
 show (match (none : Option Bool) with
  | some c => some c
  | none => (match (none : Option Bool) with
   | some c => some c
   | none => (match frz 0 s.mu 12 (.lst xs), frz 0 s.mu 12 (.ref b) with
    | some a', some b' => eqD 12 a' b'
    | _, _ => none))) = _
 rw [h.frz 0 s.mu 12 (by omega), fr]
 exact h.eq 12 (by omega)
theorem law_true (ns : List Int) (hns : ns.length ≤ 63) : ∃ st', op_law [.lst (ns.map W.int)] st0 = .ok (.bl true) st' := by
 refine ⟨st0, ?_⟩
 generalize st0 = st
 obtain ⟨m0, m1⟩ := mod_lt (ns.getD 0 0) 9 (by decide)
 obtain ⟨Γ1, s1, el, row, wh, lr, x3, x4, x5, x6, x7, rfl, rfl⟩ := loop_num (i := 3) (body := lawBody) (Γ := [some (.lst (ns.map W.int)), some (.ref st.nxt), some (.ref (st.nxt + 1)), none, none, none, none, none, none, none]) (s := two st [] [])
  (fun k Γ s => ∃ row, Whole row ∧ row.length = k ∧ ∃ x3 x4 x5 x6 x7, Γ = [some (.lst (ns.map W.int)), some (.ref st.nxt), some (.ref (st.nxt + 1)), x3, x4, x5, x6, x7, none, none] ∧ s = two st row (textsT 1 row))
  (1 + ns.getD 0 0 % 9).toNat ⟨[], ⟨⟨by decide, fun i p h => by simp at h⟩, fun i f c h => by simp at h⟩, rfl, none, none, none, none, none, rfl, rfl⟩ (fun k Γ s hk ⟨row, wh, lr, x3, x4, x5, x6, x7, hΓ, hs⟩ => by
   subst hΓ hs
   obtain ⟨p, y4, y5, y6, y7, wh', e⟩ := law_turn ns st wh (by omega) x4 x5 x6 x7
   rw [lr] at e
   exact ⟨_, _, e, row ++ [p], wh', by rw [List.length_append, lr]; rfl, _, _, _, _, _, rfl, rfl⟩)
 have cc := callN2 (op := op_l_cell_at) (a := rVar 0) (b := rCon (W.int 0)) (Γ := [some (.lst (ns.map W.int)), some (.ref st.nxt), some (.ref (st.nxt + 1)), none, none, none, none, none, none, none]) (st := two st [] []) rfl rfl (cell_ok ns 0 _)
 have rg : runRng1 (run2 (rCon (W.int 1)) (run2 (runN (runsCons (rVar 0) (runsCons (rCon (W.int 0)) runsNil)) (calmOp op_l_cell_at)) (rCon (W.int 9)) opMod) opAdd) [some (.lst (ns.map W.int)), some (.ref st.nxt), some (.ref (st.nxt + 1)), none, none, none, none, none, none, none] (two st [] []) = .ok (rangeW 0 (1 + ns.getD 0 0 % 9).toNat) (two st [] []) :=
  ev_rng1 _ _ (by rw [ev_run2, ev_con, ev_ok, ev_run2, cc, ev_ok, ev_con, ev_ok, ev_modI _ _ (by decide), ev_ok, ev_addI]) (by omega) (by omega)
 have r1 : ∀ Γ : Ga, runN runsNil (opL true) Γ st = .ok (.ref st.nxt) (st.new (.lst [])) := fun Γ => rfl
 have r2 : ∀ Γ : Ga, runN runsNil (opL true) Γ (st.new (.lst [])) = .ok (.ref (st.nxt + 1)) (two st [] []) := fun Γ => rfl
 have ma := two_a st row (textsT 1 row)
 have mb := two_b st row (textsT 1 row)
 have mo := two_old st row (textsT 1 row)
 have nx : (two st row (textsT 1 row)).nxt = st.nxt + 2 := rfl
 generalize two st row (textsT 1 row) = s2 at el ma mb mo nx
 have c8 : runN (runsCons (rVar 1) runsNil) (opList false) [some (.lst (ns.map W.int)), some (.ref st.nxt), some (.ref (st.nxt + 1)), x3, x4, x5, x6, x7, none, none] s2 = .ok (.lst row) s2 := by
  rw [ev_runN, ev_cons, ev_v1, ev_ok, ev_nil, ev_ok, ev_ok]
  show (match MO.items (s2.mu st.nxt) with | some xs => if false = true then opNewL xs s2 else opLst xs s2 | none => .stuck) = _
  rw [ma]
  exact ev_lst row (Nat.le_trans wh.1.1 (by decide))
 have c9 := callN1 (op := op_drawn) (a := rVar 8) (Γ := [some (.lst (ns.map W.int)), some (.ref st.nxt), some (.ref (st.nxt + 1)), x3, x4, x5, x6, x7, some (.lst row), none]) (st := s2) rfl (drawn_ok wh s2)
 have old3 := new_old s2 (.lst (textsT 1 row))
 have at3 := new_at s2 (.lst (textsT 1 row))
 have td := texts_dat 1 row
 have rd := row_dat wh
 have ki : runN (runsCons (rVar 9) (runsCons (rCon (.ty "list")) runsNil)) opIsi [some (.lst (ns.map W.int)), some (.ref st.nxt), some (.ref (st.nxt + 1)), x3, x4, x5, x6, x7, some (.lst row), some (.ref s2.nxt)] (s2.new (.lst (textsT 1 row))) = .ok (.bl true) (s2.new (.lst (textsT 1 row))) := by
  have hk : kindW (s2.new (.lst (textsT 1 row))) (.ref s2.nxt) = some "list" := by
   show MO.kind ((s2.new (.lst (textsT 1 row))).mu s2.nxt) = _
   rw [at3]; rfl
  rw [ev_runN, ev_cons, ev_v9, ev_ok, ev_cons, ev_con, ev_ok, ev_nil, ev_ok, ev_ok, ev_ok, ev_isi, if_pos (by decide), hk]; rfl
 have n1 : opNe (.ref s2.nxt) (.ref (st.nxt + 1)) (s2.new (.lst (textsT 1 row))) = .ok (.bl false) (s2.new (.lst (textsT 1 row))) := by
  unfold opNe
  rw [eq_refs at3 ((old3 _ (by omega)).trans mb) td (by decide)]; rfl
 have n2 : opNe (.lst row) (.ref st.nxt) (s2.new (.lst (textsT 1 row))) = .ok (.bl false) (s2.new (.lst (textsT 1 row))) := by
  unfold opNe
  rw [eq_lref ((old3 _ (by omega)).trans ma) rd (by decide)]; rfl
 have ap := app_runs (ro := rVar 9) (re := rCon (W.str "")) (Γ := [some (.lst (ns.map W.int)), some (.ref st.nxt), some (.ref (st.nxt + 1)), x3, x4, x5, x6, x7, some (.lst row), some (.ref s2.nxt)]) (s := s2.new (.lst (textsT 1 row))) (s' := s2.new (.lst (textsT 1 row ++ [W.str ""]))) (w := .str "") rfl at3 rfl (by
  show (match (s2.new (.lst (textsT 1 row))).mu s2.nxt with
   | some (.lst xs) => if xs.length < sizeLine then R.ok W.non ((s2.new (.lst (textsT 1 row))).put s2.nxt (.lst (xs ++ [W.str ""]))) else .stuck
   | _ => .stuck) = _
  rw [at3]
  show (if (textsT 1 row).length < sizeLine then R.ok W.non ((s2.new (.lst (textsT 1 row))).put s2.nxt (.lst (textsT 1 row ++ [W.str ""]))) else .stuck) = _
  rw [if_pos (by rw [texts_len]; exact Nat.lt_of_le_of_lt wh.1.1 (by decide)), new_put])
 have old4 := new_old s2 (.lst (textsT 1 row ++ [W.str ""]))
 have nx4 : (s2.new (.lst (textsT 1 row ++ [W.str ""]))).nxt = s2.nxt + 1 := rfl
 generalize s2.new (.lst (textsT 1 row ++ [W.str ""])) = s4 at ap old4 nx4
 have cf := callN1 (op := op_drawn) (a := rVar 8) (Γ := [some (.lst (ns.map W.int)), some (.ref st.nxt), some (.ref (st.nxt + 1)), x3, x4, x5, x6, x7, some (.lst row), some (.ref s2.nxt)]) (st := s4) rfl (drawn_ok wh s4)
 have old5 := new_old s4 (.lst (textsT 1 row))
 have fin : run2 (runN (runsCons (rVar 8) runsNil) (calmOp op_drawn)) (rVar 2) opEq [some (.lst (ns.map W.int)), some (.ref st.nxt), some (.ref (st.nxt + 1)), x3, x4, x5, x6, x7, some (.lst row), some (.ref s2.nxt)] s4 = .ok (.bl true) (s4.new (.lst (textsT 1 row))) := by
  rw [ev_run2, cf, ev_ok, ev_v2, ev_ok]
  unfold opEq
  rw [eq_refs (new_at s4 _) ((old5 _ (by omega)).trans ((old4 _ (by omega)).trans mb)) td (by decide)]
 unfold lawBody at el
 unfold op_law
 rw [ev_op1]
 unfold r_law
 rw [show List.replicate (10 - 1) (none : Option W) = [none, none, none, none, none, none, none, none, none] from rfl, ev_seq, e_set, r1, ev_ok, ks1, ev_ok, kSeq_nx, ev_seq, e_set, r2, ev_ok, ks2, ev_ok, kSeq_nx, ev_seq, e_for, rg, ev_ok, kFor_, el, ev_ok, kSeq_nx,
  ev_seq, e_set, c8, ev_ok, ks8, ev_ok, kSeq_nx, ev_seq, e_set, c9, ev_ok, ks9, ev_ok, kSeq_nx,
  ev_seq, ev_if, ev_or, ev_not, ki, ev_ok, kNot_bl, ev_ok, kIf_bl, if_neg (show ¬ (!true) = true from Bool.false_ne_true), ev_or, ev_run2, ev_v9, ev_ok, ev_v2, ev_ok, n1, ev_ok, kIf_bl, if_neg Bool.false_ne_true, ev_run2, ev_v8, ev_ok, ev_v1, ev_ok, n2, ev_ok, kIf_bl, if_neg Bool.false_ne_true, ev_pass, ev_ok, kSeq_nx,
  ev_seq, e_drop, ap, ev_ok, kDrop_, ev_ok, kSeq_nx, ret_to fin, ev_rtK]
 exact keep_pos (fun m hm => (old5 m (by omega)).trans ((old4 m (by omega)).trans (mo m hm))) rfl
end DL.My
open PySem PySem.W PyProof.Rows
set_option maxRecDepth 100000 in
set_option maxHeartbeats 0 in
theorem PySem.Challenge.cw_whyfacts_k25_drawn_holds : PySem.Challenge.rw_whyfacts_k25_drawn.Holds := by
 w_on; o_law; k_head; (case hw => w_witness2)
 k_fill
 refine DL.walkD (l := PySem.Challenge.rw_whyfacts_k25_drawn) (op := DL.My.op_law) (k := 27) (x := "_law_script") rfl rfl ⟨rfl, by decide, by decide⟩ (fun w h Y => PySem.W.kIn_of Y) DL.My.law_true ?F
 case F =>
  intro w mg fa h KX G hmg
  refine' DL.My.all_mk KX G hmg ?b_enumerate ?b_isinstance ?b_len ?b_list ?b_range ?b_str ?b_tuple ?d_places_in ?d_shown_terms ?d_shown_fact ?d_shown_part ?d_drawn_ground ?d_drawn_grounds ?d_drawn_reason ?d_drawn_pair ?d_drawn ?d_l_cell_at ?d_l_value_by ?d_l_fact_by ?d_l_ground_by ?d_l_grounds_by ?d_l_cause_by ?d_l_terms ?d_l_fact ?d_l_ground ?d_l_grounds ?d_law
  (case b_enumerate => k_is)
  (case b_isinstance => k_is)
  (case b_len => k_is)
  (case b_list => k_is)
  (case b_range => k_is)
  (case b_str => k_is)
  (case b_tuple => k_is)
  (case d_places_in => refine' DL.DIn.mk' ?z1a ?z1b ?z1c ?z1d; (case z1a => k_is); (case z1b => k_is); (case z1c => k_is); (case z1d => k_is))
  (case d_shown_terms => refine' DL.DIn.mk' ?z2a ?z2b ?z2c ?z2d; (case z2a => k_is); (case z2b => k_is); (case z2c => k_is); (case z2d => k_is))
  (case d_shown_fact => refine' DL.DIn.mk' ?z3a ?z3b ?z3c ?z3d; (case z3a => k_is); (case z3b => k_is); (case z3c => k_is); (case z3d => k_is))
  (case d_shown_part => refine' DL.DIn.mk' ?z4a ?z4b ?z4c ?z4d; (case z4a => k_is); (case z4b => k_is); (case z4c => k_is); (case z4d => k_is))
  (case d_drawn_ground => refine' DL.DIn.mk' ?z5a ?z5b ?z5c ?z5d; (case z5a => k_is); (case z5b => k_is); (case z5c => k_is); (case z5d => k_is))
  (case d_drawn_grounds => refine' DL.DIn.mk' ?z6a ?z6b ?z6c ?z6d; (case z6a => k_is); (case z6b => k_is); (case z6c => k_is); (case z6d => k_is))
  (case d_drawn_reason => refine' DL.DIn.mk' ?z7a ?z7b ?z7c ?z7d; (case z7a => k_is); (case z7b => k_is); (case z7c => k_is); (case z7d => k_is))
  (case d_drawn_pair => refine' DL.DIn.mk' ?z8a ?z8b ?z8c ?z8d; (case z8a => k_is); (case z8b => k_is); (case z8c => k_is); (case z8d => k_is))
  (case d_drawn => refine' DL.DIn.mk' ?z9a ?z9b ?z9c ?z9d; (case z9a => k_is); (case z9b => k_is); (case z9c => k_is); (case z9d => k_is))
  (case d_l_cell_at => refine' DL.DIn.mk' ?z10a ?z10b ?z10c ?z10d; (case z10a => k_is); (case z10b => k_is); (case z10c => k_is); (case z10d => k_is))
  (case d_l_value_by => refine' DL.DIn.mk' ?z11a ?z11b ?z11c ?z11d; (case z11a => k_is); (case z11b => k_is); (case z11c => k_is); (case z11d => k_is))
  (case d_l_fact_by => refine' DL.DIn.mk' ?z12a ?z12b ?z12c ?z12d; (case z12a => k_is); (case z12b => k_is); (case z12c => k_is); (case z12d => k_is))
  (case d_l_ground_by => refine' DL.DIn.mk' ?z13a ?z13b ?z13c ?z13d; (case z13a => k_is); (case z13b => k_is); (case z13c => k_is); (case z13d => k_is))
  (case d_l_grounds_by => refine' DL.DIn.mk' ?z14a ?z14b ?z14c ?z14d; (case z14a => k_is); (case z14b => k_is); (case z14c => k_is); (case z14d => k_is))
  (case d_l_cause_by => refine' DL.DIn.mk' ?z15a ?z15b ?z15c ?z15d; (case z15a => k_is); (case z15b => k_is); (case z15c => k_is); (case z15d => k_is))
  (case d_l_terms => refine' DL.DIn.mk' ?z16a ?z16b ?z16c ?z16d; (case z16a => k_is); (case z16b => k_is); (case z16c => k_is); (case z16d => k_is))
  (case d_l_fact => refine' DL.DIn.mk' ?z17a ?z17b ?z17c ?z17d; (case z17a => k_is); (case z17b => k_is); (case z17c => k_is); (case z17d => k_is))
  (case d_l_ground => refine' DL.DIn.mk' ?z18a ?z18b ?z18c ?z18d; (case z18a => k_is); (case z18b => k_is); (case z18c => k_is); (case z18d => k_is))
  (case d_l_grounds => refine' DL.DIn.mk' ?z19a ?z19b ?z19c ?z19d; (case z19a => k_is); (case z19b => k_is); (case z19c => k_is); (case z19d => k_is))
  (case d_law => refine' DL.DIn.mk' ?z20a ?z20b ?z20c ?z20d; (case z20a => k_is); (case z20b => k_is); (case z20c => k_is); (case z20d => k_is))
