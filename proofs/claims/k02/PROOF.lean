import PyProof.Rows.All
import Wide.All
import OpenK.AllK
import Wide.FinOn
import Lean
import PyProof.EqAt
import PyProof.EqKinds
import PyProof.TupleCall
import PySem.Challenge.RW_whyfacts_k02_forms
set_option Elab.async false
set_option linter.all false
set_option maxRecDepth 100000
namespace L2
open PySem PySem.Spec PyProof.Rows
abbrev Key := Sum Int Str
def keyIs : Key → Value → Bool
 | .inl k, v => Value.isInt k v
 | .inr x, v => Value.isStrOf x v
def keyH (w : World) : Key → Int
 | .inl k => hashInt k
 | .inr x => hashStr w x
theorem keyIs_shape : ∀ {k : Key} {v : Value}, keyIs k v = true → (∃ i t, k = Sum.inl i ∧ v = Value.int i t) ∨ (∃ x t, k = Sum.inr x ∧ v = Value.str x t)
 | .inl i, v, h => by
  obtain ⟨t, e⟩ := Value.isInt_shape (k := i) (v := v) h
  exact .inl ⟨i, t, rfl, e⟩
 | .inr x, v, h => by
  obtain ⟨t, e⟩ := Value.isStrOf_shape (x := x) (v := v) h
  exact .inr ⟨x, t, rfl, e⟩
theorem keyIs_int (i : Int) (t : Tok) : keyIs (.inl i) (.int i t) = true := by simp [keyIs, Value.isInt]
theorem keyIs_str (x : Str) (t : Tok) : keyIs (.inr x) (.str x t) = true := by simp [keyIs, Value.isStrOf]
theorem key_ll (a b : Int) : decide ((Sum.inl a : Key) = Sum.inl b) = (a == b) := by
 by_cases e : a = b
 ·subst e; simp
 ·have h : ¬ (Sum.inl a : Key) = Sum.inl b := fun q => e (Sum.inl.inj q)
  rw [decide_eq_false h]
  exact (beq_eq_false_iff_ne.mpr e).symm
theorem key_rr (a b : Str) : decide ((Sum.inr a : Key) = Sum.inr b) = decide (a = b) := by
 by_cases e : a = b
 ·subst e; simp
 ·have h : ¬ (Sum.inr a : Key) = Sum.inr b := fun q => e (Sum.inr.inj q)
  rw [decide_eq_false h, decide_eq_false e]
theorem key_lr (a : Int) (b : Str) : decide ((Sum.inl a : Key) = Sum.inr b) = false := decide_eq_false (fun q => nomatch q)
theorem key_rl (a : Str) (b : Int) : decide ((Sum.inr a : Key) = Sum.inl b) = false := decide_eq_false (fun q => nomatch q)
def mixKind (prog : Program) (w : World) : PySem.KeyKind prog w Key where
 is := keyIs
 hash := keyH w
 inj := fun v a b ha hb => by
  rcases keyIs_shape ha with ⟨i, t, rfl, rfl⟩ | ⟨x, t, rfl, rfl⟩
  ·rcases keyIs_shape hb with ⟨j, u, rfl, e⟩ | ⟨y, u, rfl, e⟩
   ·injection e with e1 _; rw [e1]
   ·exact nomatch e
  ·rcases keyIs_shape hb with ⟨j, u, rfl, e⟩ | ⟨y, u, rfl, e⟩
   ·exact nomatch e
   ·injection e with e1 _; rw [e1]
 byValue := fun k v h => by
  rcases keyIs_shape h with ⟨i, t, rfl, rfl⟩ | ⟨x, t, rfl, rfl⟩ <;> rfl
 pyHash := fun hv h => by
  rcases keyIs_shape hv with ⟨i, t, rfl, rfl⟩ | ⟨x, t, rfl, rfl⟩
  ·exact wpAny_pyHash_int h
  ·exact wpAny_pyHash_str h
 eqBool := fun hu hv h => by
  rcases keyIs_shape hu with ⟨i, t, rfl, rfl⟩ | ⟨x, t, rfl, rfl⟩
  ·rcases keyIs_shape hv with ⟨j, u, rfl, rfl⟩ | ⟨y, u, rfl, rfl⟩
   ·rw [key_ll] at h; exact wpAny_eqBool_int h
   ·rw [key_lr] at h; exact SeqAt.EqAt.int_str i t y u _ _ _ _ h
  ·rcases keyIs_shape hv with ⟨j, u, rfl, rfl⟩ | ⟨y, u, rfl, rfl⟩
   ·rw [key_rl] at h; exact SeqAt.EqAt.str_int x t j u _ _ _ _ h
   ·rw [key_rr] at h; exact wpAny_eqBool_str h
 «strs» := fun k x t v h => by
  rcases keyIs_shape h with ⟨i, u, rfl, e⟩ | ⟨y, u, rfl, e⟩
  ·exact nomatch e
  ·injection e with e1 _
   subst e1
   cases v <;> rfl
theorem mixKind_int (prog : Program) (w : World) (i : Int) (t : Tok) : (mixKind prog w).is (.inl i) (.int i t) = true := keyIs_int i t
theorem mixKind_str (prog : Program) (w : World) (x : Str) (t : Tok) : (mixKind prog w).is (.inr x) (.str x t) = true := keyIs_str x t
end L2
namespace L2
open PySem PySem.Spec PyProof.Rows
inductive V where
 | non | bl (b : Bool) | int (i : Int) | str (x : Str) | byt (b : Array UInt8) | flt (b : UInt64) | ref (a : Addr) | ty (n : String)
 deriving DecidableEq
def RelV : V → Value → Prop
 | .non, u => u = Value.none
 | .bl b, u => u = Value.bool b
 | .int i, u => ∃ t, u = Value.int i t
 | .str x, u => ∃ t, u = Value.str x t
 | .byt b, u => ∃ t, u = Value.bytes b t
 | .flt b, u => ∃ t, u = Value.float b t
 | .ref a, u => u = Value.ref a
 | .ty n, u => u = Value.type n
abbrev Vals : List V → List Value → Prop := Paired RelV
theorem Vals.length {xs : List V} {us : List Value} (r : Vals xs us) : xs.length = us.length := Paired.length r
theorem Vals.get : ∀ {xs : List V} {us : List Value} {i : Nat} {x : V}, Vals xs us → xs[i]? = some x → ∃ u, us[i]? = some u ∧ RelV x u
 | _, _, _, _, .nil, e => by simp at e
 | _, _, 0, _, .cons r _, e => by simp at e; subst e; exact ⟨_, rfl, r⟩
 | _, _, i + 1, x, .cons _ t, e => by
  obtain ⟨u, h1, h2⟩ := Vals.get (i := i) (x := x) t (by simpa using e)
  exact ⟨u, by simpa using h1, h2⟩
theorem Vals.set {x : V} {u : Value} (r : RelV x u) : ∀ {xs : List V} {us : List Value} (i : Nat), Vals xs us → Vals (xs.set i x) (us.set i u)
 | _, _, _, .nil => .nil
 | _, _, 0, .cons _ t => .cons r t
 | _, _, i + 1, .cons q t => .cons q (Vals.set r i t)
theorem Vals.append : ∀ {xs ys : List V} {us ws : List Value}, Vals xs us → Vals ys ws → Vals (xs ++ ys) (us ++ ws)
 | _, _, _, _, .nil, s => s
 | _, _, _, _, .cons r t, s => .cons r (Vals.append t s)
theorem Vals.take : ∀ {xs : List V} {us : List Value} (n : Nat), Vals xs us → Vals (xs.take n) (us.take n)
 | _, _, 0, _ => .nil
 | _, _, _ + 1, .nil => .nil
 | _, _, n + 1, .cons r t => .cons r (Vals.take n t)
theorem Vals.drop : ∀ {xs : List V} {us : List Value} (n : Nat), Vals xs us → Vals (xs.drop n) (us.drop n)
 | _, _, 0, r => r
 | _, _, _ + 1, .nil => .nil
 | _, _, n + 1, .cons _ t => Vals.drop n t
def RelO : Option V → Option Value → Prop
 | some v, some u => RelV v u
 | none, none => True
 | _, _ => False
def KV {κ : Type} : List (κ × V) → List (κ × Value) → Prop := Paired fun (p : κ × V) (q : κ × Value) => p.1 = q.1 ∧ RelV p.2 q.2
def kV : Key → V
 | .inl i => .int i
 | .inr x => .str x
inductive HO where
 | lst (xs : List V)
 | tup (xs : List V)
 | dK (kvs : List (Key × V)) | dT (kvs : List (List Key × V))
 | set (S : Int → Bool) (n : Nat)
 | ins (C dx : Addr) (fs : List (Str × V))
 | own (x : Addr)
 | xd (fs : List (Str × V))
 | met (f x : Addr)
 | rng (lo hi : Int)
 | frz (o : Obj) (u : HO)
 | tbl (ps : Array Value)
 | ext (φ : Heap → Prop)
abbrev Hp := Addr → Option HO
def upd (H : Hp) (a : Addr) (o : HO) : Hp := fun b => if b = a then some o else H b
theorem upd_same {H : Hp} {a : Addr} {o : HO} : upd H a o a = some o := by unfold upd; rw [if_pos rfl]
theorem upd_ne {H : Hp} {a b : Addr} {o : HO} (h : b ≠ a) : upd H a o b = H b := by unfold upd; rw [if_neg h]
theorem ne_of_none {H : Hp} {a b : Addr} {o : HO} (h : H a = some o) (h' : H b = none) : a ≠ b := by
 intro e; subst e; rw [h] at h'; cases h'
section
variable (P : Program) (w : World)
def ObjOk (H : Hp) (h : Heap) (a : Addr) : HO → Prop
 | .lst xs => xs.length ≤ sizeLine ∧ ∃ (its : List Value) (n : Nat), Vals xs its ∧ h.get? a = some { cls := .type "list", data := .seq its.toArray n }
 | .tup xs => xs.length ≤ sizeLine ∧ ∃ its : List Value, Vals xs its ∧ IsTup h a its.toArray
 | .dK kvs => kvs.length ≤ sizeLine ∧ (a == sysModules) = false ∧ ∃ vs, KV kvs vs ∧ h.DictOf (mixKind P w) a vs
 | .dT kvs => kvs.length ≤ sizeLine ∧ (a == sysModules) = false ∧ ∃ xs : List (List Key × Addr × Value),
   Paired (fun (p : List Key × V) (q : List Key × Addr × Value) => p.1 = q.1 ∧ H q.2.1 = some (.tup (p.1.map kV)) ∧ RelV p.2 q.2.2) kvs xs ∧
   ∃ o es ep, h.get? a = some o ∧ o.ExactDict ∧ o.data = .dict es ep ∧ es.toList = xs.map (entryOfKey (tupleKind (mixKind P w))) ∧ (xs.map (·.1)).Nodup
 | .set S n => h.SetOf (intKind P w) a S n
 | .ins C dx fs => H dx = some (.own a) ∧ fs.length ≤ 1000 ∧ dx ≠ a ∧ h.get? a = some (PySem.W.instObj C dx) ∧
   ∃ mA, h.Ns1 dx mA ∧ (∀ f, RelO (fs.lookup f) (mA f)) ∧ PySem.Within mA (fs.map (·.1))
 | .own _ => ∃ o, h.get? a = some o
 | .xd fs => ∃ mA, h.Ns1 a mA ∧ ∀ f, RelO (fs.lookup f) (mA f)
 | .rng lo hi => ∃ t u v, h.get? a = some { cls := .type "range", data := .fields #[.int lo t, .int hi u, .int 1 v] }
 | .frz o u => h.get? a = some o ∧ ObjOk H h a u
 | .tbl ps => h.get? a = some { cls := .none, data := .fields ps }
 | .met f x => h.get? a = some (PySem.W.methodObj (.ref f) (.ref x))
 | .ext φ => φ h ∧ (∃ o, h.get? a = some o) ∧ ∀ h1 h2 : Heap, φ h1 → (∀ o, h1.get? a = some o → h2.get? a = some o) → φ h2
def HOk (H : Hp) (h : Heap) : Prop := ∀ a o, H a = some o → ObjOk P w H h a o
end
section
variable {P : Program} {w : World} {H H' : Hp} {h h' : Heap} {a : Addr} {o : HO}
theorem ObjOk.lt (x : ObjOk P w H h a o) : a < h.objs.size := by
 cases o with
 | lst xs => obtain ⟨_, _, _, _, e⟩ := x; exact Heap.lt_size e
 | tup xs => obtain ⟨_, _, _, p⟩ := x; exact p.lt
 | dK kvs => obtain ⟨_, _, _, _, o, _, _, e, _⟩ := x; exact Heap.lt_size e
 | dT kvs => obtain ⟨_, _, _, _, o, _, _, e, _⟩ := x; exact Heap.lt_size e
 | set S n => obtain ⟨o, _, _, _, e, _⟩ := x; exact Heap.lt_size e
 | ins C dx fs => obtain ⟨_, _, _, e, _⟩ := x; exact Heap.lt_size e
 | own y => obtain ⟨_, e⟩ := x; exact Heap.lt_size e
 | xd fs => obtain ⟨_, ⟨_, _, _, e, _⟩, _⟩ := x; exact Heap.lt_size e
 | rng lo hi => obtain ⟨_, _, _, e⟩ := x; exact Heap.lt_size e
 | frz ob u => obtain ⟨e, _⟩ := x; exact Heap.lt_size e
 | tbl ps => exact Heap.lt_size (show h.get? a = some _ from x)
 | met f y => exact Heap.lt_size (show h.get? a = some _ from x)
 | ext φ => obtain ⟨_, ⟨_, e⟩, _⟩ := x; exact Heap.lt_size e
theorem Paired.mapP {α β : Type} {F G : α → β → Prop} : ∀ {l₁ : List α} {l₂ : List β}, Paired F l₁ l₂ → (∀ a b, F a b → G a b) → Paired G l₁ l₂
 | _, _, .nil, _ => .nil
 | _, _, .cons r t, f => .cons (f _ _ r) (Paired.mapP t f)
theorem ObjOk.stay (x : ObjOk P w H h a o) (k : ∀ b u, (b = a ∨ H b = some (.own a)) → h.get? b = some u → h'.get? b = some u)
  (ho : ∀ b, H b = some (.own a) → H' b = some (.own a)) (ht : ∀ b xs, H b = some (.tup xs) → H' b = some (.tup xs)) : ObjOk P w H' h' a o := by
 induction o with
 | lst xs => obtain ⟨z, its, n, r, e⟩ := x; exact ⟨z, its, n, r, k _ _ (.inl rfl) e⟩
 | tup xs => obtain ⟨z, its, r, ob, e, c⟩ := x; exact ⟨z, its, r, ob, k _ _ (.inl rfl) e, c⟩
 | dK kvs => obtain ⟨z, y, vs, r, ob, es, ep, e, c⟩ := x; exact ⟨z, y, vs, r, ob, es, ep, k _ _ (.inl rfl) e, c⟩
 | dT kvs =>
  obtain ⟨z, y, xs, r, ob, es, ep, e, c⟩ := x
  exact ⟨z, y, xs, Paired.mapP r fun p q z => ⟨z.1, ht _ _ z.2.1, z.2.2⟩, ob, es, ep, k _ _ (.inl rfl) e, c⟩
 | set S n => obtain ⟨ob, es, ep, t, e, c⟩ := x; exact ⟨ob, es, ep, t, k _ _ (.inl rfl) e, c⟩
 | ins C dx fs =>
  obtain ⟨d, z, ne, e, mA, ⟨od, es, ep, e2, c⟩, r⟩ := x
  exact ⟨ho _ d, z, ne, k _ _ (.inl rfl) e, mA, ⟨od, es, ep, k _ _ (.inr d) e2, c⟩, r⟩
 | own y => obtain ⟨ob, e⟩ := x; exact ⟨ob, k _ _ (.inl rfl) e⟩
 | xd fs => obtain ⟨mA, ⟨od, es, ep, e, c⟩, r⟩ := x; exact ⟨mA, ⟨od, es, ep, k _ _ (.inl rfl) e, c⟩, r⟩
 | rng lo hi => obtain ⟨t, u, v, e⟩ := x; exact ⟨t, u, v, k _ _ (.inl rfl) e⟩
 | frz ob u ih => obtain ⟨e, q⟩ := x; exact ⟨k _ _ (.inl rfl) e, ih q⟩
 | tbl ps =>
  have e : h.get? a = some { cls := .none, data := .fields ps } := x
  show h'.get? a = some { cls := .none, data := .fields ps }
  exact k a _ (.inl rfl) e
 | met f y =>
  have e : h.get? a = some (PySem.W.methodObj (.ref f) (.ref y)) := x
  show h'.get? a = some (PySem.W.methodObj (.ref f) (.ref y))
  exact k a _ (.inl rfl) e
 | ext φ => obtain ⟨p, ⟨o, e⟩, st⟩ := x; exact ⟨st _ _ p fun o q => k _ _ (.inl rfl) q, ⟨o, k _ _ (.inl rfl) e⟩, st⟩
theorem HOk.lt (x : HOk P w H h) (e : H a = some o) : a < h.objs.size := (x a o e).lt
theorem HOk.fresh (x : HOk P w H h) (e : h.objs.size ≤ a) : H a = none := by
 cases q : H a with
 | none => rfl
 | some u => exact absurd (Nat.lt_of_lt_of_le (x.lt q) e) (Nat.lt_irrefl _)
theorem HOk.kept (x : HOk P w H h) (k : ∀ b u, h.get? b = some u → h'.get? b = some u) : HOk P w H h' := fun a o e =>
 (x a o e).stay (fun b u _ q => k b u q) (fun _ q => q) fun _ _ q => q
theorem HOk.laid (x : HOk P w H h) (k : ∀ b u, h.get? b = some u → h'.get? b = some u) (hp : h.objs.size ≤ a) (new : ObjOk P w (upd H a o) h' a o) : HOk P w (upd H a o) h' := fun b u e => by
 have hn := x.fresh hp
 by_cases hb : b = a
 ·subst hb; rw [upd_same] at e; cases e; exact new
 ·rw [upd_ne hb] at e
  exact (x b u e).stay (fun c v _ q => k c v q) (fun c q => by rw [upd_ne (ne_of_none q hn)]; exact q) fun c xs q => by rw [upd_ne (ne_of_none q hn)]; exact q
end
def Rd (H : Hp) (a : Addr) (u : HO) : Prop := H a = some u ∨ ∃ o, H a = some (.frz o u)
theorem Rd.ok {P : Program} {w : World} {H : Hp} {h : Heap} {a : Addr} {u : HO} (r : Rd H a u) (x : HOk P w H h) : ObjOk P w H h a u := by
 rcases r with r | ⟨o, r⟩
 ·exact x a u r
 ·obtain ⟨_, q⟩ := x a _ r
  exact q
def Mut : Option HO → Prop
 | some (.lst _) => True
 | some (.dK _) => True
 | some (.dT _) => True
 | some (.set _ _) => True
 | some (.ins _ _ _) => True
 | some (.ext _) => True
 | _ => False
section
variable {P : Program} {w : World} {H : Hp} {h h' : Heap} {x e : Addr} {o' : HO}
theorem HOk.write (ok : HOk P w H h) (mu : Mut (H x)) (he : e = x ∨ H e = some (.own x)) (k : ∀ b u, b ≠ e → h.get? b = some u → h'.get? b = some u) (heo : ∃ u, h'.get? e = some u)
  (new : ObjOk P w (upd H x o') h' x o') : HOk P w (upd H x o') h' := fun b u q => by
 have nown : ∀ c y, H c = some (.own y) → c ≠ x := fun c y r z => by subst z; rw [r] at mu; exact mu
 have ntup : ∀ c xs, H c = some (.tup xs) → c ≠ x := fun c xs r z => by subst z; rw [r] at mu; exact mu
 by_cases hb : b = x
 ·subst hb; rw [upd_same] at q; cases q; exact new
 ·rw [upd_ne hb] at q
  by_cases hbe : b = e
  ·have q' : H b = some (.own x) := by
    rcases he with z | z
    ·exact absurd (hbe.trans z) hb
    ·rw [hbe]; exact z
   rw [q] at q'; cases q'
   obtain ⟨v, hv⟩ := heo
   exact ⟨v, by rw [hbe]; exact hv⟩
  ·refine (ok b u q).stay (fun c v hc r => k c v ?_ r) (fun c r => by rw [upd_ne (nown c b r)]; exact r) fun c xs r => by rw [upd_ne (ntup c xs r)]; exact r
   rcases hc with rfl | hc
   ·exact hbe
   ·rintro rfl
    rcases he with z | z
    ·exact nown c b hc z
    ·rw [hc] at z; cases z; exact hb rfl
end
structure Un (fs ex : List Addr) (H H' : Hp) (h h' : Heap) : Prop where
 keep : ∀ b o, h.get? b = some o → H b = none → b ∉ fs → b ∉ ex → h'.get? b = some o
 slot : ∀ b o, h.get? b = some o → H b = none → b ∈ fs → b ∉ ex → ∃ sl, h'.get? b = some { o with slots := sl }
 free : ∀ b o, h.get? b = some o → H b = none → b ∉ ex → H' b = none
 there : ∀ b o, h.get? b = some o → b ∉ ex → ∃ o', h'.get? b = some o'
 tups : ∀ b xs, H b = some (.tup xs) → H' b = some (.tup xs)
 frzs : ∀ b o u, H b = some (.frz o u) → H' b = some (.frz o u)
 tbls : ∀ b ps, H b = some (.tbl ps) → ∃ more, H' b = some (.tbl (ps ++ more))
section
variable {fs fs' ex ex' : List Addr} {H H1 H2 : Hp} {h h1 h2 h' : Heap} {a x e : Addr} {o : HO}
theorem Un.any (u : Un fs ex H H1 h h1) {b : Addr} {ob : Obj} (q : h.get? b = some ob) (n : H b = none) (hx : b ∉ ex) : ∃ sl, h1.get? b = some { ob with slots := sl } := by
 by_cases hb : b ∈ fs
 ·exact u.slot b ob q n hb hx
 ·exact ⟨ob.slots, u.keep b ob q n hb hx⟩
theorem Un.kept (k : ∀ b u, h.get? b = some u → h'.get? b = some u) : Un fs ex H H h h' :=
 ⟨fun b ob q _ _ _ => k b ob q, fun b ob q _ _ _ => ⟨ob.slots, k b ob q⟩, fun _ _ _ n _ => n, fun b ob q _ => ⟨ob, k b ob q⟩, fun _ _ q => q, fun _ _ _ q => q, fun _ ps q => ⟨#[], by rw [q]; simp⟩⟩
theorem Un.refl : Un fs ex H H h h := Un.kept fun _ _ q => q
theorem Un.laid (k : ∀ b u, h.get? b = some u → h'.get? b = some u) (hp : h.objs.size ≤ a) (hn : H a = none) : Un fs ex H (upd H a o) h h' where
 keep := fun b u q _ _ _ => k b u q
 slot := fun b u q _ _ _ => ⟨u.slots, k b u q⟩
 free := fun b u q n _ => by rw [upd_ne (Nat.ne_of_lt (Nat.lt_of_lt_of_le (Heap.lt_size q) hp))]; exact n
 there := fun b u q _ => ⟨u, k b u q⟩
 tups := fun b xs q => by rw [upd_ne (ne_of_none q hn)]; exact q
 frzs := fun b u xs q => by rw [upd_ne (ne_of_none q hn)]; exact q
 tbls := fun b ps q => ⟨#[], by rw [upd_ne (ne_of_none q hn), q]; simp⟩
theorem Un.write (mu : Mut (H x)) (he : e = x ∨ H e = some (.own x)) (k : ∀ b u, b ≠ e → h.get? b = some u → h'.get? b = some u) (heo : ∃ u, h'.get? e = some u) : Un fs ex H (upd H x o) h h' := by
 have hx : ∀ b, H b = none → b ≠ x := fun b n z => by subst z; rw [n] at mu; exact mu
 have hb : ∀ b, H b = none → b ≠ e := fun b n z => by
  subst z
  rcases he with r | r
  ·exact hx b n r
  ·rw [n] at r; cases r
 have hm : ∀ b u, H b = some u → ¬ Mut (some u) → b ≠ x := fun b u q nm z => by subst z; rw [q] at mu; exact nm mu
 refine ⟨fun b u q n _ _ => k b u (hb b n) q, fun b u q n _ _ => ⟨u.slots, k b u (hb b n) q⟩, fun b u q n _ => by rw [upd_ne (hx b n)]; exact n, fun b u q _ => ?_,
  fun b xs q => by rw [upd_ne (hm b _ q fun z => z)]; exact q, fun b u xs q => by rw [upd_ne (hm b _ q fun z => z)]; exact q, fun b ps q => ⟨#[], by rw [upd_ne (hm b _ q fun z => z), q]; simp⟩⟩
 by_cases hbe : b = e
 ·subst hbe; exact heo
 ·exact ⟨u, k b u hbe q⟩
end
def trk (h : Heap) (H : Hp) : List Addr := (List.range h.objs.size).filter fun a => (H a).isSome
def hidT (h : Heap) (H : Hp) : Heap := PySem.W.hideAll h (trk h H)
theorem hidT_size (h : Heap) (H : Hp) : (hidT h H).objs.size = h.objs.size := PySem.W.hideAll_size _ _
theorem hidT_get {h : Heap} {H : Hp} {b : Addr} {o : Obj} (e : h.get? b = some o) (n : H b = none) : (hidT h H).get? b = some o :=
 PySem.W.hideAll_get _ e fun hm => by
  have q : (H b).isSome = true := (List.mem_filter.mp hm).2
  rw [n] at q; simp at q
theorem of_hidT {h : Heap} {H : Hp} {b : Addr} {o : Obj} (e : (hidT h H).get? b = some o) : h.get? b = some o ∧ H b = none := by
 have e' : h.get? b = some o := PySem.W.of_hideAll (trk h H) e
 refine ⟨e', ?_⟩
 cases q : H b with
 | none => rfl
 | some x =>
  have hm : b ∈ trk h H := List.mem_filter.mpr ⟨List.mem_range.mpr (Heap.lt_size e'), by simp [q]⟩
  have z : (hidT h H).get? b = none := PySem.W.hideAll_none (trk h H) hm
  rw [z] at e; cases e
end L2
namespace L2
open PySem PySem.Spec PyProof.Rows
structure Mod (K : PySem.W.Frag) (mg : Str → Option Value) (base : Heap) : Prop where
 kin : K.In base
 glob : base.Ns mainGlobals mg
 blt : ∃ mb, base.Ns builtinsNs mb ∧ ∀ x : Str, x ≠ "__name__" → mb x = bootBuiltins x
 nolimit : base.NoLimit
structure Cx where
 prog : Program
 w : World
 K : PySem.W.Frag
 mg : Str → Option Value
 base : Heap
 A : Around
 N : List Str
 s₀ : Shared
 H₀ : Hp
 env : Env
 outer : List Env
 stack : List Env
 ex : List Addr
 fn : Str → Bool
 calm : Bool
 pn : List (Addr × Obj)
 xe : Value → Shared → Prop
def frs (l : List Env) : List Addr := l.filterMap (·.frame)
abbrev Cx.fs (X : Cx) : List Addr := frs X.outer
def Vis (sc : Scope) (x : Str) : Prop := sc.names.lookup x = some .local ∨ sc.names.lookup x = some .cell ∨ sc.names.lookup x = some .free
def Loc (sc : Scope) (x : Str) : Prop := sc.names.lookup x = some .local ∨ sc.names.lookup x = some .cell
def Look (env : Env) (h : Heap) (m : Str → Option Value) (x : Str) (u : Value) : Prop :=
 (env.kindOf x = some .local ∧ m x = some u) ∨ ((env.kindOf x = some .cell ∨ env.kindOf x = some .free) ∧ ∃ c, env.cells.lookup x = some c ∧ h.IsCell c (some u))
structure Cx.Ok (X : Cx) : Prop where
 mod : Mod X.K X.mg X.base
 kind : X.env.scope.kind = .function
 glob : X.env.globals = mainGlobals
 blt : X.env.builtins = builtinsNs
 above : X.s₀.heap.objs.size ≤ X.env.locals
 inj : ∀ x y c, X.env.cells.lookup x = some c → X.env.cells.lookup y = some c → x = y
 has : ∀ x, (X.env.kindOf x = some .cell ∨ X.env.kindOf x = some .free) → ∃ c, X.env.cells.lookup x = some c
 cab : ∀ x c, X.fn x = true → X.env.cells.lookup x = some c → X.s₀.heap.objs.size ≤ c
 hd : X.calm = true → X.A.handled = none
 frames : X.A.frames = some X.stack
 stk : X.stack = X.outer ∨ (X.stack = X.env :: X.outer ∧ X.env.frame = some X.env.locals)
 exf : ∀ b ∈ X.ex, b ≠ X.env.locals ∧ ∀ x c, X.env.cells.lookup x = some c → c ≠ b
 bs : ∀ b o, X.base.get? b = some o → X.s₀.heap.get? b = some o ∧ X.H₀ b = none
 bsz : X.base.objs.size ≤ X.s₀.heap.objs.size
 noex : ∀ b o, X.base.get? b = some o → b ∉ X.ex
 exfs : ∀ b ∈ X.ex, b ∉ X.fs
 funs : X.s₀.heap.FunFrames X.base X.outer
 frf : ∀ b ∈ X.fs, X.H₀ b = none
structure Inv (X : Cx) (pins : List (Addr × Obj)) (σ : List (Option V)) (H : Hp) (s : Shared) : Prop where
 ok : X.Ok
 os : s.os = X.s₀.os
 bare : AllBare s.gens
 base : Un X.fs X.ex X.H₀ H X.s₀.heap s.heap
 loc : ∃ m, s.heap.Ns X.env.locals m ∧ ∀ (i : Nat) (x : Str) (v : V), X.N[i]? = some x → σ[i]? = some (some v) → Vis X.env.scope x → ∃ u, RelV v u ∧ Look X.env s.heap m x u
 cell : ∀ x c, X.env.cells.lookup x = some c → ∃ v, s.heap.IsCell c v
 free : H X.env.locals = none
 freeC : ∀ x c, X.env.cells.lookup x = some c → H c = none
 pin : ∀ p ∈ X.pn ++ pins, s.heap.get? p.1 = some p.2 ∧ H p.1 = none ∧ p.1 ≠ X.env.locals ∧ p.1 ∉ X.fs ∧ ∀ v, p.2.data ≠ .cell v
 hok : HOk X.prog X.w H s.heap
 len : σ.length = X.N.length
section
variable {X : Cx} {pins : List (Addr × Obj)} {σ : List (Option V)} {H H' : Hp} {s : Shared} {h' : Heap}
theorem Cx.Ok.nofr (ok : X.Ok) {b : Addr} {o : Obj} (e : X.base.get? b = some o) : b ∉ X.fs := fun hb => by
 have := (ok.funs.mem hb).1
 rw [e] at this; cases this
theorem Inv.bs (I : Inv X pins σ H s) : ∀ b o, X.base.get? b = some o → s.heap.get? b = some o ∧ H b = none := fun b o e =>
 ⟨I.base.keep b o (I.ok.bs b o e).1 (I.ok.bs b o e).2 (I.ok.nofr e) (I.ok.noex b o e), I.base.free b o (I.ok.bs b o e).1 (I.ok.bs b o e).2 (I.ok.noex b o e)⟩
theorem Inv.bk (I : Inv X pins σ H s) : ∀ b o, X.base.get? b = some o → s.heap.get? b = some o := fun b o e => (I.bs b o e).1
theorem Inv.mod (I : Inv X pins σ H s) : Mod X.K X.mg X.base := I.ok.mod
theorem Inv.kIn (I : Inv X pins σ H s) : X.K.In s.heap := I.ok.mod.kin.keeps I.bk
theorem Inv.lt (I : Inv X pins σ H s) : X.env.locals < s.heap.objs.size := let ⟨_, hn, _⟩ := I.loc; hn.lt
theorem Inv.sz (I : Inv X pins σ H s) : X.s₀.heap.objs.size ≤ s.heap.objs.size := Nat.le_trans I.ok.above (Nat.le_of_lt I.lt)
theorem Inv.nofs (I : Inv X pins σ H s) {a : Addr} (h : s.heap.objs.size ≤ a) : a ∉ X.fs := fun hb => by
 obtain ⟨_, o, ho, _⟩ := I.ok.funs.mem hb
 exact absurd (Nat.lt_of_lt_of_le (Heap.lt_size ho) (Nat.le_trans I.sz h)) (Nat.lt_irrefl _)
theorem Inv.cne (I : Inv X pins σ H s) : ∀ x c, X.env.cells.lookup x = some c → c ≠ X.env.locals := fun x c e z => by
 obtain ⟨v, o, ho, hd⟩ := I.cell x c e
 obtain ⟨m, ⟨o', es, ep, ho', hd', _⟩, _⟩ := I.loc
 rw [z, ho'] at ho; cases ho; rw [hd'] at hd; cases hd
theorem Inv.funs (I : Inv X pins σ H s) : s.heap.FunFrames X.base X.outer := by
 have all : ∀ (l : List Env), (∀ b ∈ frs l, b ∈ X.fs) → X.s₀.heap.FunFrames X.base l → s.heap.FunFrames X.base l := by
  intro l
  induction l with
  | nil => intro _ _; trivial
  | cons env r ih =>
   intro hs hl
   obtain ⟨hk, ⟨L, o, hf, hn, ho, hd⟩, hr⟩ := hl
   have hL : L ∈ X.fs := hs L (by unfold frs; rw [List.filterMap_cons, hf]; exact List.mem_cons_self)
   obtain ⟨sl, e⟩ := I.base.slot L o ho (I.ok.frf L hL) hL fun z => I.ok.exfs L z hL
   exact ⟨hk, ⟨L, _, hf, hn, e, hd⟩, ih (fun b hb => hs b (by unfold frs; rw [List.filterMap_cons, hf]; exact List.mem_cons_of_mem _ hb)) hr⟩
 exact all X.outer (fun _ hb => hb) I.ok.funs
theorem Inv.stack (I : Inv X pins σ H s) : s.heap.FunFrames X.base X.stack := by
 rcases I.ok.stk with e | ⟨e, hf⟩
 ·rw [e]; exact I.funs
 ·rw [e]
  obtain ⟨m, hn, _⟩ := I.loc
  refine .cons (by rw [I.ok.kind]; decide) hf hn ?_ I.funs
  exact Heap.get?_none_of_le (Nat.le_trans I.ok.bsz I.ok.above)
theorem Inv.stkSub (I : Inv X pins σ H s) : ∀ b ∈ frs X.stack, b ∈ X.env.locals :: X.fs := fun b hb => by
 rcases I.ok.stk with e | ⟨e, hf⟩
 ·rw [e] at hb; exact List.mem_cons_of_mem _ hb
 ·rw [e] at hb
  unfold frs at hb
  rw [List.filterMap_cons, hf] at hb
  exact hb
theorem Inv.stkFree (I : Inv X pins σ H s) : ∀ b ∈ frs X.stack, H b = none := fun b hb => by
 rcases List.mem_cons.mp (I.stkSub b hb) with e | hb
 ·rw [e]; exact I.free
 ·obtain ⟨_, o, ho, _⟩ := I.ok.funs.mem hb
  exact I.base.free b o ho (I.ok.frf b hb) fun z => I.ok.exfs b z hb
theorem Inv.step {g' : Array GenState} {t' : Nat} {d' : Drawn} {ch : List Addr} (I : Inv X pins σ H s)
  (hch : ∀ b ∈ ch, (b ∈ X.ex ∨ X.s₀.heap.objs.size ≤ b) ∧ b ≠ X.env.locals ∧ (∀ x c, X.env.cells.lookup x = some c → c ≠ b) ∧ ∀ p ∈ X.pn ++ pins, p.1 ≠ b)
  (keep : ∀ b o, b ≠ X.env.locals → b ∉ X.fs → b ∉ ch → s.heap.get? b = some o → H b = none → h'.get? b = some o)
  (slot : ∀ b o, b ≠ X.env.locals → b ∈ X.fs → b ∉ ch → s.heap.get? b = some o → H b = none → ∃ sl, h'.get? b = some { o with slots := sl }) (free : ∀ b o, b ∉ ch → s.heap.get? b = some o → H b = none → H' b = none)
  (there : ∀ b o, b ∉ ch → s.heap.get? b = some o → ∃ o', h'.get? b = some o')
  (tups : ∀ b xs, H b = some (.tup xs) → H' b = some (.tup xs)) (frzs : ∀ b o u, H b = some (.frz o u) → H' b = some (.frz o u)) (tbls : ∀ b ps, H b = some (.tbl ps) → ∃ more, H' b = some (.tbl (ps ++ more)))
  (ns : ∀ m, s.heap.Ns X.env.locals m → h'.Ns X.env.locals m) (hok : HOk X.prog X.w H' h') (hg : AllBare g') :
  Inv X pins σ H' { s with heap := h', gens := g', drawn := d', toks := t' } := by
 have neL : ∀ b o, X.s₀.heap.get? b = some o → b ≠ X.env.locals := fun b o e => Nat.ne_of_lt (Nat.lt_of_lt_of_le (Heap.lt_size e) I.ok.above)
 have neC : ∀ b o, X.s₀.heap.get? b = some o → b ∉ X.ex → b ∉ ch := fun b o e hx hb => by
  rcases (hch b hb).1 with z | z
  ·exact hx z
  ·exact absurd (Nat.lt_of_lt_of_le (Heap.lt_size e) z) (Nat.lt_irrefl _)
 have cellK : ∀ x c, X.env.cells.lookup x = some c → ∀ v, s.heap.IsCell c v → h'.IsCell c v := fun x c e v ⟨o, ho, hd⟩ => by
  have nch : c ∉ ch := fun z => (hch c z).2.2.1 x c e rfl
  by_cases hc : c ∈ X.fs
  ·obtain ⟨sl, q⟩ := slot c o (I.cne x c e) hc nch ho (I.freeC x c e)
   exact ⟨_, q, hd⟩
  ·exact ⟨o, keep c o (I.cne x c e) hc nch ho (I.freeC x c e), hd⟩
 refine ⟨I.ok, I.os, hg, ⟨fun b o e n hb hx => ?_, fun b o e n hb hx => ?_, fun b o e n hx => ?_, fun b o e hx => ?_, fun b xs e => tups b xs (I.base.tups b xs e), fun b o xs e => frzs b o xs (I.base.frzs b o xs e), fun b ps e => ?_⟩, ?_, fun x c e => ?_, ?_, fun x c e => ?_, fun p hp => ?_, hok, I.len⟩
 ·exact keep b o (neL b o e) hb (neC b o e hx) (I.base.keep b o e n hb hx) (I.base.free b o e n hx)
 ·obtain ⟨sl, e1⟩ := I.base.slot b o e n hb hx
  obtain ⟨sl', e2⟩ := slot b _ (neL b o e) hb (neC b o e hx) e1 (I.base.free b o e n hx)
  exact ⟨sl', e2⟩
 ·obtain ⟨o', e1⟩ := I.base.there b o e hx
  exact free b o' (neC b o e hx) e1 (I.base.free b o e n hx)
 ·obtain ⟨o', e1⟩ := I.base.there b o e hx
  exact there b o' (neC b o e hx) e1
 ·obtain ⟨m1, e1⟩ := I.base.tbls b ps e
  obtain ⟨m2, e2⟩ := tbls b _ e1
  exact ⟨m1 ++ m2, by rw [e2, Array.append_assoc]⟩
 ·obtain ⟨m, hn, hl⟩ := I.loc
  refine ⟨m, ns m hn, fun i x v e1 e2 e3 => ?_⟩
  obtain ⟨u, r, l⟩ := hl i x v e1 e2 e3
  refine ⟨u, r, ?_⟩
  rcases l with l | ⟨k, c, e, z⟩
  ·exact .inl l
  ·exact .inr ⟨k, c, e, cellK x c e _ z⟩
 ·obtain ⟨v, z⟩ := I.cell x c e
  exact ⟨v, cellK x c e v z⟩
 ·obtain ⟨m, ⟨o, _, _, ho, _⟩, _⟩ := I.loc
  exact free _ o (fun z => (hch _ z).2.1 rfl) ho I.free
 ·obtain ⟨v, o, ho, hd⟩ := I.cell x c e
  exact free c o (fun z => (hch c z).2.2.1 x c e rfl) ho (I.freeC x c e)
 ·obtain ⟨e, n, ne, nf, d⟩ := I.pin p hp
  have nch : p.1 ∉ ch := fun z => (hch p.1 z).2.2.2 p hp rfl
  exact ⟨keep p.1 p.2 ne nf nch e n, free p.1 p.2 nch e n, ne, nf, d⟩
theorem Inv.un {t' : Nat} (I : Inv X pins σ H s) (u : Un X.fs [] H H' s.heap h') (hok : HOk X.prog X.w H' h') : Inv X pins σ H' { s with heap := h', toks := t' } := by
 obtain ⟨m, ⟨o, es, ep, ho, r⟩, _⟩ := id I.loc
 obtain ⟨sl, hL⟩ := u.any ho I.free (by simp)
 exact I.step (g' := s.gens) (d' := s.drawn) (ch := []) (fun _ z => nomatch z) (fun b o _ hb _ e n => u.keep b o e n hb (by simp)) (fun b o _ hb _ e n => u.slot b o e n hb (by simp)) (fun b o _ e n => u.free b o e n (by simp)) (fun b o _ e => u.there b o e (by simp)) u.tups u.frzs u.tbls (fun m' hm => by
  obtain ⟨o', es', ep', ho', r'⟩ := hm
  rw [ho] at ho'; cases ho'
  exact ⟨_, es', ep', hL, r'⟩) hok I.bare
theorem Inv.call {g' : Array GenState} {t' : Nat} {d' : Drawn} {ch : List Addr} (I : Inv X pins σ H s) (u : Un (frs X.stack) ch H H' s.heap h') (hok : HOk X.prog X.w H' h') (hg : AllBare g')
  (hch : ∀ b ∈ ch, (b ∈ X.ex ∨ X.s₀.heap.objs.size ≤ b) ∧ b ≠ X.env.locals ∧ (∀ x c, X.env.cells.lookup x = some c → c ≠ b) ∧ ∀ p ∈ X.pn ++ pins, p.1 ≠ b) :
  Inv X pins σ H' { s with heap := h', gens := g', drawn := d', toks := t' } := by
 obtain ⟨m, ⟨o, es, ep, ho, r⟩, _⟩ := id I.loc
 obtain ⟨sl, hL⟩ := u.any ho I.free fun z => (hch _ z).2.1 rfl
 exact I.step (ch := ch) hch (fun b o hL hb hc e n => u.keep b o e n (fun z => (List.mem_cons.mp (I.stkSub b z)).elim hL hb) hc) (fun b o _ _ hc e n => u.any e n hc) (fun b o hc e n => u.free b o e n hc) (fun b o hc e => u.there b o e hc) u.tups u.frzs u.tbls (fun m' hm => by
  obtain ⟨o', es', ep', ho', r'⟩ := hm
  rw [ho] at ho'; cases ho'
  exact ⟨_, es', ep', hL, r'⟩) hok hg
theorem Inv.turned {t' : Nat} {it : Addr} (I : Inv X pins σ H s) (k : ∀ b o, b ≠ it → s.heap.get? b = some o → h'.get? b = some o) (hn : H it = none) (hL : it ≠ X.env.locals)
  (h1 : it ∈ X.ex ∨ X.s₀.heap.objs.size ≤ it) (h2 : ∀ x c, X.env.cells.lookup x = some c → c ≠ it) (h3 : ∀ p ∈ X.pn ++ pins, p.1 ≠ it) : Inv X pins σ H { s with heap := h', toks := t' } := by
 have nit : ∀ b u, H b = some u → b ≠ it := fun b u e z => by rw [z, hn] at e; cases e
 refine I.step (g' := s.gens) (d' := s.drawn) (ch := [it]) (fun b hb => ?_) (fun b o _ _ hc e _ => k b o (fun z => hc (by simp [z])) e) (fun b o _ _ hc e _ => ⟨o.slots, k b o (fun z => hc (by simp [z])) e⟩) (fun _ _ _ _ n => n)
  (fun b o hc e => ⟨o, k b o (fun z => hc (by simp [z])) e⟩) (fun _ _ e => e) (fun _ _ _ e => e) (fun b ps e => ⟨#[], by rw [e]; simp⟩) (fun m hm => ?_) (fun b u e => ?_) I.bare
 ·have e : b = it := by simpa using hb
  subst e
  exact ⟨h1, hL, h2, h3⟩
 ·obtain ⟨o, es, ep, ho, r⟩ := hm
  exact ⟨o, es, ep, k _ o (Ne.symm hL) ho, r⟩
 ·refine (I.hok b u e).stay (fun c v hc q => k c v ?_ q) (fun _ q => q) fun _ _ q => q
  rcases hc with z | z
  ·rw [z]; exact nit b u e
  ·exact nit c _ z
theorem Inv.tok (I : Inv X pins σ H s) (t : Nat) : Inv X pins σ H { s with toks := t } := I.un (h' := s.heap) (t' := t) Un.refl I.hok
theorem Inv.kept {t' : Nat} (I : Inv X pins σ H s) (k : ∀ b u, s.heap.get? b = some u → h'.get? b = some u) : Inv X pins σ H { s with heap := h', toks := t' } := I.un (Un.kept k) (I.hok.kept k)
theorem Inv.laid {a : Addr} {o : HO} {t' : Nat} (I : Inv X pins σ H s) (k : ∀ b u, s.heap.get? b = some u → h'.get? b = some u) (hp : s.heap.objs.size ≤ a) (new : ObjOk X.prog X.w (upd H a o) h' a o) :
  Inv X pins σ (upd H a o) { s with heap := h', toks := t' } := I.un (Un.laid k hp (I.hok.fresh hp)) (I.hok.laid k hp new)
theorem Inv.write {x e : Addr} {o : HO} {t' : Nat} (I : Inv X pins σ H s) (mu : Mut (H x)) (he : e = x ∨ H e = some (.own x)) (k : ∀ b u, b ≠ e → s.heap.get? b = some u → h'.get? b = some u) (heo : ∃ u, h'.get? e = some u)
  (new : ObjOk X.prog X.w (upd H x o) h' x o) : Inv X pins σ (upd H x o) { s with heap := h', toks := t' } := I.un (Un.write mu he k heo) (I.hok.write mu he k heo new)
theorem Inv.weak {σ' : List (Option V)} (I : Inv X pins σ H s) (hl : σ'.length = σ.length) (w : ∀ (i : Nat) v, σ'[i]? = some (some v) → σ[i]? = some (some v)) : Inv X pins σ' H s :=
 ⟨I.ok, I.os, I.bare, I.base, let ⟨m, hn, hl'⟩ := I.loc; ⟨m, hn, fun i x v e1 e2 e3 => hl' i x v e1 (w i v e2) e3⟩, I.cell, I.free, I.freeC, I.pin, I.hok, hl.trans I.len⟩
theorem Inv.pins_of {pins' : List (Addr × Obj)} (I : Inv X pins σ H s) (h : ∀ p ∈ pins', s.heap.get? p.1 = some p.2 ∧ H p.1 = none ∧ p.1 ≠ X.env.locals ∧ p.1 ∉ X.fs ∧ ∀ v, p.2.data ≠ .cell v) : Inv X pins' σ H s :=
 ⟨I.ok, I.os, I.bare, I.base, I.loc, I.cell, I.free, I.freeC, fun p hp => (List.mem_append.mp hp).elim (fun z => I.pin p (List.mem_append_left _ z)) (h p), I.hok, I.len⟩
theorem nodup_ix {N : List Str} (hN : N.Nodup) {i j : Nat} {x : Str} (a : N[i]? = some x) (b : N[j]? = some x) : i = j := by
 obtain ⟨h1, e1⟩ := List.getElem?_eq_some_iff.mp a
 obtain ⟨h2, e2⟩ := List.getElem?_eq_some_iff.mp b
 exact (List.getElem_inj hN).mp (e1.trans e2.symm)
theorem store_ok2 {M : Model} {A : Around} {E : Value → Shared → Prop} {i : Nat} {x : Str} {v : V} {u : Value} {Q : Unit → Shared → Prop} (I : Inv X pins σ H s) (hN : X.N.Nodup) (hi : X.N[i]? = some x) (hx : Loc X.env.scope x) (r : RelV v u)
  (h : ∀ s', Inv X pins (σ.set i (some v)) H s' → (∃ a, Heap.SameBut a s.heap s'.heap ∧ (a = X.env.locals ∨ X.env.cells.lookup x = some a)) → Q () s') (hf : X.fn x = true ∨ X.env.scope.names.lookup x = some .local := by first | exact .inl rfl | exact .inr rfl | assumption) : wpAny M A (storeName X.env x u) Q E s := by
 obtain ⟨m, hn, hl⟩ := id I.loc
 have hcls : (X.env.scope.kind == .class || (X.env.scope.kind == .module && X.env.locals != X.env.globals)) = false := by rw [I.ok.kind]; rfl
 have hiσ : i < σ.length := by rw [I.len]; exact (List.getElem?_eq_some_iff.mp hi).1
 have cne := I.cne
 have tracked : ∀ {a : Addr} {h' : Heap}, (∃ o, s.heap.get? a = some o ∧ H a = none) → Heap.SameBut a s.heap h' → HOk X.prog X.w H h' := fun {a h'} ha hs b ob e => by
  obtain ⟨_, _, hfree⟩ := ha
  refine (I.hok b ob e).stay (fun c w' hc q => (hs.2 c ?_).trans q) (fun _ q => q) fun _ _ q => q
  rintro rfl
  rcases hc with rfl | hc
  ·rw [hfree] at e; cases e
  ·rw [hfree] at hc; cases hc
 rcases hx with hk | hk
 ·refine wpAny_storeName_local hk hn (fun h' hn' hs => ?_) hcls
  obtain ⟨oL, _, _, hoL, _⟩ := id hn
  refine h _ ⟨I.ok, I.os, I.bare, ⟨fun b o e n hb hx => ?_, fun b o e n hb hx => ?_, I.base.free, fun b o e hx => ?_, I.base.tups, I.base.frzs, I.base.tbls⟩, ⟨_, hn', fun j y v' e1 e2 e3 => ?_⟩, fun y c e => ?_, I.free, I.freeC, fun p hp => ?_, tracked ⟨oL, hoL, I.free⟩ hs, by simpa using I.len⟩ ⟨_, hs, .inl rfl⟩
  ·exact (hs.2 b (Nat.ne_of_lt (Nat.lt_of_lt_of_le (Heap.lt_size e) I.ok.above))).trans (I.base.keep b o e n hb hx)
  ·obtain ⟨sl, e1⟩ := I.base.slot b o e n hb hx
   exact ⟨sl, (hs.2 b (Nat.ne_of_lt (Nat.lt_of_lt_of_le (Heap.lt_size e) I.ok.above))).trans e1⟩
  ·obtain ⟨o', e1⟩ := I.base.there b o e hx
   exact ⟨o', (hs.2 b (Nat.ne_of_lt (Nat.lt_of_lt_of_le (Heap.lt_size e) I.ok.above))).trans e1⟩
  ·by_cases hj : j = i
   ·subst hj
    rw [hi] at e1; cases e1
    rw [List.getElem?_set_self hiσ] at e2
    cases e2
    exact ⟨u, r, .inl ⟨hk, by simp⟩⟩
   ·rw [List.getElem?_set_ne (Ne.symm hj)] at e2
    obtain ⟨u', r', q⟩ := hl j y v' e1 e2 e3
    refine ⟨u', r', ?_⟩
    rcases q with ⟨k, e⟩ | ⟨k, c, e, z⟩
    ·refine .inl ⟨k, ?_⟩
     have : y ≠ x := fun e => hj (nodup_ix hN e1 (e ▸ hi))
     simp [this, e]
    ·exact .inr ⟨k, c, e, z.sameBut hs (cne y c e)⟩
  ·obtain ⟨w', z⟩ := I.cell y c e
   exact ⟨w', z.sameBut hs (cne y c e)⟩
  ·obtain ⟨e, n, ne, nf, d⟩ := I.pin p hp
   exact ⟨(hs.2 p.1 ne).trans e, n, ne, nf, d⟩
 ·have hfn : X.fn x = true := by
   rcases hf with z | z
   ·exact z
   ·rw [z] at hk; cases hk
  obtain ⟨c, hc⟩ := I.ok.has x (.inl hk)
  obtain ⟨w', z⟩ := I.cell x c hc
  refine wpAny_storeName_cell I.ok.kind hk hc z (fun h' hc' hs => ?_)
  obtain ⟨oc, hoc, hocd⟩ := id z
  refine h { s with heap := h' } ⟨I.ok, I.os, I.bare, ⟨fun b o e n hb hx => ?_, fun b o e n hb hx => ?_, I.base.free, fun b o e hx => ?_, I.base.tups, I.base.frzs, I.base.tbls⟩, ⟨m, hn.sameBut hs (Ne.symm (cne x c hc)), fun j y v' e1 e2 e3 => ?_⟩, fun y c' e => ?_, I.free, I.freeC, fun p hp => ?_, tracked ⟨oc, hoc, I.freeC x c hc⟩ hs, by simpa using I.len⟩ ⟨c, hs, .inr hc⟩
  ·exact (hs.2 b (Nat.ne_of_lt (Nat.lt_of_lt_of_le (Heap.lt_size e) (I.ok.cab x c hfn hc)))).trans (I.base.keep b o e n hb hx)
  ·obtain ⟨sl, e1⟩ := I.base.slot b o e n hb hx
   exact ⟨sl, (hs.2 b (Nat.ne_of_lt (Nat.lt_of_lt_of_le (Heap.lt_size e) (I.ok.cab x c hfn hc)))).trans e1⟩
  ·obtain ⟨o', e1⟩ := I.base.there b o e hx
   exact ⟨o', (hs.2 b (Nat.ne_of_lt (Nat.lt_of_lt_of_le (Heap.lt_size e) (I.ok.cab x c hfn hc)))).trans e1⟩
  ·by_cases hj : j = i
   ·subst hj
    rw [hi] at e1; cases e1
    rw [List.getElem?_set_self hiσ] at e2
    cases e2
    exact ⟨u, r, .inr ⟨.inl hk, c, hc, hc'⟩⟩
   ·rw [List.getElem?_set_ne (Ne.symm hj)] at e2
    obtain ⟨u', r', q⟩ := hl j y v' e1 e2 e3
    refine ⟨u', r', ?_⟩
    rcases q with q | ⟨k, c', e, z'⟩
    ·exact .inl q
    ·refine .inr ⟨k, c', e, z'.sameBut hs ?_⟩
     rintro rfl
     exact hj (nodup_ix hN e1 (I.ok.inj _ _ _ e hc ▸ hi))
  ·by_cases hcc : c' = c
   ·subst hcc; exact ⟨_, hc'⟩
   ·obtain ⟨w2, z2⟩ := I.cell y c' e
    exact ⟨w2, z2.sameBut hs hcc⟩
  ·obtain ⟨e, n, ne, nf, d⟩ := I.pin p hp
   refine ⟨(hs.2 p.1 ?_).trans e, n, ne, nf, d⟩
   intro q
   rw [q, hoc] at e
   have q' : oc = p.2 := Option.some.inj e
   exact d w' (by rw [← q']; exact hocd)
theorem store_ok {M : Model} {A : Around} {E : Value → Shared → Prop} {i : Nat} {x : Str} {v : V} {u : Value} {Q : Unit → Shared → Prop} (I : Inv X pins σ H s) (hN : X.N.Nodup) (hi : X.N[i]? = some x) (hx : Loc X.env.scope x) (r : RelV v u)
  (h : ∀ s', Inv X pins (σ.set i (some v)) H s' → Q () s') (hf : X.fn x = true ∨ X.env.scope.names.lookup x = some .local := by first | exact .inl rfl | exact .inr rfl | assumption) : wpAny M A (storeName X.env x u) Q E s :=
 store_ok2 I hN hi hx r (fun s' I' _ => h s' I') hf
theorem Inv.call' {s' : Shared} {ch : List Addr} (I : Inv X pins σ H s) (ho : s'.os = s.os) (u : Un (frs X.stack) ch H H' s.heap s'.heap) (hok : HOk X.prog X.w H' s'.heap) (hg : AllBare s'.gens)
  (hch : ∀ b ∈ ch, (b ∈ X.ex ∨ X.s₀.heap.objs.size ≤ b) ∧ b ≠ X.env.locals ∧ (∀ x c, X.env.cells.lookup x = some c → c ≠ b) ∧ ∀ p ∈ X.pn ++ pins, p.1 ≠ b) : Inv X pins σ H' s' := by
 obtain ⟨h', g', d', t', o'⟩ := s'
 have e : o' = s.os := ho
 subst e
 exact I.call (g' := g') (t' := t') (d' := d') u hok hg hch
end
abbrev XK := Value → Option Addr → Hp → Prop
abbrev St := List (Option V)
abbrev VK := V → Hp → Prop
abbrev TE := St → Hp → VK → Prop
abbrev TT := St → Hp → (Bool → Hp → Prop) → Prop
abbrev TA := St → Hp → (List V → Hp → Prop) → Prop
structure Ends where
 nx : St → Hp → Prop
 rt : VK
 bk : St → Hp → Prop := fun _ _ => False
 ct : St → Hp → Prop := fun _ _ => False
abbrev TS := Ends → St → Hp → Prop
def EP (X : Cx) (pins : List (Addr × Obj)) (σ : St) (Q : VK) (u : Value) (s' : Shared) : Prop := ∃ v H', Inv X pins σ H' s' ∧ RelV v u ∧ Q v H'
def TP (X : Cx) (pins : List (Addr × Obj)) (σ : St) (Q : Bool → Hp → Prop) (b : Bool) (s' : Shared) : Prop := ∃ H', Inv X pins σ H' s' ∧ Q b H'
def AP (X : Cx) (pins : List (Addr × Obj)) (σ : St) (Q : List V → Hp → Prop) (us : List Value) (s' : Shared) : Prop := ∃ vs H', Inv X pins σ H' s' ∧ Vals vs us ∧ Q vs H'
def SP (X : Cx) (pins : List (Addr × Obj)) (D : Ends) (f : Flow) (s' : Shared) : Prop :=
 match f with
 | .next => ∃ σ' H', Inv X pins σ' H' s' ∧ D.nx σ' H'
 | .brk => ∃ σ' H', Inv X pins σ' H' s' ∧ D.bk σ' H'
 | .cont => ∃ σ' H', Inv X pins σ' H' s' ∧ D.ct σ' H'
 | .ret u => ∃ v σ' H', Inv X pins σ' H' s' ∧ RelV v u ∧ D.rt v H'
def PE (X : Cx) (e : Expr) (t : TE) : Prop :=
 ∀ (pins : List (Addr × Obj)) (s : Shared) (σ : St) (H : Hp) (Q : VK), Inv X pins σ H s → t σ H Q → wpAny (model X.prog X.w) X.A (eval e X.env) (EP X pins σ Q) X.xe s
def PT (X : Cx) (e : Expr) (t : TT) : Prop :=
 ∀ (pins : List (Addr × Obj)) (s : Shared) (σ : St) (H : Hp) (Q : Bool → Hp → Prop), Inv X pins σ H s → t σ H Q → wpAny (model X.prog X.w) X.A (isTrue e X.env (eval e X.env)) (TP X pins σ Q) X.xe s
def PW (X : Cx) (e : Expr) (t : TT) : Prop :=
 ∀ (whole : Sem Value) (pins : List (Addr × Obj)) (s : Shared) (σ : St) (H : Hp) (Q : Bool → Hp → Prop), Inv X pins σ H s → t σ H Q → wpAny (model X.prog X.w) X.A (isTrue e X.env whole) (TP X pins σ Q) X.xe s
theorem PW.pt {X : Cx} {e : Expr} {t : TT} (h : PW X e t) : PT X e t := h _
def PA (X : Cx) (es : List Expr) (t : TA) : Prop :=
 ∀ (pos : Pos) (pins : List (Addr × Obj)) (s : Shared) (σ : St) (H : Hp) (Q : List V → Hp → Prop), Inv X pins σ H s → t σ H Q → wpAny (model X.prog X.w) X.A (spliced (backTo pos (starEach es X.env))) (AP X pins σ Q) X.xe s
def PS (X : Cx) (st : Stmt) (t : TS) : Prop :=
 ∀ (pins : List (Addr × Obj)) (s : Shared) (σ : St) (H : Hp) (D : Ends), Inv X pins σ H s → t D σ H → wpAny (model X.prog X.w) X.A (exec st X.env) (SP X pins D) X.xe s
def PSs (X : Cx) (st : List Stmt) (t : TS) : Prop :=
 ∀ (pins : List (Addr × Obj)) (s : Shared) (σ : St) (H : Hp) (D : Ends), Inv X pins σ H s → t D σ H → wpAny (model X.prog X.w) X.A (execs st X.env) (SP X pins D) X.xe s
theorem thn {α : Type} {t : Sem α} {Q Q' : α → Shared → Prop} {M : Model} {A : Around} {E : Value → Shared → Prop} {s : Shared} (h : wpAny M A t Q E s) (hQ : ∀ a s, Q a s → Q' a s) : wpAny M A t Q' E s := wpAny_mono h hQ fun _ _ x => x
end L2
namespace L2
open PySem PySem.Spec PyProof.Rows
section
variable {X : Cx}
def tVar (i : Nat) : TE := fun σ H Q => ∃ v, σ[i]? = some (some v) ∧ Q v H
def tC (v : V) : TE := fun _ H Q => Q v H
theorem pe_var {i : Nat} {x : Str} {pos : Pos} (hN : X.N[i]? = some x) (hv : Vis X.env.scope x) (hd : (x == ("__debug__" : Str)) = false := by decide) (hcd : (x == ("__classdict__" : Str)) = false := by decide) : PE X (.Name x pos) (tVar i) := by
 intro pins s σ H Q I h
 obtain ⟨v, e, h⟩ := h
 obtain ⟨m, hn, hl⟩ := I.loc
 obtain ⟨u, r, l⟩ := hl i x v hN e hv
 have fin : EP X pins σ Q u s := ⟨v, H, I, r, h⟩
 rcases l with ⟨hk, hm⟩ | ⟨hk, c, hc, hcell⟩
 ·exact wpAny_Name (wpAny_loadName_local I.ok.kind hk hn hm fin) hd
 ·rcases hk with hk | hk
  ·exact wpAny_Name (wpAny_loadName_cell I.ok.kind hk hc hcell fin) hd
  ·exact wpAny_Name (wpAny_loadName_free I.ok.kind hk hc hcell fin hcd) hd
theorem pe_int {i j pos} : PE X (.Constant (.int i) j pos) (tC (.int i)) := fun _ _ _ H _ I h => wpAny_Constant_int ⟨.int i, H, I.tok _, ⟨_, rfl⟩, h⟩
theorem pe_bl {b j pos} : PE X (.Constant (.bool b) j pos) (tC (.bl b)) := fun _ _ _ H _ I h => Constant_bool ⟨.bl b, H, I, rfl, h⟩
theorem pe_non {j pos} : PE X (.Constant .none j pos) (tC .non) := fun _ _ _ H _ I h => Constant_none ⟨.non, H, I, rfl, h⟩
theorem pe_str {x j pos} : PE X (.Constant (.str x) j pos) (tC (.str x)) := fun _ _ _ H _ I h => Calls.Constant_str ⟨.str x, H, I.tok _, ⟨_, rfl⟩, h⟩
def Gl (X : Cx) (x : Str) : Prop := X.env.kindOf x = some .globalImplicit
theorem ld_glob {E : Value → Shared → Prop} {pins : List (Addr × Obj)} {s : Shared} {σ : St} {H : Hp} {x : Str} {u : Value} {pos : Pos} {Q : Value → Shared → Prop} (I : Inv X pins σ H s) (hg : Gl X x) (hm : X.mg x = some u) (h : Q u s)
  (hd : (x == ("__debug__" : Str)) = false := by decide) : wpAny (model X.prog X.w) X.A (eval (.Name x pos) X.env) Q E s :=
 Calls.Name_function_global I.ok.kind hg (Calls.loadGlobal_global (by rw [I.ok.glob]; exact I.mod.glob.keeps I.bk) hm h) hd
theorem ld_blt {E : Value → Shared → Prop} {pins : List (Addr × Obj)} {s : Shared} {σ : St} {H : Hp} {x : Str} {u : Value} {pos : Pos} {Q : Value → Shared → Prop} (I : Inv X pins σ H s) (hg : Gl X x) (hm : X.mg x = none) (hv : bootBuiltins x = some u) (h : Q u s)
  (hn : x ≠ "__name__" := by decide) (hd : (x == ("__debug__" : Str)) = false := by decide) : wpAny (model X.prog X.w) X.A (eval (.Name x pos) X.env) Q E s := by
 obtain ⟨mb, h1, h2⟩ := I.mod.blt
 exact Calls.Name_function_global I.ok.kind hg (Calls.loadGlobal_builtin (by rw [I.ok.glob]; exact I.mod.glob.keeps I.bk) hm (by rw [I.ok.blt]; exact h1.keeps I.bk) ((h2 x hn).trans hv) h) hd
theorem pe_glob {x : Str} {v : V} {u : Value} {pos : Pos} (hg : Gl X x) (hm : X.mg x = some u) (r : RelV v u) (hd : (x == ("__debug__" : Str)) = false := by decide) : PE X (.Name x pos) (tC v) :=
 fun _ _ _ H _ I h => ld_glob I hg hm ⟨v, H, I, r, h⟩ hd
theorem pe_bltn {x : Str} {v : V} {u : Value} {pos : Pos} (hg : Gl X x) (hm : X.mg x = none) (hv : bootBuiltins x = some u) (r : RelV v u) (hn : x ≠ "__name__" := by decide) (hd : (x == ("__debug__" : Str)) = false := by decide) : PE X (.Name x pos) (tC v) :=
 fun _ _ _ H _ I h => ld_blt I hg hm hv ⟨v, H, I, r, h⟩ hn hd
variable {a b : Expr} {ta tb : TE} {pos : Pos}
def tB (t : TE) : TT := fun σ H Q => t σ H fun x H1 => ∃ c, x = .bl c ∧ Q c H1
theorem pt_val {e : Expr} {t : TE} (h : PE X e t) (he : ∀ whole, isTrue e X.env whole = (do let v ← whole; standAt e.pos; holding [v] (truthy v)) := by intro _; rfl) : PT X e (tB t) := by
 intro pins s σ H Q I hw
 refine isTrue_plain (thn (h pins s σ H _ I hw) fun v s1 ⟨x, H1, I1, r1, q1⟩ => ?_) (he _)
 obtain ⟨d, rfl, q⟩ := q1
 cases r1
 exact wpAny_truthy_bool ⟨H1, I1, q⟩
variable {tA tB' : TT} {rest : List Expr}
def tAnd (t u : TT) : TT := fun σ H Q => t σ H fun c H1 => if c = true then u σ H1 Q else Q false H1
def tOr (t u : TT) : TT := fun σ H Q => t σ H fun c H1 => if c = true then Q true H1 else u σ H1 Q
def tNot (t : TT) : TT := fun σ H Q => t σ H fun c H1 => Q (!c) H1
theorem pw_and1 (ha : PT X a tA) : PW X (.BoolOp .And [a] pos) tA := by
 intro wh pins s σ H Q I h
 refine isTrue_and (thn (ha pins s σ H Q I h) fun c s1 e => ?_)
 cases c with
 | true => exact isTrue_and_nil e
 | false => exact e
theorem pw_or1 (ha : PT X a tA) : PW X (.BoolOp .Or [a] pos) tA := by
 intro wh pins s σ H Q I h
 refine isTrue_or (thn (ha pins s σ H Q I h) fun c s1 e => ?_)
 cases c with
 | false => exact isTrue_or_nil e
 | true => exact e
theorem pw_and (ha : PT X a tA) (hb : PW X (.BoolOp .And (b :: rest) pos) tB') : PW X (.BoolOp .And (a :: b :: rest) pos) (tAnd tA tB') := by
 intro wh pins s σ H Q I h
 refine isTrue_and (thn (ha pins s σ H _ I h) fun c s1 ⟨H1, I1, q1⟩ => ?_)
 cases c with
 | true => exact hb wh pins s1 σ H1 Q I1 q1
 | false => exact ⟨H1, I1, q1⟩
theorem pw_or (ha : PT X a tA) (hb : PW X (.BoolOp .Or (b :: rest) pos) tB') : PW X (.BoolOp .Or (a :: b :: rest) pos) (tOr tA tB') := by
 intro wh pins s σ H Q I h
 refine isTrue_or (thn (ha pins s σ H _ I h) fun c s1 ⟨H1, I1, q1⟩ => ?_)
 cases c with
 | true => exact ⟨H1, I1, q1⟩
 | false => exact hb wh pins s1 σ H1 Q I1 q1
theorem pt_not (ha : PT X a tA) : PT X (.UnaryOp .Not a pos) (tNot tA) := by
 intro pins s σ H Q I h
 exact isTrue_not (ha pins s σ H (fun c H1 => Q (!c) H1) I h)
def tAndV (ta tb : TE) : TE := fun σ H Q => ta σ H fun x H1 => ∃ c, x = .bl c ∧ if c = true then tb σ H1 Q else Q (.bl false) H1
def tOrV (ta tb : TE) : TE := fun σ H Q => ta σ H fun x H1 => ∃ c, x = .bl c ∧ if c = true then Q (.bl true) H1 else tb σ H1 Q
def tNotV (ta : TE) : TE := fun σ H Q => ta σ H fun x H1 => ∃ c, x = .bl c ∧ Q (.bl (!c)) H1
theorem pe_one {op} {t : TE} (h : PE X a t) : PE X (.BoolOp op [a] pos) t := fun pins s σ H Q I hw => BoolOp_one (h pins s σ H Q I hw)
theorem pe_and (ha : PE X a ta) (hb : PE X (.BoolOp .And (b :: rest) pos) tb) : PE X (.BoolOp .And (a :: b :: rest) pos) (tAndV ta tb) := by
 intro pins s σ H Q I h
 refine BoolOp_and (thn (ha pins s σ H _ I h) fun v s1 ⟨x, H1, I1, r1, q1⟩ => ?_)
 obtain ⟨c, rfl, q1⟩ := q1
 cases r1
 refine wpAny_truthy_bool ?_
 cases c with
 | true => exact hb pins s1 σ H1 Q I1 q1
 | false => exact ⟨.bl false, H1, I1, rfl, q1⟩
theorem pe_or (ha : PE X a ta) (hb : PE X (.BoolOp .Or (b :: rest) pos) tb) : PE X (.BoolOp .Or (a :: b :: rest) pos) (tOrV ta tb) := by
 intro pins s σ H Q I h
 refine BoolOp_or (thn (ha pins s σ H _ I h) fun v s1 ⟨x, H1, I1, r1, q1⟩ => ?_)
 obtain ⟨c, rfl, q1⟩ := q1
 cases r1
 refine wpAny_truthy_bool ?_
 cases c with
 | false => exact hb pins s1 σ H1 Q I1 q1
 | true => exact ⟨.bl true, H1, I1, rfl, q1⟩
theorem pe_not (ha : PE X a ta) : PE X (.UnaryOp .Not a pos) (tNotV ta) := by
 intro pins s σ H Q I h
 refine UnaryOp_ (thn (ha pins s σ H _ I h) fun v s1 ⟨x, H1, I1, r1, q1⟩ => ?_)
 obtain ⟨c, rfl, q1⟩ := q1
 cases r1
 exact not_of (wpAny_truthy_bool ⟨.bl (!c), H1, I1, rfl, q1⟩)
def tIf (t : TT) (ta tb : TE) : TE := fun σ H Q => t σ H fun c H1 => if c = true then ta σ H1 Q else tb σ H1 Q
theorem pe_ifExp {c : Expr} (hc : PT X c tA) (ha : PE X a ta) (hb : PE X b tb) : PE X (.IfExp c a b pos) (tIf tA ta tb) := by
 intro pins s σ H Q I h
 refine wpAny_IfExp (thn (hc pins s σ H _ I h) fun d s1 ⟨H1, I1, q1⟩ => ?_)
 cases d with
 | true => exact ha pins s1 σ H1 Q I1 q1
 | false => exact hb pins s1 σ H1 Q I1 q1
end
end L2
namespace L2
open PySem PySem.Spec PyProof.Rows
def SqL (K : PySem.W.Frag) (H : Hp) (a : Addr) (xs : List V) : Prop :=
 Rd H a (.lst xs) ∨
  ∃ (o : Obj) (its : Array Value) (n : Nat), K.lookup a = some o ∧ o.cls = .type "list" ∧ o.dict = none ∧ o.data = .seq its n ∧ its.size ≤ sizeLine ∧ Vals xs its.toList
def SqT (K : PySem.W.Frag) (H : Hp) (a : Addr) (xs : List V) : Prop :=
 Rd H a (.tup xs) ∨
  ∃ (o : Obj) (its : Array Value) (n : Nat), K.lookup a = some o ∧ o.cls = .type "tuple" ∧ o.data = .seq its n ∧ its.size ≤ sizeLine ∧ Vals xs its.toList
def absV : Value → Option V
 | .none => some .non
 | .bool b => some (.bl b)
 | .int i _ => some (.int i)
 | .str x _ => some (.str x)
 | .bytes b _ => some (.byt b)
 | .float b _ => some (.flt b)
 | .ref a => some (.ref a)
 | .type n => some (.ty n)
 | _ => none
theorem RelV.abs {x : V} {u : Value} (r : RelV x u) : absV u = some x := by
 cases x with
 | non => cases r; rfl
 | bl _ => cases r; rfl
 | int _ => obtain ⟨t, rfl⟩ := r; rfl
 | str _ => obtain ⟨t, rfl⟩ := r; rfl
 | byt _ => obtain ⟨t, rfl⟩ := r; rfl
 | flt _ => obtain ⟨t, rfl⟩ := r; rfl
 | ref _ => cases r; rfl
 | ty _ => cases r; rfl
theorem RelV.inj {x y : V} {u : Value} (r : RelV x u) (q : RelV y u) : x = y := Option.some.inj (r.abs.symm.trans q.abs)
theorem Vals.inj : ∀ {xs ys : List V} {us : List Value}, Vals xs us → Vals ys us → xs = ys
 | _, _, _, .nil, .nil => rfl
 | _, _, _, .cons r t, .cons r' t' => by rw [r.inj r', Vals.inj t t']
section
variable {X : Cx} {pins : List (Addr × Obj)} {σ : St} {H : Hp} {s : Shared} {a : Addr} {xs ys : List V}
theorem SqL.of {K : PySem.W.Frag} (h : H a = some (.lst xs)) : SqL K H a xs := .inl (.inl h)
theorem Inv.list (I : Inv X pins σ H s) (h : SqL X.K H a xs) : ∃ its : List Value, Vals xs its ∧ PlainL s.heap a its.toArray ∧ xs.length ≤ sizeLine := by
 rcases h with h | ⟨o, its, n, hk, hc, hd, hs, hz, r⟩
 ·obtain ⟨z, its, n, r, e⟩ := h.ok I.hok
  exact ⟨its, r, ⟨_, n, e, rfl, rfl, rfl⟩, z⟩
 ·refine ⟨its.toList, r, ⟨o, n, I.kIn a o hk, hc, hd, by simpa using hs⟩, ?_⟩
  have e := r.length
  simp only [Array.length_toList] at e
  omega
theorem Inv.tuple (I : Inv X pins σ H s) (h : SqT X.K H a xs) : ∃ its : List Value, Vals xs its ∧ IsTup s.heap a its.toArray ∧ xs.length ≤ sizeLine := by
 rcases h with h | ⟨o, its, n, hk, hc, hs, hz, r⟩
 ·obtain ⟨z, its, r, p⟩ := h.ok I.hok
  exact ⟨its, r, p, z⟩
 ·refine ⟨its.toList, r, ⟨o, I.kIn a o hk, hc, n, by simpa using hs⟩, ?_⟩
  have e := r.length
  simp only [Array.length_toList] at e
  omega
theorem Inv.list_inj (I : Inv X pins σ H s) (h : SqL X.K H a xs) (h' : SqL X.K H a ys) : xs = ys := by
 obtain ⟨its, r, ⟨o, n, e, _, _, d⟩, _⟩ := I.list h
 obtain ⟨its', r', ⟨o', n', e', _, _, d'⟩, _⟩ := I.list h'
 rw [e] at e'; cases e'
 rw [d] at d'
 injection d' with d1 _
 have : its = its' := by simpa using congrArg Array.toList d1
 subst this
 exact r.inj r'
theorem Inv.tuple_inj (I : Inv X pins σ H s) (h : SqT X.K H a xs) (h' : SqT X.K H a ys) : xs = ys := by
 obtain ⟨its, r, ⟨o, e, _, n, d⟩, _⟩ := I.tuple h
 obtain ⟨its', r', ⟨o', e', _, n', d'⟩, _⟩ := I.tuple h'
 rw [e] at e'; cases e'
 rw [d] at d'
 injection d' with d1 _
 have : its = its' := by simpa using congrArg Array.toList d1
 subst this
 exact r.inj r'
end
abbrev Cx.wish (X : Cx) (E : Value → Shared → Prop) : Cx := { X with xe := E }
abbrev Cx.nox (X : Cx) : Cx := X.wish fun _ _ => False
theorem Cx.Ok.wish {X : Cx} (ok : X.Ok) (E : Value → Shared → Prop) : (X.wish E).Ok :=
 ⟨ok.mod, ok.kind, ok.glob, ok.blt, ok.above, ok.inj, ok.has, ok.cab, ok.hd, ok.frames, ok.stk, ok.exf, ok.bs, ok.bsz, ok.noex, ok.exfs, ok.funs, ok.frf⟩
theorem Cx.Ok.unwish {X : Cx} {E : Value → Shared → Prop} (ok : (X.wish E).Ok) : X.Ok :=
 ⟨ok.mod, ok.kind, ok.glob, ok.blt, ok.above, ok.inj, ok.has, ok.cab, ok.hd, ok.frames, ok.stk, ok.exf, ok.bs, ok.bsz, ok.noex, ok.exfs, ok.funs, ok.frf⟩
section
variable {X : Cx} {pins : List (Addr × Obj)} {σ : St} {H : Hp} {s : Shared} {E : Value → Shared → Prop}
theorem Inv.wish (I : Inv X pins σ H s) (E : Value → Shared → Prop) : Inv (X.wish E) pins σ H s := ⟨I.ok.wish E, I.os, I.bare, I.base, I.loc, I.cell, I.free, I.freeC, I.pin, I.hok, I.len⟩
theorem Inv.unwish (I : Inv (X.wish E) pins σ H s) : Inv X pins σ H s := ⟨I.ok.unwish, I.os, I.bare, I.base, I.loc, I.cell, I.free, I.freeC, I.pin, I.hok, I.len⟩
theorem SP.unwish {D : Ends} {f : Flow} {s' : Shared} (h : SP (X.wish E) pins D f s') : SP X pins D f s' := by
 cases f with
 | next => obtain ⟨σ', H', I, q⟩ := h; exact ⟨σ', H', I.unwish, q⟩
 | brk => obtain ⟨σ', H', I, q⟩ := h; exact ⟨σ', H', I.unwish, q⟩
 | cont => obtain ⟨σ', H', I, q⟩ := h; exact ⟨σ', H', I.unwish, q⟩
 | ret u => obtain ⟨v, σ', H', I, r, q⟩ := h; exact ⟨v, σ', H', I.unwish, r, q⟩
theorem PSs.nox {st : List Stmt} {t : TS} (h : PSs X.nox st t) : PSs X st t := fun pins s σ H D I hw =>
 wpAny_mono (h pins s σ H D (I.wish _) hw) (fun _ _ q => q.unwish) fun _ _ z => False.elim z
end
section
variable {X : Cx} {st : Stmt} {rest : List Stmt} {t u : TS} {e : Expr} {te : TE} {pos : Pos}
def tNext : TS := fun D σ H => D.nx σ H
def tSeq (t u : TS) : TS := fun D σ H => t { D with nx := u D } σ H
theorem pss_nil : PSs X [] tNext := fun _ _ σ H _ I h => wpAny_execs_nil ⟨σ, H, I, h⟩
theorem pss_cons (h1 : PS X st t) (h2 : PSs X rest u) : PSs X (st :: rest) (tSeq t u) := by
 intro pins s σ H D I h
 refine wpAny_execs_cons (thn (h1 pins s σ H { D with nx := u D } I h) fun f s1 q => ?_)
 cases f with
 | next =>
  obtain ⟨σ', H', I', q⟩ := q
  exact h2 pins s1 σ' H' D I' q
 | ret v => exact q
 | brk => exact q
 | cont => exact q
def tBreak : TS := fun D σ H => D.bk σ H
def tCont : TS := fun D σ H => D.ct σ H
theorem ps_pass : PS X (.Pass pos) tNext := fun _ _ σ H _ I h => wpAny_Pass ⟨σ, H, I, h⟩
theorem ps_break : PS X (.Break pos) tBreak := fun _ _ σ H _ I h => wpAny_Break ⟨σ, H, I, h⟩
theorem ps_continue : PS X (.Continue pos) tCont := fun _ _ σ H _ I h => wpAny_Continue ⟨σ, H, I, h⟩
theorem Inv.quiet {pins : List (Addr × Obj)} {σ : St} {H : Hp} {s : Shared} (I : Inv X pins σ H s) : interactive X.env = false := by simp [interactive, I.ok.kind]
def tDrop (te : TE) : TS := fun D σ H => te σ H fun _ H1 => D.nx σ H1
theorem ps_expr (he : PE X e te) (hs : swapsWith e none pos.line X.env = pure false := by rfl) : PS X (.Expr e pos) (tDrop te) := by
 intro pins s σ H D I h
 exact wpAny_Expr_any (thn (he pins s σ H _ I h) fun v s1 ⟨x, H1, I1, r1, q1⟩ => ⟨σ, H1, I1, q1⟩) I.quiet hs
def tRet (te : TE) : TS := fun D σ H => te σ H D.rt
theorem ps_ret (he : PE X e te) : PS X (.Return (some e) pos) (tRet te) := by
 intro pins s σ H D I h
 exact wpAny_Return_some (thn (he pins s σ H _ I h) fun v s1 ⟨x, H1, I1, r1, q1⟩ => ⟨x, σ, H1, I1, r1, q1⟩)
def tRetN : TS := fun D _ H => D.rt .non H
theorem ps_retN : PS X (.Return none pos) tRetN := fun _ _ σ H _ I h => wpAny_Return_none ⟨.non, σ, H, I, rfl, h⟩
def tIfS (c : TT) (t u : TS) : TS := fun D σ H => c σ H fun b H1 => if b = true then t D σ H1 else u D σ H1
theorem ps_if {c : Expr} {a b : List Stmt} {tc : TT} (hc : PT X c tc) (ha : PSs X a t) (hb : PSs X b u) : PS X (.If c a b pos) (tIfS tc t u) := by
 intro pins s σ H D I h
 refine wpAny_If (thn (hc pins s σ H _ I h) fun d s1 ⟨H1, I1, q1⟩ => ?_)
 cases d with
 | true => exact ha pins s1 σ H1 D I1 q1
 | false => exact hb pins s1 σ H1 D I1 q1
end
abbrev TG := V → St → Hp → (St → Hp → Prop) → Prop
def PG (X : Cx) (target : Expr) (t : TG) : Prop :=
 ∀ (pins : List (Addr × Obj)) (s : Shared) (σ : St) (H : Hp) (v : V) (u : Value) (Q : St → Hp → Prop), Inv X pins σ H s → RelV v u → t v σ H Q →
  wpAny (model X.prog X.w) X.A (assign target X.env u) (fun _ s' => ∃ σ' H', Inv X pins σ' H' s' ∧ Q σ' H') X.xe s
abbrev TSet := V → V → V → Hp → (Hp → Prop) → Prop
def PSet (X : Cx) (t : TSet) : Prop :=
 ∀ (pins : List (Addr × Obj)) (s : Shared) (σ : St) (H : Hp) (o i v : V) (ov iv u : Value) (Q : Hp → Prop), Inv X pins σ H s → RelV o ov → RelV i iv → RelV v u → t o i v H Q →
  wpAny (model X.prog X.w) X.A (setItem ov iv u) (fun _ s' => ∃ H', Inv X pins σ H' s' ∧ Q H') X.xe s
section
variable {X : Cx} {pos : Pos}
def gName (i : Nat) : TG := fun v σ H Q => Q (σ.set i (some v)) H
theorem pg_name {i : Nat} {x : Str} (hN : X.N.Nodup) (hi : X.N[i]? = some x) (hx : Loc X.env.scope x) (hf : X.fn x = true ∨ X.env.scope.names.lookup x = some .local := by first | exact .inl rfl | exact .inr rfl | assumption) : PG X (.Name x pos) (gName i) := by
 intro pins s σ H v u Q I r h
 exact wpAny_assign_Name (store_ok I hN hi hx r (fun s' I' => ⟨_, H, I', h⟩) hf)
def gSub (to ti : TE) (t : TSet) : TG := fun v σ H Q => to σ H fun o H1 => ti σ H1 fun i H2 => t o i v H2 fun H3 => Q σ H3
theorem pg_sub {o i : Expr} {to ti : TE} {t : TSet} (ho : PE X o to) (hi : PE X i ti) (hs : PSet X t)
  (ha : ∀ v, assign (.Subscript o i pos) X.env v = (do
   let ov ← holding [v] (eval o X.env)
   let iv ← holding [v, ov] (eval i X.env)
   standAt pos
   holding [v, ov, iv] (setItem ov iv v)
   release [v, ov, iv] []) := by intro _; rfl) : PG X (.Subscript o i pos) (gSub to ti t) := by
 intro pins s σ H v u Q I r h
 rw [ha]
 refine wpAny_bind (wpAny_holding (thn (ho pins s σ H _ I h) fun ov s1 ⟨x, H1, I1, r1, q1⟩ => ?_))
 refine wpAny_bind (wpAny_holding (thn (hi pins s1 σ H1 _ I1 q1) fun iv s2 ⟨y, H2, I2, r2, q2⟩ => ?_))
 refine wpAny_bind (wpAny_standAt (wpAny_bind (wpAny_holding (thn (hs pins s2 σ H2 x y v ov iv u _ I2 r1 r2 r q2) fun _ s3 ⟨H3, I3, q3⟩ => ?_))))
 exact wpAny_release ⟨σ, H3, I3, q3⟩
def tAsg (te : TE) (g : TG) : TS := fun D σ H => te σ H fun x H1 => g x σ H1 D.nx
theorem ps_asg {tg e : Expr} {te : TE} {g : TG} (he : PE X e te) (hg : PG X tg g) (hs : swapsWithSole [tg] e pos.line X.env = pure false := by rfl) (hw : swappedStores [tg] e X.env = pure none := by rfl)
  (h1 : (assignEach [tg] X.env).map (·.2) = [assign tg X.env] := by rfl) : PS X (.Assign [tg] e pos) (tAsg te g) := by
 intro pins s σ H D I h
 refine wpAny_Assign_stores (thn (he pins s σ H _ I h) fun v s1 ⟨x, H1, I1, r1, q1⟩ => ?_) hs hw
 rw [h1]
 exact thn (hg pins s1 σ H1 x v _ I1 r1 q1) fun _ s2 q => q
theorem ps_set {i : Nat} {x : Str} {e : Expr} {te : TE} {pos' : Pos} (hN : X.N.Nodup) (hi : X.N[i]? = some x) (hx : Loc X.env.scope x) (he : PE X e te) (hs : swapsWith e (some (.Name x pos')) pos.line X.env = pure false := by rfl) (hf : X.fn x = true ∨ X.env.scope.names.lookup x = some .local := by first | exact .inl rfl | exact .inr rfl | assumption) :
  PS X (.Assign [.Name x pos'] e pos) (tAsg te (gName i)) := by
 intro pins s σ H D I h
 refine wpAny_Assign_Name (thn (he pins s σ H _ I h) fun v s1 ⟨y, H1, I1, r1, q1⟩ => ?_) hs
 exact store_ok I1 hN hi hx r1 (fun s2 I2 => ⟨_, H1, I2, q1⟩) hf
end
section
variable {X : Cx} {pos : Pos}
end
structure It where
 go : Nat → Hp → Prop
 yld : Nat → Hp → V → Hp → Prop
 stop : Nat → Hp → Prop
def FpOk (X : Cx) (pins : List (Addr × Obj)) (H : Hp) (b : Addr) : Prop :=
 H b = none ∧ b ≠ X.env.locals ∧ b ∉ X.fs ∧ (b ∈ X.ex ∨ X.s₀.heap.objs.size ≤ b) ∧ (∀ x c, X.env.cells.lookup x = some c → c ≠ b) ∧ ∀ p ∈ X.pn ++ pins, p.1 ≠ b
theorem Inv.fpOk {X : Cx} {pins : List (Addr × Obj)} {σ : St} {H H' : Hp} {s : Shared} {b : Addr} (I : Inv X pins σ H s) (hb : s.heap.objs.size ≤ b) (hn : H' b = none) : FpOk X pins H' b := by
 refine ⟨hn, Nat.ne_of_gt (Nat.lt_of_lt_of_le I.lt hb), I.nofs hb, .inr (Nat.le_trans I.sz hb), fun x c e z => ?_, fun p hp z => ?_⟩
 ·obtain ⟨v, q⟩ := I.cell x c e
  exact absurd (Nat.lt_of_lt_of_le q.lt (by rw [z]; exact hb)) (Nat.lt_irrefl _)
 ·exact absurd (Nat.lt_of_lt_of_le (Heap.lt_size (I.pin p hp).1) (by rw [z]; exact hb)) (Nat.lt_irrefl _)
structure Turn (P : Program) (w : World) (K : PySem.W.Frag) (tg : Expr) (J : It) (fp : List Addr) (it : Addr) (tn : Nat → Heap → Prop) : Prop where
 mem : it ∈ fp
 obj : ∀ i h, tn i h → ∀ b ∈ fp, ∃ o, h.get? b = some o ∧ ∀ v, o.data ≠ .cell v
 keep : ∀ i h h', tn i h → (∀ b ∈ fp, ∀ o, h.get? b = some o → h'.get? b = some o) → tn i h'
 item : ∀ (X : Cx), X.prog = P → X.w = w → X.K = K → X.calm = true → ∀ (i : Nat) (pins : List (Addr × Obj)) (s : Shared) (σ : St) (H : Hp) (E : Value → Shared → Prop), Inv X pins σ H s → (∀ b ∈ fp, FpOk X pins H b) → tn i s.heap → J.go i H →
  wpAny (model P w) X.A (pyNext (.ref it)) (fun r s1 => ∃ u, r = some u ∧
   wpAny (model P w) X.A (letOwnedTupleGo tg (.ref it) u) (fun _ s2 => ∃ x H', Inv X pins σ H' s2 ∧ RelV x u ∧ J.yld i H x H' ∧ tn (i + 1) s2.heap ∧ ∀ b ∈ fp, H' b = none) E s1) E s
 done : ∀ (X : Cx), X.prog = P → X.w = w → X.K = K → X.calm = true → ∀ (i : Nat) (pins : List (Addr × Obj)) (s : Shared) (σ : St) (H : Hp) (E : Value → Shared → Prop), Inv X pins σ H s → (∀ b ∈ fp, FpOk X pins H b) → tn i s.heap → J.stop i H →
  wpAny (model P w) X.A (pyNext (.ref it)) (fun r s1 => r = none ∧ Inv X pins σ H s1) E s
 self : ∀ (A : Around) (i : Nat) (s : Shared) (Q : Value → Shared → Prop) (E : Value → Shared → Prop), tn i s.heap → Q (.ref it) s → wpAny (model P w) A (pyIter (.ref it)) Q E s
abbrev TI := St → Hp → (It → Hp → Prop) → Prop
def PIE (X : Cx) (pins : List (Addr × Obj)) (σ : St) (tg : Expr) (R : It → Hp → Prop) (itv : Value) (s2 : Shared) : Prop :=
 ∃ (it : Addr) (fp : List Addr) (tn : Nat → Heap → Prop) (J : It) (H' : Hp), itv = .ref it ∧ Inv X pins σ H' s2 ∧ Turn X.prog X.w X.K tg J fp it tn ∧ tn 0 s2.heap ∧ (∀ b ∈ fp, FpOk X pins H' b) ∧ R J H'
def PI (X : Cx) (tg iter : Expr) (wi : TI) : Prop :=
 ∀ (pins : List (Addr × Obj)) (s : Shared) (σ : St) (H : Hp) (R : It → Hp → Prop), Inv X pins σ H s → wi σ H R →
  wpAny (model X.prog X.w) X.A (eval iter X.env) (fun v s1 => wpAny (model X.prog X.w) X.A (pyIter v) (PIE X pins σ tg R) X.xe s1) X.xe s
theorem go_of {M : Model} {A : Around} {E : Value → Shared → Prop} {s : Shared} {tg : Expr} {it : Addr} {u : Value} {o : Obj} {n : String} {vs : Array Value} {Q : Unit → Shared → Prop} (ho : s.heap.get? it = some o) (hc : o.cls = .type n) (hd : o.data = .fields vs)
    (hn : ["enumerate", "zip", "dict_itemiterator", "dict_reverseitemiterator", "odict_iterator", "itertools.zip_longest", "itertools.pairwise"].contains n = false) (hQ : Q () s) : wpAny M A (letOwnedTupleGo tg (.ref it) u) Q E s := by
  unfold letOwnedTupleGo
  cases tg <;> first
    | exact wpAny_pure hQ
    | (cases u <;> first
        | exact wpAny_pure hQ
        | (refine wpAny_bind (wpAny_load ho ?_)
           rw [hc, hd]
           show wpAny M A (if (["enumerate", "zip", "dict_itemiterator", "dict_reverseitemiterator", "odict_iterator", "itertools.zip_longest", "itertools.pairwise"].contains n && vs[0]? == some (rawInt _)) = true then _ else _) Q E s
           rw [if_neg (by intro h; rw [hn, Bool.false_and] at h; cases h)]
           exact wpAny_pure hQ))
def Itl (K : PySem.W.Frag) (a : Addr) : It :=
 ⟨fun i H => ∃ xs x, SqL K H a xs ∧ xs[i]? = some x, fun i H x H' => H' = H ∧ ∀ xs, SqL K H a xs → xs[i]? = some x, fun i H => ∃ xs, SqL K H a xs ∧ xs.length ≤ i⟩
def Itt (K : PySem.W.Frag) (a : Addr) : It :=
 ⟨fun i H => ∃ xs x, SqT K H a xs ∧ xs[i]? = some x, fun i H x H' => H' = H ∧ ∀ xs, SqT K H a xs → xs[i]? = some x, fun i H => ∃ xs, SqT K H a xs ∧ xs.length ≤ i⟩
def Itr (lo : Int) (n : Nat) : It := ⟨fun i _ => i < n, fun i H x H' => H' = H ∧ x = .int (lo + i), fun i _ => n ≤ i⟩
theorem turn_list {P : Program} {w : World} {K : PySem.W.Frag} {tg : Expr} (a it : Addr) : Turn P w K tg (Itl K a) [it] it (fun i h => h.IsListIter it a i) where
 mem := by simp
 obj := fun i h st b hb => by
  have e : b = it := by simpa using hb
  subst e
  obtain ⟨o, e, c, d⟩ := st
  exact ⟨o, e, fun v z => by rw [d] at z; cases z⟩
 keep := fun i h h' st k => st.at fun o e => k it (by simp) o e
 item := by
  intro X hP hw hK hc i pins s σ H E I hf st hg
  subst hP hw hK
  obtain ⟨xs, x, hq, hx⟩ := hg
  obtain ⟨its, rv, p, hz⟩ := I.list hq
  obtain ⟨u, hu, ru⟩ := rv.get hx
  obtain ⟨f0, f1, f2, f3, f4, f5⟩ := hf it (by simp)
  refine wpAny_pyNext_list_item st p.isList (x := u) (by simpa using hu) fun h' st' sb => ?_
  have I1 : Inv X pins σ H { s with heap := h' } := I.turned (t' := s.toks) (fun b o hb e => (sb.2 b hb).trans e) f0 f1 f3 f4 f5
  obtain ⟨o, e, c, d⟩ := id st'
  exact ⟨u, rfl, go_of (s := { s with heap := h' }) e c d (by decide) ⟨x, H, I1, ru, ⟨rfl, fun ys hy => by rw [I.list_inj hy hq]; exact hx⟩, st', fun b hb => (hf b hb).1⟩⟩
 done := by
  intro X hP hw hK hc i pins s σ H E I hf st hg
  subst hP hw hK
  obtain ⟨xs, hq, hx⟩ := hg
  obtain ⟨its, rv, p, hz⟩ := I.list hq
  obtain ⟨f0, f1, f2, f3, f4, f5⟩ := hf it (by simp)
  have hl := rv.length
  exact wpAny_pyNext_list_end (I.ok.hd hc) st p.isList (by simp; omega) fun h' eb => ⟨rfl, I.turned (t' := s.toks) (fun b o hb e => eb b o hb e) f0 f1 f3 f4 f5⟩
 self := fun _ _ _ _ _ st h => wpAny_pyIter_listiter st h
theorem turn_tuple {P : Program} {w : World} {K : PySem.W.Frag} {tg : Expr} (a it : Addr) : Turn P w K tg (Itt K a) [it] it (fun i h => h.IsTupleIter it a i) where
 mem := by simp
 obj := fun i h st b hb => by
  have e : b = it := by simpa using hb
  subst e
  obtain ⟨o, e, c, d⟩ := st
  exact ⟨o, e, fun v z => by rw [d] at z; cases z⟩
 keep := fun i h h' st k => st.at fun o e => k it (by simp) o e
 item := by
  intro X hP hw hK hc i pins s σ H E I hf st hg
  subst hP hw hK
  obtain ⟨xs, x, hq, hx⟩ := hg
  obtain ⟨its, rv, p, hz⟩ := I.tuple hq
  obtain ⟨u, hu, ru⟩ := rv.get hx
  obtain ⟨f0, f1, f2, f3, f4, f5⟩ := hf it (by simp)
  refine wpAny_pyNext_tuple_item st (show s.heap.IsTuple a its.toArray from p) (x := u) (by simpa using hu) fun h' st' sb => ?_
  have I1 : Inv X pins σ H { s with heap := h' } := I.turned (t' := s.toks) (fun b o hb e => (sb.2 b hb).trans e) f0 f1 f3 f4 f5
  obtain ⟨o, e, c, d⟩ := id st'
  exact ⟨u, rfl, go_of (s := { s with heap := h' }) e c d (by decide) ⟨x, H, I1, ru, ⟨rfl, fun ys hy => by rw [I.tuple_inj hy hq]; exact hx⟩, st', fun b hb => (hf b hb).1⟩⟩
 done := by
  intro X hP hw hK hc i pins s σ H E I hf st hg
  subst hP hw hK
  obtain ⟨xs, hq, hx⟩ := hg
  obtain ⟨its, rv, p, hz⟩ := I.tuple hq
  obtain ⟨f0, f1, f2, f3, f4, f5⟩ := hf it (by simp)
  have hl := rv.length
  exact wpAny_pyNext_tuple_end (I.ok.hd hc) st (show s.heap.IsTuple a its.toArray from p) (by simp; omega) fun h' eb => ⟨rfl, I.turned (t' := s.toks) (fun b o hb e => eb b o hb e) f0 f1 f3 f4 f5⟩
 self := fun _ _ _ _ _ st h => wpAny_pyIter_tupleiter st h
theorem turn_range {P : Program} {w : World} {K : PySem.W.Frag} {tg : Expr} (it : Addr) (lo : Int) (n : Nat) : Turn P w K tg (Itr lo n) [it] it (fun i h => IsRangeIter h it (lo + (i : Nat) * 1) ((n : Int) - (i : Nat)) 1) where
 mem := by simp
 obj := fun i h st b hb => by
  have e : b = it := by simpa using hb
  subst e
  exact ⟨_, st, fun v z => by
   have z' : Data.fields _ = Data.cell v := z
   cases z'⟩
 keep := fun i h h' st k => k it (by simp) _ st
 item := by
  intro X hP hw hK hc i pins s σ H E I hf st hg
  subst hP hw hK
  obtain ⟨f0, f1, f2, f3, f4, f5⟩ := hf it (by simp)
  have W := Walks.range (prog := X.prog) (w := X.w) (I.ok.hd hc) it lo 1 n
  refine W.item i s _ _ hg st fun v h' tk hv st' kk => ?_
  obtain ⟨t, rfl⟩ := hv
  have I1 : Inv X pins σ H { s with heap := h', toks := tk } := I.turned (fun b o hb e => kk b o (by simpa using hb) e) f0 f1 f3 f4 f5
  refine ⟨_, rfl, go_of (s := { s with heap := h', toks := tk }) (n := "range_iterator") st' rfl rfl (by decide) ⟨.int (lo + i), H, I1, ⟨t, ?_⟩, ⟨rfl, rfl⟩, st', fun b hb => (hf b hb).1⟩⟩
  rw [Int.mul_one]
 done := by
  intro X hP hw hK hc i pins s σ H E I hf st hg
  subst hP hw hK
  obtain ⟨f0, f1, f2, f3, f4, f5⟩ := hf it (by simp)
  exact wpAny_pyNext_range_end (I.ok.hd hc) st (by have : n ≤ i := hg; omega) fun h' eb => ⟨rfl, I.turned (t' := s.toks) (fun b o hb e => eb b o hb e) f0 f1 f3 f4 f5⟩
 self := fun _ _ _ _ _ st h => wpAny_pyIter_rangeiter st h
end L2
namespace L2
open PySem PySem.Spec PyProof.Rows
section
variable {X : Cx} {tg : Expr}
theorem range_it {pins : List (Addr × Obj)} {σ : St} {H : Hp} {s : Shared} {R : It → Hp → Prop} {E : Value → Shared → Prop} {lo hi : Int} {t u v : Tok} {tk : Nat} (I : Inv X pins σ H s) (h1 : -(2 ^ 62) ≤ lo) (h2 : lo < 2 ^ 62) (h3 : -(2 ^ 62) ≤ hi) (h4 : hi < 2 ^ 62)
  (q : R (Itr lo (hi - lo).toNat) H) : wpAny (model X.prog X.w) X.A (pyIter (.ref s.heap.objs.size)) (PIE X pins σ tg R) E { s with heap := s.heap.push { cls := .type "range", data := .fields #[.int lo t, .int hi u, .int 1 v] }, toks := tk } := by
 refine wpAny_pyIter_range (IsRange.new ..) (small_one h1 h2 h3 h4) ?_
 have I1 : Inv X pins σ H { s with heap := s.heap.push { cls := .type "range", data := .fields #[.int lo t, .int hi u, .int 1 v] }, toks := tk } := I.kept fun b o e => Heap.get?_push_of_some _ e
 refine ⟨(s.heap.push { cls := .type "range", data := .fields #[.int lo t, .int hi u, .int 1 v] }).objs.size, [(s.heap.push { cls := .type "range", data := .fields #[.int lo t, .int hi u, .int 1 v] }).objs.size], _, _, H, rfl,
  I1.kept (t' := tk) fun b o e => Heap.get?_push_of_some _ e, turn_range _ lo (hi - lo).toNat, ?_, fun b hb => ?_, q⟩
 ·have e1 : lo + ((0 : Nat) : Int) * 1 = lo := by simp
  have e2 : (((hi - lo).toNat : Nat) : Int) - ((0 : Nat) : Int) = Builtin.Range.rangeSize lo hi 1 := by rw [rangeSize_one]; split <;> omega
  show IsRangeIter _ _ (lo + ((0 : Nat) : Int) * 1) ((((hi - lo).toNat : Nat) : Int) - ((0 : Nat) : Int)) 1
  rw [e1, e2]
  exact Heap.get?_push_size _ rfl
 ·have e : b = (s.heap.push { cls := .type "range", data := .fields #[.int lo t, .int hi u, .int 1 v] }).objs.size := by simpa using hb
  subst e
  exact I1.fpOk (Nat.le_refl _) (I1.hok.fresh (Nat.le_refl _))
def iRng1 (ta : TA) : TI := fun σ H R => ta σ H fun vs H1 => ∃ j : Int, vs = [.int j] ∧ -(2 ^ 62) ≤ j ∧ j < 2 ^ 62 ∧ R (Itr 0 j.toNat) H1
def iRng2 (ta : TA) : TI := fun σ H R => ta σ H fun vs H1 => ∃ i j : Int, vs = [.int i, .int j] ∧ (-(2 ^ 62) ≤ i ∧ i < 2 ^ 62 ∧ -(2 ^ 62) ≤ j ∧ j < 2 ^ 62) ∧ R (Itr i (j - i).toNat) H1
theorem pi_range1 {a : Expr} {ta : TA} {p pos : Pos} (hg : Gl X "range") (hm : X.mg "range" = none) (ha : PA X [a] ta) (hs : starEach [a] X.env = [(false, eval a X.env)] := by rfl) : PI X tg (.Call (.Name "range" p) [a] [] pos) (iRng1 ta) := by
 intro pins s σ H R I h
 refine Call_ (ld_blt I hg hm boot_range (PyProof.Rows.callWith_type1 (thn (ha pos pins s σ H _ I h) fun us s1 ⟨vs, H1, I1, r1, q1⟩ => ?_) hs rfl))
 obtain ⟨j, e, q1, q2, q⟩ := q1
 subst e
 cases r1 with
 | cons r rr =>
  cases rr
  obtain ⟨t, rfl⟩ := r
  exact call_range_1 (range_it I1 (by omega) (by omega) q1 q2 (by simpa using q))
theorem pi_range2 {a b : Expr} {ta : TA} {p pos : Pos} (hg : Gl X "range") (hm : X.mg "range" = none) (ha : PA X [a, b] ta) (hs : starEach [a, b] X.env = [(false, eval a X.env), (false, eval b X.env)] := by rfl) (hs2 : starEach [b] X.env = [(false, eval b X.env)] := by rfl) :
  PI X tg (.Call (.Name "range" p) [a, b] [] pos) (iRng2 ta) := by
 intro pins s σ H R I h
 refine Call_ (ld_blt I hg hm boot_range (PyProof.Rows.callWith_type1 (thn (ha pos pins s σ H _ I h) fun us s1 ⟨vs, H1, I1, r1, q1⟩ => ?_) (by rw [hs, hs2]) (by rw [hs2]; rfl)))
 obtain ⟨i, j, e, ⟨q1, q2, q3, q4⟩, q⟩ := q1
 subst e
 cases r1 with
 | cons r rr =>
  cases rr with
  | cons r' rr =>
   cases rr
   obtain ⟨t, rfl⟩ := r
   obtain ⟨t', rfl⟩ := r'
   exact call_range_2 (range_it I1 q1 q2 q3 q4 q)
def tFor (wi : TI) (g : TG) (tb : TS) : TS := fun D σ H => wi σ H fun J H1 => ∃ W : Nat → Nat → St → Hp → Prop, (∃ m, W 0 m σ H1) ∧ ∀ i m σ H, W i m σ H →
 (J.stop i H ∧ D.nx σ H) ∨ (J.go i H ∧ ∃ N : St → Hp → Prop, (∀ σ' H', N σ' H' → ∃ m', m' < m ∧ W (i + 1) m' σ' H') ∧ ∀ x H', J.yld i H x H' → g x σ H' fun σ2 H2 => tb { D with nx := N, ct := N, bk := D.nx } σ2 H2)
def pinsAt (fp : List Addr) (h : Heap) : List (Addr × Obj) := fp.filterMap fun b => (h.get? b).map fun o => (b, o)
theorem mem_pinsAt {fp : List Addr} {h : Heap} {b : Addr} {o : Obj} (hb : b ∈ fp) (e : h.get? b = some o) : (b, o) ∈ pinsAt fp h := List.mem_filterMap.mpr ⟨b, hb, by rw [e]; rfl⟩
theorem of_pinsAt {fp : List Addr} {h : Heap} {p : Addr × Obj} (hp : p ∈ pinsAt fp h) : p.1 ∈ fp ∧ h.get? p.1 = some p.2 := by
 obtain ⟨b, hb, e⟩ := List.mem_filterMap.mp hp
 cases q : h.get? b with
 | none => rw [q] at e; cases e
 | some o =>
  rw [q] at e
  have e' : (b, o) = p := Option.some.inj e
  subst e'
  exact ⟨hb, q⟩
theorem Inv.pinned {pins : List (Addr × Obj)} {σ : St} {H : Hp} {s : Shared} {fp : List Addr} (I : Inv X pins σ H s) (hf : ∀ b ∈ fp, FpOk X pins H b) (ho : ∀ b ∈ fp, ∃ o, s.heap.get? b = some o ∧ ∀ v, o.data ≠ .cell v) : Inv X (pins ++ pinsAt fp s.heap) σ H s :=
 I.pins_of fun p hp => (List.mem_append.mp hp).elim (fun z => I.pin p (List.mem_append_right _ z)) fun z => by
  obtain ⟨hb, e⟩ := of_pinsAt z
  obtain ⟨f0, f1, f2, _⟩ := hf p.1 hb
  obtain ⟨o, e', d⟩ := ho p.1 hb
  rw [e] at e'; cases e'
  exact ⟨e, f0, f1, f2, d⟩
theorem Inv.unpinned {pins pl : List (Addr × Obj)} {σ : St} {H : Hp} {s : Shared} (I : Inv X (pins ++ pl) σ H s) : Inv X pins σ H s := I.pins_of fun p hp => I.pin p (List.mem_append_right _ (List.mem_append_left _ hp))
theorem ps_for {iter : Expr} {body : List Stmt} {wi : TI} {g : TG} {tb : TS} {pos : Pos} (hp : PassesOwn (model X.prog X.w) X.A X.env X.xe) (hc : X.calm = true) (hi : PI X tg iter wi) (hg : PG X tg g) (hb : PSs X body tb)
  (hs : ∀ x, foldedSetIterable iter X.env x = pure x := by intro _; rfl) : PS X (.For tg iter body [] pos) (tFor wi g tb) := by
 intro pins s σ H D I h
 refine wpAny_For (thn (hi pins s σ H _ I h) fun v s1 h1 => thn h1 fun itv s2 h2 => ?_) hs
 obtain ⟨it, fp, tn, J, H2, e, I2, T, st2, f2, W, ⟨m0, w0⟩, turn⟩ := h2
 subst e
 have stat : ∀ {H' : Hp}, (∀ b ∈ fp, H' b = none) → ∀ b ∈ fp, FpOk X pins H' b := fun hn b hb => ⟨hn b hb, (f2 b hb).2⟩
 refine codeAny_forLoop_any (fun n s' => ∃ i σ' H', Inv X pins σ' H' s' ∧ tn i s'.heap ∧ (∀ b ∈ fp, H' b = none) ∧ W i n σ' H') ?_ m0 ⟨0, σ, H2, I2, st2, fun b hb => (f2 b hb).1, w0⟩
 rintro n s3 ⟨i, σ3, H3, I3, st3, fr3, w3⟩
 rcases turn i n σ3 H3 w3 with ⟨stop, qn⟩ | ⟨go, N, hN, step⟩
 ·refine wpAny_passesOwn hp (thn (T.done X rfl rfl rfl hc i pins s3 σ3 H3 X.xe I3 (stat fr3) st3 stop) fun r s4 ⟨hr, I4⟩ => ?_)
  subst hr
  exact wpAny_execs_nil ⟨σ3, H3, I4, qn⟩
 ·refine wpAny_passesOwn hp (thn (T.item X rfl rfl rfl hc i pins s3 σ3 H3 X.xe I3 (stat fr3) st3 go) fun r s4 ⟨u, hr, h4⟩ => ?_)
  subst hr
  refine wpAny_passesOwn hp (thn h4 fun _ s5 ⟨x, H5, I5, r5, y5, st5, fr5⟩ => ?_)
  have I5' := I5.pinned (stat fr5) (T.obj _ _ st5)
  refine wpAny_passesOwn hp (thn (hg _ s5 σ3 H5 x u _ I5' r5 (step x H5 y5)) fun _ s6 ⟨σ6, H6, I6, q6⟩ => ?_)
  refine wpAny_passesOwn hp (thn (hb _ s6 σ6 H6 _ I6 q6) fun f s7 q7 => ?_)
  have again : ∀ {σ7 : St} {H7 : Hp}, Inv X (pins ++ pinsAt fp s5.heap) σ7 H7 s7 → N σ7 H7 → ∃ m, m < n ∧ ∃ i σ' H', Inv X pins σ' H' s7 ∧ tn i s7.heap ∧ (∀ b ∈ fp, H' b = none) ∧ W i m σ' H' := fun {σ7 H7} I7 n7 => by
   obtain ⟨m', hm, w7⟩ := hN σ7 H7 n7
   refine ⟨m', hm, i + 1, σ7, H7, I7.unpinned, T.keep _ _ _ st5 fun b hb o e => (I7.pin (b, o) (List.mem_append_right _ (List.mem_append_right _ (mem_pinsAt hb e)))).1, fun b hb => ?_, w7⟩
   obtain ⟨o, e, d⟩ := T.obj _ _ st5 b hb
   exact (I7.pin (b, o) (List.mem_append_right _ (List.mem_append_right _ (mem_pinsAt hb e)))).2.1
  cases f with
  | next => obtain ⟨σ7, H7, I7, n7⟩ := q7; exact again I7 n7
  | cont => obtain ⟨σ7, H7, I7, n7⟩ := q7; exact again I7 n7
  | brk => obtain ⟨σ7, H7, I7, q7⟩ := q7; exact ⟨σ7, H7, I7.unpinned, q7⟩
  | ret v => obtain ⟨x7, σ7, H7, I7, r7, q7⟩ := q7; exact ⟨x7, σ7, H7, I7.unpinned, r7, q7⟩
end
end L2
namespace L2
open PySem PySem.Spec PyProof.Rows
abbrev R2 := V → V → Hp → VK → Prop
def OpR (X : Cx) (f : Value → Value → Sem Value) (r : R2) : Prop :=
 ∀ (pins : List (Addr × Obj)) (s : Shared) (σ : St) (H : Hp) (x y : V) (v u : Value) (Q : VK), Inv X pins σ H s → RelV x v → RelV y u → r x y H Q →
  wpAny (model X.prog X.w) X.A (f v u) (EP X pins σ Q) X.xe s
def UnR (X : Cx) (f : Value → Sem Value) (r : V → Hp → VK → Prop) : Prop :=
 ∀ (pins : List (Addr × Obj)) (s : Shared) (σ : St) (H : Hp) (x : V) (v : Value) (Q : VK), Inv X pins σ H s → RelV x v → r x H Q →
  wpAny (model X.prog X.w) X.A (f v) (EP X pins σ Q) X.xe s
def CallR (X : Cx) (f : Value) (r : List V → Hp → VK → Prop) : Prop :=
 ∀ (pins : List (Addr × Obj)) (s : Shared) (σ : St) (H : Hp) (xs : List V) (us : List Value) (Q : VK), Inv X pins σ H s → Vals xs us → r xs H Q →
  wpAny (model X.prog X.w) X.A (call f us) (EP X pins σ Q) X.xe s
def tOp (r : R2) (ta tb : TE) : TE := fun σ H Q => ta σ H fun x H1 => tb σ H1 fun y H2 => r x y H2 Q
def tUn (r : V → Hp → VK → Prop) (ta : TE) : TE := fun σ H Q => ta σ H fun x H1 => r x H1 Q
def rI (C : Int → Int → Prop) (g : Int → Int → V) : R2 := fun x y H Q => ∃ i j, x = .int i ∧ y = .int j ∧ C i j ∧ Q (g i j) H
def rI0 (g : Int → Int → V) : R2 := fun x y H Q => ∃ i j, x = .int i ∧ y = .int j ∧ Q (g i j) H
def rU (g : Int → V) : V → Hp → VK → Prop := fun x H Q => ∃ i, x = .int i ∧ Q (g i) H
section
variable {X : Cx} {a b c : Expr} {ta tb tc : TE} {pos : Pos}
theorem binT (ha : PE X a ta) (hb : PE X b tb) {pins : List (Addr × Obj)} {s : Shared} {σ : St} {H : Hp} {R : V → V → Hp → Prop} (I : Inv X pins σ H s)
  (h : ta σ H fun x H1 => tb σ H1 fun y H2 => R x y H2) {Q : Value → Shared → Prop} {f : Value → Value → Sem Value}
  (hf : ∀ v u s2 x y H2, Inv X pins σ H2 s2 → RelV x v → RelV y u → R x y H2 → wpAny (model X.prog X.w) X.A (f v u) Q X.xe s2) :
  wpAny (model X.prog X.w) X.A (eval a X.env) (fun v s₁ => wpAny (model X.prog X.w) X.A (eval b X.env) (fun u s₂ => wpAny (model X.prog X.w) X.A (f v u) Q X.xe s₂) X.xe s₁) X.xe s := by
 refine thn (ha pins s σ H _ I h) fun v s1 ⟨x, H1, I1, r1, q1⟩ => ?_
 refine thn (hb pins s1 σ H1 _ I1 q1) fun u s2 ⟨y, H2, I2, r2, q2⟩ => ?_
 exact hf v u s2 x y H2 I2 r1 r2 q2
theorem pe_op {op : Operator} {r : R2} (ho : OpR X (binaryOp op) r) (ha : PE X a ta) (hb : PE X b tb) : PE X (.BinOp a op b pos) (tOp r ta tb) := by
 intro pins s σ H Q I h
 exact wpAny_BinOp (binT ha hb I h fun v u s2 x y H2 I2 rx ry q => ho pins s2 σ H2 x y v u Q I2 rx ry q)
theorem pe_un {op : UnaryOp} {r : V → Hp → VK → Prop} (ho : UnR X (unaryOp op) r) (ha : PE X a ta) : PE X (.UnaryOp op a pos) (tUn r ta) := by
 intro pins s σ H Q I h
 exact UnaryOp_ (thn (ha pins s σ H _ I h) fun v s1 ⟨x, H1, I1, r1, q1⟩ => ho pins s1 σ H1 x v Q I1 r1 q1)
theorem opI {f : Value → Value → Sem Value} {C : Int → Int → Prop} {g : Int → Int → Int}
  (rule : ∀ (i j : Int) (t u : Tok) (s : Shared) (Q : Value → Shared → Prop) (E : Value → Shared → Prop), C i j → Q (.int (g i j) s.toks) { s with toks := s.toks + 1 } → wpAny (model X.prog X.w) X.A (f (.int i t) (.int j u)) Q E s) :
  OpR X f (rI C fun i j => .int (g i j)) := by
 intro pins s σ H x y v u Q I rx ry h
 obtain ⟨i, j, rfl, rfl, hc, q⟩ := h
 obtain ⟨t, rfl⟩ := rx
 obtain ⟨t', rfl⟩ := ry
 exact rule i j t t' s _ _ hc ⟨.int (g i j), H, I.tok _, ⟨_, rfl⟩, q⟩
theorem opI0 {f : Value → Value → Sem Value} {g : Int → Int → Int}
  (rule : ∀ (i j : Int) (t u : Tok) (s : Shared) (Q : Value → Shared → Prop) (E : Value → Shared → Prop), Q (.int (g i j) s.toks) { s with toks := s.toks + 1 } → wpAny (model X.prog X.w) X.A (f (.int i t) (.int j u)) Q E s) :
  OpR X f (rI0 fun i j => .int (g i j)) := by
 intro pins s σ H x y v u Q I rx ry h
 obtain ⟨i, j, rfl, rfl, q⟩ := h
 obtain ⟨t, rfl⟩ := rx
 obtain ⟨t', rfl⟩ := ry
 exact rule i j t t' s _ _ ⟨.int (g i j), H, I.tok _, ⟨_, rfl⟩, q⟩
theorem opB0 {f : Value → Value → Sem Value} {g : Int → Int → Bool}
  (rule : ∀ (i j : Int) (t u : Tok) (s : Shared) (Q : Value → Shared → Prop) (E : Value → Shared → Prop), Q (.bool (g i j)) s → wpAny (model X.prog X.w) X.A (f (.int i t) (.int j u)) Q E s) :
  OpR X f (rI0 fun i j => .bl (g i j)) := by
 intro pins s σ H x y v u Q I rx ry h
 obtain ⟨i, j, rfl, rfl, q⟩ := h
 obtain ⟨t, rfl⟩ := rx
 obtain ⟨t', rfl⟩ := ry
 exact rule i j t t' s _ _ ⟨.bl (g i j), H, I, rfl, q⟩
def CDiv (i j : Int) : Prop := 0 < j ∧ j < 1073741824
def CPow (i j : Int) : Prop := 0 ≤ j ∧ j ≤ 1000000 ∧ i.natAbs < 2 ^ 64
def CMul (i j : Int) : Prop := (-(2 ^ 64) < i ∧ i < 2 ^ 64) ∨ (-(2 ^ 64) < j ∧ j < 2 ^ 64)
theorem CMul.ok {i j : Int} (h : CMul i j) : IntMulOk i j := by
 rcases h with ⟨h1, h2⟩ | ⟨h1, h2⟩
 ·exact .of_left (intBits_le_64 h1 h2)
 ·exact .of_right (intBits_le_64 h1 h2)
theorem op_add : OpR X (binaryOp .Add) (rI0 fun i j => .int (i + j)) := opI0 fun _ _ _ _ _ _ _ q => add_int q
theorem op_sub : OpR X (binaryOp .Sub) (rI0 fun i j => .int (i - j)) := opI0 fun _ _ _ _ _ _ _ q => sub_int q
theorem op_mul : OpR X (binaryOp .Mult) (rI CMul fun i j => .int (i * j)) := opI fun _ _ _ _ _ _ _ hc q => mul_int q hc.ok
theorem op_fdiv : OpR X (binaryOp .FloorDiv) (rI CDiv fun i j => .int (i / j)) := opI fun i j _ _ _ _ _ hc q => by
 have h1 : (0 : Int) < j := hc.1
 have h2 : j < 1073741824 := hc.2
 exact floordiv_int (by omega) (by rw [Int.fdiv_eq_ediv_of_nonneg i (by omega)]; exact q) (.inl (PyProof.noPylong_small (by omega)))
theorem op_mod : OpR X (binaryOp .Mod) (rI (fun _ j => 0 < j) fun i j => .int (i % j)) := opI fun i j _ _ _ _ _ hc q => by
 have h1 : (0 : Int) < j := hc
 exact mod_int' (by omega) (by rw [Int.fmod_eq_emod_of_nonneg i (by omega)]; exact q)
theorem op_pow : OpR X (binaryOp .Pow) (rI CPow fun i j => .int (i ^ j.toNat)) := opI fun _ _ _ _ _ _ _ hc q => pow_int_small hc.1 hc.2.1 hc.2.2 q
theorem unI {f : Value → Sem Value} {g : Int → Int}
  (rule : ∀ (i : Int) (t : Tok) (s : Shared) (Q : Value → Shared → Prop) (E : Value → Shared → Prop), Q (.int (g i) s.toks) { s with toks := s.toks + 1 } → wpAny (model X.prog X.w) X.A (f (.int i t)) Q E s) :
  UnR X f (rU fun i => .int (g i)) := by
 intro pins s σ H x v Q I rx h
 obtain ⟨i, rfl, q⟩ := h
 obtain ⟨t, rfl⟩ := rx
 exact rule i t s _ _ ⟨.int (g i), H, I.tok _, ⟨_, rfl⟩, q⟩
theorem un_neg : UnR X (unaryOp .USub) (rU fun i => .int (-i)) := unI fun _ _ _ _ _ q => neg_int q
end
section
variable {X : Cx} {a b c : Expr} {ta tb tc : TE} {pos : Pos}
theorem fin_bl {pins : List (Addr × Obj)} {σ : St} {H : Hp} {s : Shared} {Q : VK} {k k' : Bool} (I : Inv X pins σ H s) (q : Q (.bl k) H) (e : k = k') : EP X pins σ Q (.bool k') s := by
 subst e
 exact ⟨.bl k, H, I, rfl, q⟩
theorem op_lt : OpR X (compareOp .Lt) (rI0 fun i j => .bl (decide (i < j))) := opB0 fun _ _ _ _ _ _ _ q => lt_int q
theorem op_le : OpR X (compareOp .LtE) (rI0 fun i j => .bl (decide (i ≤ j))) := opB0 fun _ _ _ _ _ _ _ q => le_int q
theorem op_gt : OpR X (compareOp .Gt) (rI0 fun i j => .bl (decide (j < i))) := opB0 fun _ _ _ _ _ _ _ q => gt_int q
theorem op_ge : OpR X (compareOp .GtE) (rI0 fun i j => .bl (decide (j ≤ i))) := opB0 fun _ _ _ _ _ _ _ q => ge_int q
theorem op_lt_str : OpR X (compareOp .Lt) (fun x y H Q => ∃ i j, x = .str i ∧ y = .str j ∧ Q (.bl (decide (i.cps.toList < j.cps.toList))) H) := by
 intro pins s σ H x y v u Q I rx ry h
 obtain ⟨i, j, rfl, rfl, q⟩ := h
 obtain ⟨t, rfl⟩ := rx
 obtain ⟨t', rfl⟩ := ry
 exact lt_str (fin_bl I q rfl)
theorem op_in_str : OpR X (compareOp .In) (fun x y H Q => ∃ i j, x = .str i ∧ y = .str j ∧ Q (.bl (!(Builtin.Str.occurrences j i 0 j.length 1).isEmpty)) H) := by
 intro pins s σ H x y v u Q I rx ry h
 obtain ⟨i, j, rfl, rfl, q⟩ := h
 obtain ⟨t, rfl⟩ := rx
 obtain ⟨t', rfl⟩ := ry
 exact in_str (fin_bl I q rfl)
theorem pe_cmpR {op : CmpOp} {r : R2} (ho : OpR X (compareOp op) r) (ha : PE X a ta) (hb : PE X b tb) (hm : behindInMarks op b = false) : PE X (.Compare a [op] [b] pos) (tOp r ta tb) := by
 intro pins s σ H Q I h
 exact wpAny_Compare1 (binT ha hb I h fun v u s2 x y H2 I2 rx ry q => ho pins s2 σ H2 x y v u Q I2 rx ry q) hm
def tTest (t : TE) : TT := fun σ H Q => t σ H fun x H' => ∃ k, x = .bl k ∧ Q k H'
theorem pt_cmpR {op : CmpOp} {r : R2} (ho : OpR X (compareOp op) r) (ha : PE X a ta) (hb : PE X b tb) (hm : behindInMarks op b = false) : PT X (.Compare a [op] [b] pos) (tTest (tOp r ta tb)) := by
 intro pins s σ H Q I h
 refine wpAny_isTrue_Compare1 (thn (ha pins s σ H _ I h) fun v s1 ⟨x, H1, I1, r1, q1⟩ => thn (hb pins s1 σ H1 _ I1 q1) fun u s2 ⟨y, H2, I2, r2, q2⟩ =>
  thn (ho pins s2 σ H2 x y v u _ I2 r1 r2 q2) fun c s3 ⟨z, H3, I3, r3, k, e, q3⟩ => ?_) hm
 subst e
 cases r3
 exact wpAny_truthy_bool ⟨H3, I3, q3⟩
def tChain (r r' : R2) (ta tb tc : TE) : TE := fun σ H Q => ta σ H fun x H1 => tb σ H1 fun y H2 => r x y H2 fun z H3 => ∃ k, z = .bl k ∧
 (if k = true then tc σ H3 fun w' H4 => r' y w' H4 Q else Q (.bl false) H3)
theorem pe_chain {op op' : CmpOp} {r r' : R2} (ho : OpR X (compareOp op) r) (ho' : OpR X (compareOp op') r') (ha : PE X a ta) (hb : PE X b tb) (hc : PE X c tc)
  (hm : lastMarks [op, op'] [b, c] = false := by with_unfolding_all rfl) : PE X (.Compare a [op, op'] [b, c] pos) (tChain r r' ta tb tc) := by
 intro pins s σ H Q I h
 refine Compare_chain (thn (ha pins s σ H _ I h) fun v s1 ⟨x, H1, I1, r1, q1⟩ => chain_link (thn (hb pins s1 σ H1 _ I1 q1) fun u s2 ⟨y, H2, I2, r2, q2⟩ =>
  thn (ho pins s2 σ H2 x y v u _ I2 r1 r2 q2) fun d s3 ⟨z, H3, I3, r3, k, e, q3⟩ => ?_)) hm
 subst e
 cases r3
 refine wpAny_truthy_bool ?_
 cases k with
 | false => exact ite_ff ⟨.bl false, H3, I3, rfl, q3⟩
 | true => exact ite_tt (chain_last (thn (hc pins s3 σ H3 _ I3 q3) fun w' s4 ⟨z', H4, I4, r4, q4⟩ => ho' pins s4 σ H4 y z' u w' Q I4 r2 r4 q4))
theorem pt_chain {op op' : CmpOp} {r r' : R2} (ho : OpR X (compareOp op) r) (ho' : OpR X (compareOp op') r') (ha : PE X a ta) (hb : PE X b tb) (hc : PE X c tc)
  (hm : lastMarks [op, op'] [b, c] = false := by with_unfolding_all rfl) : PT X (.Compare a [op, op'] [b, c] pos) (tTest (tChain r r' ta tb tc)) := by
 intro pins s σ H Q I h
 refine isTrue_chain (thn (ha pins s σ H _ I h) fun v s1 ⟨x, H1, I1, r1, q1⟩ => test_link (thn (hb pins s1 σ H1 _ I1 q1) fun u s2 ⟨y, H2, I2, r2, q2⟩ =>
  thn (ho pins s2 σ H2 x y v u _ I2 r1 r2 q2) fun d s3 ⟨z, H3, I3, r3, k, e, q3⟩ => ?_)) hm
 subst e
 cases r3
 refine wpAny_truthy_bool ?_
 cases k with
 | false =>
  obtain ⟨k', e', q'⟩ := q3
  cases e'
  exact ite_ff ⟨H3, I3, q'⟩
 | true =>
  refine ite_tt (test_last (thn (hc pins s3 σ H3 _ I3 q3) fun w' s4 ⟨z', H4, I4, r4, q4⟩ => thn (ho' pins s4 σ H4 y z' u w' _ I4 r2 r4 q4) fun d' s5 ⟨z2, H5, I5, r5, k2, e2, q5⟩ => ?_))
  subst e2
  cases r5
  exact wpAny_truthy_bool ⟨H5, I5, q5⟩
theorem line63 : (sizeLine : Nat) < 2 ^ 63 := by rw [sizeLine_eq]; decide
theorem op_add_str : OpR X (binaryOp .Add) (fun x y H Q => ∃ i j, x = .str i ∧ y = .str j ∧ i.length + j.length ≤ sizeLine ∧ Q (.str (i ++ j)) H) := by
 intro pins s σ H x y v u Q I rx ry h
 obtain ⟨i, j, rfl, rfl, hz, q⟩ := h
 obtain ⟨t, rfl⟩ := rx
 obtain ⟨t', rfl⟩ := ry
 exact add_str (fun t' tk => ⟨.str (i ++ j), H, I.tok _, ⟨_, rfl⟩, q⟩) hz
theorem vals1 {x : V} {us : List Value} (r : Vals [x] us) : ∃ u, us = [u] ∧ RelV x u := by
 cases r with
 | cons r1 r2 => cases r2; exact ⟨_, rfl, r1⟩
theorem vals2 {x y : V} {us : List Value} (r : Vals [x, y] us) : ∃ u w', us = [u, w'] ∧ RelV x u ∧ RelV y w' := by
 cases r with
 | cons r1 r2 =>
  cases r2 with
  | cons r3 r4 => cases r4; exact ⟨_, _, rfl, r1, r3⟩
theorem call_abs : CallR X (.builtin "abs") (fun xs H Q => ∃ i, xs = [.int i] ∧ Q (.int (if i < 0 then -i else i)) H) := by
 intro pins s σ H xs us Q I r h
 obtain ⟨i, rfl, q⟩ := h
 obtain ⟨u, rfl, t, rfl⟩ := vals1 r
 exact call_abs_int fun u tk => ⟨.int (if i < 0 then -i else i), H, I.tok _, ⟨_, rfl⟩, q⟩
theorem call_max2 (hc : X.calm = true) : CallR X (.builtin "max") (fun xs H Q => ∃ i j, xs = [.int i, .int j] ∧ Q (.int (if j > i then j else i)) H) := by
 intro pins s σ H xs us Q I r h
 obtain ⟨i, j, rfl, q⟩ := h
 obtain ⟨u, w', rfl, ⟨t, rfl⟩, ⟨t', rfl⟩⟩ := vals2 r
 refine max_two_ints (I.ok.hd hc) fun h' tk k => ⟨_, H, I.kept k, ?_, q⟩
 by_cases hj : j > i
 ·rw [if_pos hj, if_pos hj]; exact ⟨_, rfl⟩
 ·rw [if_neg hj, if_neg hj]; exact ⟨_, rfl⟩
theorem call_int1 : CallR X (.type "int") (fun xs H Q => (∃ i, xs = [.int i] ∧ Q (.int i) H) ∨ ∃ k, xs = [.bl k] ∧ Q (.int (if k then 1 else 0)) H) := by
 intro pins s σ H xs us Q I r h
 rcases h with ⟨i, rfl, q⟩ | ⟨k, rfl, q⟩
 ·obtain ⟨u, rfl, t, rfl⟩ := vals1 r
  exact call_int_int ⟨.int i, H, I, ⟨_, rfl⟩, q⟩
 ·obtain ⟨u, rfl, r1⟩ := vals1 r
  cases r1
  exact call_int_bool ⟨.int (if k then 1 else 0), H, I.tok _, ⟨_, rfl⟩, q⟩
end
end L2
namespace L2
open PySem PySem.Spec PyProof.Rows
section
variable {prog : Program} {w : World} {A : Around} {E : Value → Shared → Prop} {s : Shared} {K : PySem.W.Frag} {x dx C f : Addr} {mA : Str → Option Value} {name : Str} {v : Value}
end
theorem RelO.some_of {v : V} {o : Option Value} (r : RelO (some v) o) : ∃ u, o = some u ∧ RelV v u := by
 cases o with
 | none => exact (show False from r).elim
 | some u => exact ⟨u, rfl, r⟩
section
variable {P : Program} {w : World} {H H' : Hp} {h h' : Heap} {a C dx : Addr} {fs fs' : List (Str × V)}
end
section
variable {X : Cx} {pins : List (Addr × Obj)} {σ : St} {H : Hp} {s : Shared} {a C dx : Addr} {fs : List (Str × V)} {f : Str} {v : V} {A : Around} {E : Value → Shared → Prop}
end
section
variable {X : Cx} {o e value : Expr} {f : Str} {pos pos' tpos : Pos} {ta tv : TE}
end
section
variable {X : Cx} {pins : List (Addr × Obj)} {σ : St} {H : Hp} {s : Shared} {A : Around} {E : Value → Shared → Prop} {Q : Value → Shared → Prop} {c : Value} {b : Bool}
end
end L2
namespace L2
open PySem PySem.Spec PyProof.Rows
structure Room (k : Nat) (A : Around) : Prop where
 hd : A.handled = none
 dp : A.depth + 3 * k + 5 < recursionLimit
 un : A.units + 16 * k + 200 < cLine
theorem Room.mono {j k : Nat} {A : Around} (r : Room k A) (h : j ≤ k) : Room j A := ⟨r.hd, by have := r.dp; omega, by have := r.un; omega⟩
theorem Room.deeper {k : Nat} {A : Around} (r : Room (k + 1) A) (env : Env) : Room k (A.deeper env) :=
 ⟨r.hd, by have := r.dp; show A.depth + 1 + 3 * k + 5 < _; omega, by have := r.un; show A.units + 3 + 16 * k + 200 < _; omega⟩
theorem Room.depth {k : Nat} {A : Around} (r : Room k A) : A.depth < recursionLimit := by have := r.dp; omega
def tNil : TA := fun _ H Q => Q [] H
def tCons (ta : TE) (tr : TA) : TA := fun σ H Q => ta σ H fun x H1 => tr σ H1 fun xs H2 => Q (x :: xs) H2
section
variable {X : Cx} {e : Expr} {es : List Expr} {te : TE} {t : TA} {pos : Pos}
theorem pa_nil : PA X [] tNil := fun _ _ _ _ H Q I h => Calls.spliced_nil ⟨[], H, I, .nil, h⟩
theorem pa_cons (ha : PE X e te) (hr : PA X es t) (hs : starEach (e :: es) X.env = (false, eval e X.env) :: starEach es X.env := by rfl) : PA X (e :: es) (tCons te t) := by
 intro pos pins s σ H Q I h
 rw [hs]
 show wpAny _ _ (spliced ((false, eval e X.env) :: backTo pos (starEach es X.env))) _ _ s
 refine Calls.spliced_cons (thn (ha pins s σ H _ I h) fun u s1 ⟨x, H1, I1, r1, q1⟩ => ?_)
 exact thn (hr pos pins s1 σ H1 _ I1 q1) fun us s2 ⟨xs, H2, I2, r2, q2⟩ => ⟨x :: xs, H2, I2, .cons r1 r2, q2⟩
def tTup (t : TA) : TE := fun σ H Q => t σ H fun xs H1 => xs.length ≤ sizeLine ∧ ∀ p, H1 p = none → Q (.ref p) (upd H1 p (.tup xs))
def tLst (t : TA) : TE := fun σ H Q => t σ H fun xs H1 => xs.length ≤ sizeLine ∧ ∀ p, H1 p = none → Q (.ref p) (upd H1 p (.lst xs))
theorem pe_tup {x1} (h : PA X es t) : PE X (.Tuple es x1 pos) (tTup t) := by
 intro pins s σ H Q I hq
 refine wpAny_Tuple_spliced (thn (h pos pins s σ H _ I hq) fun us s1 ⟨xs, H1, I1, r, z, q⟩ => ⟨by rw [← r.length]; exact z, ?_⟩)
 have hf : H1 s1.heap.objs.size = none := I1.hok.fresh (Nat.le_refl _)
 refine ⟨.ref s1.heap.objs.size, upd H1 s1.heap.objs.size (.tup xs), I1.laid (t' := s1.toks) (fun b u e => Heap.get?_push_of_some _ e) (Nat.le_refl _) ?_, rfl, q _ hf⟩
 exact ⟨z, us, r, ⟨_, Heap.get?_push_size _ rfl, rfl, _, rfl⟩⟩
theorem pe_lst (h : PA X es t) : PE X (.List es pos) (tLst t) := by
 intro pins s σ H Q I hq
 refine wpAny_List_spliced (thn (h pos pins s σ H _ I hq) fun us s1 ⟨xs, H1, I1, r, z, q⟩ => ⟨by rw [← r.length]; exact z, ?_⟩)
 have hf : H1 s1.heap.objs.size = none := I1.hok.fresh (Nat.le_refl _)
 refine ⟨.ref s1.heap.objs.size, upd H1 s1.heap.objs.size (.lst xs), I1.laid (t' := s1.toks) (fun b u e => Heap.get?_push_of_some _ e) (Nat.le_refl _) ?_, rfl, q _ hf⟩
 exact ⟨z, us, 0, r, Heap.get?_push_size _ rfl⟩
end
abbrev Sp := List V → Hp → VK → XK → Prop
abbrev CXT := List Env → Hp → Shared → XK → Value → Shared → Prop
structure Env0 (P : Program) (w : World) (K : PySem.W.Frag) (mg : Str → Option Value) (base : Heap) (A : Around) (outer : List Env) (s : Shared) (H : Hp) : Prop where
 frames : A.frames = some outer
 mod : Mod K mg base
 bs : ∀ b o, base.get? b = some o → s.heap.get? b = some o ∧ H b = none
 bsz : base.objs.size ≤ s.heap.objs.size
 funs : s.heap.FunFrames base outer
 frf : ∀ b ∈ frs outer, H b = none
 hok : HOk P w H s.heap
 bare : AllBare s.gens
def CE (outer : List Env) (P : Program) (w : World) (H : Hp) (s : Shared) (Q : VK) (u : Value) (s' : Shared) : Prop :=
 ∃ v H', s'.os = s.os ∧ AllBare s'.gens ∧ Un (frs outer) [] H H' s.heap s'.heap ∧ HOk P w H' s'.heap ∧ RelV v u ∧ Q v H'
def CR (CX : CXT) (outer : List Env) (P : Program) (w : World) (H : Hp) (s : Shared) (Q : VK) (E : XK) (r : Result) (s' : Shared) : Prop :=
 match r with
 | .ok (.ret u) => CE outer P w H s Q u s'
 | .ok _ => False
 | .error e => CX outer H s E e s'
structure FnOk (P : Program) (w : World) (K : PySem.W.Frag) (mg : Str → Option Value) (base : Heap) (CX : CXT) (k : Nat) (f : Addr) (fd : FuncData) (ps : List Str) (sp : Sp) : Prop where
 len : ∀ vs H Q E, sp vs H Q E → vs.length = ps.length
 run : ∀ (A : Around) (outer : List Env) (s : Shared) (H : Hp) (args : Args) (us : List Value) (vs : List V) (Q : VK) (E : XK), Room k A → Env0 P w K mg base A outer s H → BindsTo s fd args (ps.zip us) → Vals vs us → sp vs H Q E →
  codeAny (model P w) A (.call (.ref f) args) (CR CX outer P w H s Q E) s
theorem FnOk.mono {P : Program} {w : World} {K : PySem.W.Frag} {mg : Str → Option Value} {base : Heap} {CX : CXT} {j k : Nat} {f : Addr} {fd : FuncData} {ps : List Str} {sp : Sp} (F : FnOk P w K mg base CX j f fd ps sp) (h : j ≤ k) :
  FnOk P w K mg base CX k f fd ps sp := ⟨F.len, fun A outer s H args us vs Q E hr => F.run A outer s H args us vs Q E (hr.mono h)⟩
section
variable {X : Cx} {pins : List (Addr × Obj)} {σ : St} {H : Hp} {s s' : Shared}
theorem Inv.env0 (I : Inv X pins σ H s) : Env0 X.prog X.w X.K X.mg X.base X.A X.stack s H :=
 ⟨I.ok.frames, I.ok.mod, I.bs, Nat.le_trans I.ok.bsz I.sz, I.stack, I.stkFree, I.hok, I.bare⟩
theorem Inv.after {Q : VK} {u : Value} (I : Inv X pins σ H s) (h : CE X.stack X.prog X.w H s Q u s') : EP X pins σ Q u s' := by
 obtain ⟨v, H', os, bare, un, hok, r, q⟩ := h
 obtain ⟨hh, g, d, t, os'⟩ := s'
 obtain rfl : os' = s.os := os
 exact ⟨v, H', I.call (h' := hh) (g' := g) (d' := d) (t' := t) (ch := []) un hok bare (fun b z => absurd z (by simp)), r, q⟩
end
def tCall (sp : Sp) (dvs : List V) (E : XK) (t : TA) : TE := fun σ H Q => t σ H fun vs H1 => sp (vs ++ dvs) H1 Q E
def Binds (K : PySem.W.Frag) (fd : FuncData) (ps : List Str) (ds : List Value) : Prop :=
 ∀ (s : Shared) (us : List Value), K.In s.heap → (us ++ ds).length = ps.length → BindsTo s fd ⟨us, []⟩ (ps.zip (us ++ ds))
theorem Binds.all {K : PySem.W.Frag} {fd : FuncData} {ps : List Str} (h : ∀ us : List Value, us.length = ps.length → bindArgs fd ⟨us, []⟩ = pure (ps.zip us)) : Binds K fd ps [] := fun s us _ hl => by
 rw [List.append_nil] at hl ⊢
 exact .of_eq (h us hl)
def Passes (CX : CXT) (X : Cx) (E : XK) : Prop := ∀ (pins : List (Addr × Obj)) (σ : St) (H : Hp) (s : Shared) (e : Value) (s' : Shared), Inv X pins σ H s → CX X.stack H s E e s' → X.xe e s'
section
variable {X : Cx} {CX : CXT} {k : Nat} {f C : Addr} {fd : FuncData} {ps : List Str} {sp : Sp} {dvs : List V} {ds : List Value} {E : XK} {x m : Str} {p pos apos : Pos} {e o : Expr} {es : List Expr} {ta : TE} {t : TA}
theorem run_fn {pins : List (Addr × Obj)} {σ : St} {H : Hp} {s : Shared} {Q : VK} {us : List Value} {vs : List V} (F : FnOk X.prog X.w X.K X.mg X.base CX k f fd ps sp) (hr : Room k X.A) (hb : Binds X.K fd ps ds) (hd : Vals dvs ds) (hx : Passes CX X E)
  (I : Inv X pins σ H s) (r : Vals vs us) (h : sp (vs ++ dvs) H Q E) : wpAny (model X.prog X.w) X.A (call (.ref f) us) (EP X pins σ Q) X.xe s := by
 have r2 : Vals (vs ++ dvs) (us ++ ds) := r.append hd
 have hl : (us ++ ds).length = ps.length := by rw [← r2.length]; exact F.len _ _ _ _ h
 refine wpAny_call (codeAny_mono (F.run X.A X.stack s H ⟨us, []⟩ (us ++ ds) (vs ++ dvs) Q E hr I.env0 (hb s us I.kIn hl) r2 h) fun r s' hq => ?_)
 cases r with
 | error e => exact hx pins σ H s e s' I hq
 | ok fl =>
  cases fl with
  | ret u => exact I.after hq
  | next => exact False.elim hq
  | brk => exact False.elim hq
  | cont => exact False.elim hq
theorem pe_call (F : FnOk X.prog X.w X.K X.mg X.base CX k f fd ps sp) (hr : Room k X.A) (hg : Gl X x) (hm : X.mg x = some (.ref f)) (hk : PySem.W.keepIn X.K (.ref f) = true) (hb : Binds X.K fd ps ds) (hd : Vals dvs ds) (hx : Passes CX X E)
  (ha : PA X (e :: es) t) (hdb : (x == ("__debug__" : Str)) = false := by decide) (he : starEach (e :: es) X.env = (false, eval e X.env) :: starEach es X.env := by rfl) (hpl : (backTo pos (starEach es X.env)).any (·.1) = false := by rfl) :
  PE X (.Call (.Name x p) (e :: es) [] pos) (tCall sp dvs E t) := by
 intro pins s σ H Q I h
 refine wpAny_Call_Name_kw (ld_glob I hg hm ?_ hdb)
 refine PySem.W.callWith_K (h₀ := X.base) I.ok.mod.kin hk (thn (ha pos pins s σ H _ I h) fun us s1 ⟨vs, H1, I1, r, q⟩ => ⟨I1.kIn, ?_⟩) he hpl
 exact run_fn F hr hb hd hx I1 r q
end
section
variable {X : Cx} {CX : CXT} {k : Nat} {f C : Addr} {fd : FuncData} {ps ks : List Str} {sp : Sp} {E : XK} {x m : Str} {p pos apos kpos : Pos} {e o : Expr} {es : List Expr} {kws : List Keyword} {te ta : TE} {t tk : TA} {nm : Option Str}
variable {g : List Value → List Value → List Value} {gV : List V → List V → List V}
end
structure FnScope (N P : List Str) (sc : Scope) : Prop where
 kind : sc.kind = .function
 co : sc.isCoroutine = false
 gen : sc.isGenerator = false
 nd : N.Nodup
 pre : N.take P.length = P
 par : ∀ x ∈ P, sc.names.lookup x = some .local ∨ sc.names.lookup x = some .cell
 nofree : ∀ y ∈ sc.names, y.2 ≠ .free
theorem bindL_out {kindOf : Str → Option NameKind} {x : Str} : ∀ {binds : List (Str × Value)} {m : Str → Option Value}, (∀ v, (x, v) ∉ binds) → bindL kindOf binds m x = m x
 | [], _, _ => rfl
 | (n, v) :: r, m, h => by
  unfold bindL
  rw [bindL_out fun w hw => h w (List.mem_cons_of_mem _ hw)]
  split
  ·have : x ≠ n := by rintro rfl; exact h v List.mem_cons_self
   simp [this]
  ·rfl
theorem bindC_out {kindOf : Str → Option NameKind} {x : Str} : ∀ {binds : List (Str × Value)} {m : Str → Option Value}, (∀ v, (x, v) ∉ binds) → bindC kindOf binds m x = m x
 | [], _, _ => rfl
 | (n, v) :: r, m, h => by
  unfold bindC
  rw [bindC_out fun w hw => h w (List.mem_cons_of_mem _ hw)]
  split
  ·rfl
  ·have : x ≠ n := by rintro rfl; exact h v List.mem_cons_self
   simp [this]
theorem bindL_get {kindOf : Str → Option NameKind} {x : Str} {v : Value} : ∀ {P : List Str} {vs : List Value} {i : Nat} {m : Str → Option Value}, P.Nodup → P[i]? = some x → vs[i]? = some v → kindOf x = some .local →
  bindL kindOf (P.zip vs) m x = some v
 | [], _, _, _, _, h, _, _ => by simp at h
 | _ :: _, [], _, _, _, _, h, _ => by simp at h
 | p :: P, w :: vs, 0, m, nd, h1, h2, hk => by
  simp at h1 h2; subst h1; subst h2
  show bindL kindOf ((p, w) :: P.zip vs) m p = _
  unfold bindL
  rw [bindL_out fun v hv => (List.nodup_cons.mp nd).1 (List.of_mem_zip hv).1, if_pos hk]
  simp
 | p :: P, w :: vs, i + 1, m, nd, h1, h2, hk => by
  show bindL kindOf ((p, w) :: P.zip vs) m x = _
  unfold bindL
  exact bindL_get (i := i) (List.nodup_cons.mp nd).2 (by simpa using h1) (by simpa using h2) hk
theorem bindC_get {kindOf : Str → Option NameKind} {x : Str} {v : Value} : ∀ {P : List Str} {vs : List Value} {i : Nat} {m : Str → Option Value}, P.Nodup → P[i]? = some x → vs[i]? = some v → kindOf x ≠ some .local →
  bindC kindOf (P.zip vs) m x = some v
 | [], _, _, _, _, h, _, _ => by simp at h
 | _ :: _, [], _, _, _, _, h, _ => by simp at h
 | p :: P, w :: vs, 0, m, nd, h1, h2, hk => by
  simp at h1 h2; subst h1; subst h2
  show bindC kindOf ((p, w) :: P.zip vs) m p = _
  unfold bindC
  rw [bindC_out fun v hv => (List.nodup_cons.mp nd).1 (List.of_mem_zip hv).1, if_neg hk]
  simp
 | p :: P, w :: vs, i + 1, m, nd, h1, h2, hk => by
  show bindC kindOf ((p, w) :: P.zip vs) m x = _
  unfold bindC
  exact bindC_get (i := i) (List.nodup_cons.mp nd).2 (by simpa using h1) (by simpa using h2) hk
def start (N : List Str) (vs : List V) : St := vs.map some ++ List.replicate (N.length - vs.length) none
def cxOf (CX : CXT) (P : Program) (w : World) (K : PySem.W.Frag) (mg : Str → Option Value) (base : Heap) (N : List Str) (qual : Str) (scope : Scope) (f : Addr) (cd : Value) (A : Around) (outer : List Env) (s : Shared) (H : Hp) (E : XK) : Cx where
 prog := P
 w := w
 K := K
 mg := mg
 base := base
 A := A.deeper (envOfC qual scope s.heap.objs.size f cd)
 N := N
 s₀ := s
 H₀ := H
 env := envOfC qual scope s.heap.objs.size f cd
 outer := outer
 stack := envOfC qual scope s.heap.objs.size f cd :: outer
 ex := []
 calm := true
 fn := fun _ => true
 pn := []
 xe := fun e s' => wpAny (model P w) (A.deeper (envOfC qual scope s.heap.objs.size f cd)) (leaving (envOfC qual scope s.heap.objs.size f cd) e) (fun _ s'' => CX outer H s E e s'') (fun e' s'' => CX outer H s E e' s'') s'
theorem cell_has {sc : Scope} {n : Nat} {x : Str} (h : sc.names.lookup x = some .cell) : ∃ c, (cellsFrom n sc.names []).lookup x = some c := by
 have q := PySem.W.cellsFrom_some sc.names n [] (.inl h)
 exact Option.isSome_iff_exists.mp q
theorem inv_start {CX : CXT} {P : Program} {w : World} {K : PySem.W.Frag} {mg : Str → Option Value} {base : Heap} {N ps : List Str} {qual : Str} {scope : Scope} {f : Addr} {cd : Value} {A : Around} {outer : List Env} {s s1 : Shared} {H : Hp} {E : XK} {us : List Value} {vs : List V}
  (S : FnScope N ps scope) (hd : A.handled = none) (e0 : Env0 P w K mg base A outer s H) (hl : vs.length = ps.length) (r : Vals vs us)
  (x : InCallC s s.heap.objs.size (bindL (envOfC qual scope s.heap.objs.size f cd).kindOf (ps.zip us) fun _ => none) (cellsFrom (s.heap.objs.size + 1) scope.names []) (bindC (envOfC qual scope s.heap.objs.size f cd).kindOf (ps.zip us) fun _ => none) s1) :
  Inv (cxOf CX P w K mg base N qual scope f cd A outer s H E) [] (start N vs) H s1 := by
 have hpl : ps.length ≤ N.length := by have := congrArg List.length S.pre; rw [List.length_take] at this; omega
 obtain ⟨h1, tk, rfl, hk⟩ := x.done
 have noA : ∀ b : Addr, b ∉ (cxOf CX P w K mg base N qual scope f cd A outer s H E).ex := fun b z => absurd (show b ∈ ([] : List Addr) from z) (by simp)
 refine ⟨⟨e0.mod, S.kind, rfl, rfl, Nat.le_refl _, fun y z c h1 h2 => ?_, fun y hy => ?_, fun y c _ h => ?_, fun _ => hd, Around.frames_deeper e0.frames, .inr ⟨rfl, rfl⟩, fun b z => absurd z (noA b), e0.bs, e0.bsz, fun b _ _ => noA b, fun b z => absurd z (noA b), e0.funs, e0.frf⟩,
  rfl, e0.bare, Un.kept hk, ⟨_, x.toInCall.ns, fun i y v h1 h2 h3 => ?_⟩, fun y c h => ⟨_, x.cell y c h⟩, e0.hok.fresh (Nat.le_refl _), fun y c h => ?_, fun p hp => absurd (show p ∈ ([] : List (Addr × Obj)) from hp) (by simp), e0.hok.kept hk, ?_⟩
 ·exact name_of_addr x.apart (PySem.mem_of_lookup h1) (PySem.mem_of_lookup h2)
 ·have hy : scope.names.lookup y = some .cell ∨ scope.names.lookup y = some .free := hy
  rcases hy with hy | hy
  ·exact cell_has hy
  ·exact absurd rfl (S.nofree _ (PySem.mem_of_lookup hy))
 ·exact Nat.le_of_lt (x.above y c (PySem.mem_of_lookup h))
 ·have hi : i < vs.length := by
   unfold start at h2
   by_cases hi : i < vs.length
   ·exact hi
   ·rw [List.getElem?_append_right (by simpa using hi)] at h2
    rw [List.getElem?_replicate] at h2
    split at h2 <;> cases h2
  have ha : vs[i]? = some v := by
   unfold start at h2
   rw [List.getElem?_append_left (by simpa using hi), List.getElem?_map] at h2
   cases e : vs[i]? with
   | none => rw [e] at h2; cases h2
   | some a => rw [e] at h2; cases h2; rfl
  obtain ⟨u, hu, rv⟩ := r.get ha
  have hp : ps[i]? = some y := by
   rw [← S.pre, List.getElem?_take_of_lt (by omega)]; exact h1
  have ndP : ps.Nodup := by rw [← S.pre]; exact S.nd.sublist (List.take_sublist _ _)
  refine ⟨u, rv, ?_⟩
  rcases S.par y (List.mem_of_getElem? hp) with k | k
  ·exact .inl ⟨k, bindL_get ndP hp hu k⟩
  ·obtain ⟨c, e⟩ := cell_has (n := s.heap.objs.size + 1) k
   refine .inr ⟨.inl k, c, e, ?_⟩
   have q := x.cell y c e
   rw [bindC_get ndP hp hu (by show scope.names.lookup y ≠ _; rw [k]; decide)] at q
   exact q
 ·exact e0.hok.fresh (Nat.le_of_lt (x.above y c (PySem.mem_of_lookup h)))
 ·unfold start
  show _ = N.length
  rw [List.length_append, List.length_map, List.length_replicate]
  omega
theorem fn_of {CX : CXT} {P : Program} {w : World} {K : PySem.W.Frag} {mg : Str → Option Value} {base : Heap} {k : Nat} {f : Addr} {name qual : Str} {params : Arguments} {body : List Stmt} {scope : Scope} {dV kV doc pm cdv ct oc : Value} {an od : Option Addr}
  {osl : Array (Option Value)} {N ps : List Str} {sp : Sp} (lk : K.lookup f = some ⟨oc, od, .func (PySem.W.fnOf name qual params body scope dV kV doc pm an cdv ct), osl⟩) (hcd : PySem.W.codeIn K cdv qual = true) (S : FnScope N ps scope)
  (len : ∀ vs H Q E, sp vs H Q E → vs.length = ps.length)
  (hbody : ∀ (A : Around) (outer : List Env) (s : Shared) (H : Hp) (vs : List V) (Q : VK) (E : XK), Room k (A.deeper (envOfC qual scope s.heap.objs.size f cdv)) → sp vs H Q E →
   ∃ t, PSs (cxOf CX P w K mg base N qual scope f cdv A outer s H E) body t ∧ t { nx := fun _ H' => Q .non H', rt := Q } (start N vs) H) :
  FnOk P w K mg base CX (k + 1) f (PySem.W.fnOf name qual params body scope dV kV doc pm an cdv ct) ps sp := by
 refine ⟨len, fun A outer s H args us vs Q E hr e0 hb r hsp => ?_⟩
 have hl := len _ _ _ _ hsp
 have KX : K.In s.heap := e0.mod.kin.keeps fun b o e => (e0.bs b o e).1
 have lim : s.heap.NoLimit := e0.mod.nolimit.keeps fun b o e => (e0.bs b o e).1
 have hkind : ∀ y ∈ ps.zip us, scope.names.lookup y.1 = some .local ∨ (scope.names.lookup y.1 = some .cell ∧ ((cellsFrom (s.heap.objs.size + 1) scope.names []).lookup y.1).isSome = true) := fun ⟨n, v⟩ hy => by
  rcases S.par n (List.of_mem_zip hy).1 with q | q
  ·exact .inl q
  ·exact .inr ⟨q, PySem.W.cellsFrom_some _ _ _ (.inl q)⟩
 refine codeAny_call_function hr.depth (KX _ _ lk) rfl S.co S.gen rfl (PySem.W.codeRec_of KX hcd) (hb _ _ _ _ ?_)
 refine wpAny_newFunctionEnv_cells S.kind hkind fun env he s1 x => ?_
 subst he
 refine ⟨lim.keeps x.toInCall.keep, codeAny_func ?_⟩
 obtain ⟨t, ht, hq⟩ := hbody A outer s H vs Q E (hr.deeper _) hsp
 have I : Inv (cxOf CX P w K mg base N qual scope f cdv A outer s H E) [] (start N vs) H s1 := inv_start S hr.hd e0 hl r x
 refine wpAny_mono (ht [] s1 (start N vs) H _ I hq) (fun fl s' hs => ?_) fun e s' hs => hs
 have fin : ∀ {σ' : St} {H' : Hp} {v : V} {u : Value}, Inv (cxOf CX P w K mg base N qual scope f cdv A outer s H E) [] σ' H' s' → RelV v u → Q v H' → CE outer P w H s Q u s' :=
  fun {σ' H' v u} J rv q => ⟨v, H', J.os, J.bare, J.base, J.hok, rv, q⟩
 cases fl with
 | ret u =>
  obtain ⟨v, σ', H', J, rv, q⟩ := hs
  exact fin J rv q
 | next =>
  obtain ⟨σ', H', J, q⟩ := hs
  exact fin (v := V.non) (u := Value.none) J rfl q
 | brk =>
  obtain ⟨_, _, _, q⟩ := hs
  exact False.elim q
 | cont =>
  obtain ⟨_, _, _, q⟩ := hs
  exact False.elim q
end L2
namespace L2
open PySem PySem.Spec PyProof.Rows
section
variable {X : Cx} {x : Str} {p pos : Pos} {e : Expr} {es : List Expr} {t : TA} {id T : String} {r : List V → Hp → VK → Prop}
def tCB (r : List V → Hp → VK → Prop) (t : TA) : TE := fun σ H Q => t σ H fun vs H1 => r vs H1 Q
theorem pe_callB (hc : CallR X (.builtin id) r) (hg : Gl X x) (hm : X.mg x = none) (hv : bootBuiltins x = some (.builtin id)) (ha : PA X (e :: es) t) (hn : x ≠ "__name__" := by decide) (hdb : (x == ("__debug__" : Str)) = false := by decide)
  (he : starEach (e :: es) X.env = (false, eval e X.env) :: starEach es X.env := by rfl) (hpl : (backTo pos (starEach es X.env)).any (·.1) = false := by rfl) : PE X (.Call (.Name x p) (e :: es) [] pos) (tCB r t) := by
 intro pins s σ H Q I h
 refine wpAny_Call_Name_kw (ld_blt I hg hm hv ?_ hn hdb)
 exact PyProof.Rows.callWith_builtin1 (thn (ha pos pins s σ H _ I h) fun us s1 ⟨vs, H1, I1, r1, q1⟩ => hc pins s1 σ H1 vs us Q I1 r1 q1) he hpl
theorem pe_callTy (hc : CallR X (.type T) r) (hg : Gl X x) (hm : X.mg x = none) (hv : bootBuiltins x = some (.type T)) (ha : PA X (e :: es) t) (hn : x ≠ "__name__" := by decide) (hdb : (x == ("__debug__" : Str)) = false := by decide)
  (he : starEach (e :: es) X.env = (false, eval e X.env) :: starEach es X.env := by rfl) (hpl : (backTo pos (starEach es X.env)).any (·.1) = false := by rfl) : PE X (.Call (.Name x p) (e :: es) [] pos) (tCB r t) := by
 intro pins s σ H Q I h
 refine wpAny_Call_Name_kw (ld_blt I hg hm hv ?_ hn hdb)
 exact PyProof.Rows.callWith_type1 (thn (ha pos pins s σ H _ I h) fun us s1 ⟨vs, H1, I1, r1, q1⟩ => hc pins s1 σ H1 vs us Q I1 r1 q1) he hpl
end
end L2
namespace HT
open PySem PyProof.Rows
section
open PySem.SeqAt
open PySem.AutoSeq1 (wpAny_loadPart')
open PySem.MeetsSeq PySem.MeetsSeq2 PySem.MeetsSeq3
end
section
variable {prog : Program} {w : World} {A : Around} {E : Value → Shared → Prop} {s : Shared}
theorem cat_tup {t b : Addr} {vs ws : List Value} {Q : Value → Shared → Prop} (ht : IsTup s.heap t vs.toArray) (hb : IsTup s.heap b ws.toArray) (hv : vs ≠ [])
  (h1 : ws = [] → Q (.ref t) s) (h2 : ws ≠ [] → Q (.ref s.heap.objs.size) { s with heap := s.heap.push { cls := .type "tuple", data := .seq (vs ++ ws).toArray } })
  (hsz : vs.length + ws.length ≤ sizeLine) : wpAny (model prog w) A (binaryOp .Add (.ref t) (.ref b)) Q E s := by
 obtain ⟨⟨cls, dd, data, sl⟩, ho, hc, n, hd⟩ := id ht
 obtain ⟨⟨cls2, dd2, data2, sl2⟩, ho2, hc2, n2, hd2⟩ := id hb
 simp only at hc hd hc2 hd2
 subst hc hd hc2 hd2
 have e : vs.toArray ++ ws.toArray = (vs ++ ws).toArray := by simp
 by_cases hw : ws = []
 ·exact concat_meets ⟨_, ho, rfl⟩ ⟨_, ho2, rfl⟩ noFill_tuple_add seq_tuple_add PySem.F.slot_tuple_add PySem.F.entry_tuple_add (PySem.F.args_tuple_add_2 _ _)
   (tuple_addW1 t b vs.toArray ws.toArray n n2 dd dd2 sl sl2 (by simpa using hv) (by simp [hw])) ⟨ho, ho2, h1 hw⟩
 ·refine concat_meets ⟨_, ho, rfl⟩ ⟨_, ho2, rfl⟩ noFill_tuple_add seq_tuple_add PySem.F.slot_tuple_add PySem.F.entry_tuple_add (PySem.F.args_tuple_add_2 _ _)
   (tuple_addW2 t b vs.toArray ws.toArray n n2 dd dd2 sl sl2 (by simpa using hv) (by simpa using hw) (by rw [List.size_toArray, List.size_toArray]; exact hsz)) ⟨ho, ho2, ?_⟩
  rw [e]
  exact h2 hw
def sIx (n d : Nat) : Option Int → Nat
 | none => d
 | some v => if v < 0 then (v + (n : Int)).toNat else min v.toNat n
theorem sIx_none (n d : Nat) : sIx n d none = d := rfl
theorem sIx_nat (n d k : Nat) : sIx n d (some (k : Int)) = min k n := by
 show (if (k : Int) < 0 then ((k : Int) + (n : Int)).toNat else min (k : Int).toNat n) = min k n
 rw [if_neg (by omega), Int.toNat_natCast]
theorem sIx_le (n d : Nat) (hd : d ≤ n) (o : Option Int) : sIx n d o ≤ n := by
 cases o with
 | none => exact hd
 | some v =>
  show (if v < 0 then (v + (n : Int)).toNat else min v.toNat n) ≤ n
  by_cases hv : v < 0
  ·rw [if_pos hv]; omega
  ·rw [if_neg hv]; exact Nat.min_le_right _ _
theorem clip_eq (v : Int) (n d : Nat) : (if v < 0 then max (v + (n : Int)) 0 else min v (n : Int)) = ((sIx n d (some v) : Nat) : Int) := by
 show (if v < 0 then max (v + (n : Int)) 0 else min v (n : Int)) = (((if v < 0 then (v + (n : Int)).toNat else min v.toNat n) : Nat) : Int)
 by_cases hv : v < 0
 ·simp only [if_pos hv]; omega
 ·simp only [if_neg hv]; omega
theorem adjust_gen (lo hi : Option Int) (n : Nat) : Builtin.Slice.sliceAdjust lo hi 1 (n : Int) = (((sIx n 0 lo : Nat) : Int), ((sIx n n hi : Nat) : Int)) := by
 have h1 : ¬ ((1 : Int) < 0) := by omega
 unfold Builtin.Slice.sliceAdjust
 simp only [h1, if_false]
 refine Prod.ext ?_ ?_
 ·cases lo with
  | none => rfl
  | some v => exact clip_eq v n 0
 ·cases hi with
  | none => rfl
  | some v => exact clip_eq v n n
theorem places_gen (i j : Nat) : Builtin.Slice.slicePlaces (i : Int) (j : Int) 1 = j - i := by
 unfold Builtin.Slice.slicePlaces
 have h1 : (1 : Int) > 0 := by omega
 simp only [h1, if_true, Int.ediv_one]
 split <;> omega
theorem slicePart_ {v : Value} {o : Option Int} {Q : Option Int → Shared → Prop} (p : IsPart v o) (h : Q o s) : wpAny (model prog w) A (Builtin.Slice.slicePartIndex v) Q E s := by
 cases p with
 | none => exact slicePart_none h
 | int i t => exact slicePart_int h
theorem sliceApplied_gen {sl : Addr} {vl vu : Value} {lo hi : Option Int} {n : Nat} {Q : Int × Int × Nat → Shared → Prop} (hs : s.heap.IsSliceOf sl vl vu .none) (pl : IsPart vl lo) (pu : IsPart vu hi)
  (h : Q (((sIx n 0 lo : Nat) : Int), 1, sIx n n hi - sIx n 0 lo) s) : wpAny (model prog w) A (Builtin.Slice.sliceApplied (.ref sl) (pure (n : Int))) Q E s := by
 obtain ⟨os, hos, hcs, hds⟩ := id hs
 unfold Builtin.Slice.sliceApplied Builtin.Slice.sliceFields
 refine wpAny_bind (wpAny_bind (wpAny_field hos hds (x := vl) rfl (wpAny_bind (wpAny_field hos hds (x := vu) rfl (wpAny_bind (wpAny_field hos hds (x := .none) rfl (wpAny_pure ?_)))))))
 refine wpAny_bind (slicePart_none ?_)
 show wpAny _ _ (if ((1 : Int) == 0) = true then _ else _) _ _ s
 rw [if_neg (by decide)]
 refine wpAny_bind (slicePart_ pl (wpAny_bind (slicePart_ pu (wpAny_bind (wpAny_pure ?_)))))
 show wpAny _ _ (match Builtin.Slice.sliceAdjust lo hi 1 (n : Int) with | (lo, hi) => pure (lo, (1 : Int), Builtin.Slice.slicePlaces lo hi 1)) _ _ s
 rw [adjust_gen lo hi n]
 show wpAny _ _ (pure (((sIx n 0 lo : Nat) : Int), (1 : Int), Builtin.Slice.slicePlaces ((sIx n 0 lo : Nat) : Int) ((sIx n n hi : Nat) : Int) 1)) _ _ s
 rw [places_gen]
 exact wpAny_pure h
theorem pick_gen (xs : Array Value) (i k : Nat) : ((List.range k).filterMap fun (m : Nat) => xs[((i : Int) + (m : Int) * 1).toNat]?).toArray = ((xs.toList.drop i).take k).toArray := by
 have e : (fun (m : Nat) => xs[((i : Int) + (m : Int) * 1).toNat]?) = fun m => xs[i + m]? := by
  funext m
  have : ((i : Int) + (m : Int) * 1).toNat = i + m := by omega
  rw [this]
 rw [e]
 have := pick_run xs i k
 rw [List.filterMap_map] at this
 have e2 : ((fun x => xs[x]?) ∘ fun x => i + x) = fun m => xs[i + m]? := rfl
 rw [e2] at this
 rw [this]
theorem getItem_tuple_cut {t sl : Addr} {items : Array Value} {vl vu : Value} {lo hi : Option Int} {Q : Value → Shared → Prop} (ht : IsTup s.heap t items) (hs : s.heap.IsSliceOf sl vl vu .none) (pl : IsPart vl lo) (pu : IsPart vu hi)
  (hw : ¬ (sIx items.size 0 lo = 0 ∧ sIx items.size items.size hi = items.size))
  (h : Q (.ref s.heap.objs.size) { s with heap := s.heap.push { cls := .type "tuple", data := .seq ((items.toList.drop (sIx items.size 0 lo)).take (sIx items.size items.size hi - sIx items.size 0 lo)).toArray } })
  (hsz : items.size ≤ sizeLine) : wpAny (model prog w) A (getItem (.ref t) (.ref sl)) Q E s := by
 have htake : sizeOk (.seq ((items.toList.drop (sIx items.size 0 lo)).take (sIx items.size items.size hi - sIx items.size 0 lo)).toArray) := by
  show ((items.toList.drop (sIx items.size 0 lo)).take (sIx items.size items.size hi - sIx items.size 0 lo)).toArray.size ≤ sizeLine
  rw [List.size_toArray, List.length_take, List.length_drop, Array.length_toList]
  omega
 have hj : sIx items.size items.size hi ≤ items.size := sIx_le _ _ (Nat.le_refl _) hi
 obtain ⟨os, hos, hcs, hds⟩ := id hs
 have hTs : s.TypeIs (.ref sl) "slice" := ⟨os, hos, hcs⟩
 unfold getItem
 try with_reducible refine wpAny_holding ?_
 first | refine wpAny_bind (wpAny_pure ?_) | skip
 refine wpAny_bind (wpAny_sequenceKey ht.typeIs (by decide) ?_)
 refine wpAny_bind (wpAny_callSpecial?_slot (name := Str.ofString "__getitem__") ht.typeIs PyProof.Rows.slot_tuple_getitem
  (wpAny_call_entry PyProof.Rows.slot_tuple_getitem ht.typeIs entry_tuple_getitem ?_ (args_tuple_getitem _ _)))
 show wpAny _ _ (Builtin.Tuple.tupleItemsOf (.ref t) >>= _) _ _ s
 refine wpAny_bind (tupleItemsOf_ ht ?_)
 refine wpAny_bind (wpAny_typeOf hTs ?_)
 rw [if_pos (by decide)]
 refine wpAny_bind (sliceApplied_gen hs pl pu ?_)
 have hno : ¬ ((((sIx items.size 0 lo : Nat) : Int) == 0 && (1 : Int) == 1 && (sIx items.size items.size hi - sIx items.size 0 lo) == items.size) = true) := by
  intro q
  rw [Bool.and_eq_true, Bool.and_eq_true] at q
  have q1 : ((sIx items.size 0 lo : Nat) : Int) = 0 := eq_of_beq q.1.1
  have q2 : sIx items.size items.size hi - sIx items.size 0 lo = items.size := eq_of_beq q.2
  exact hw ⟨by omega, by omega⟩
 show wpAny _ _ (if (((sIx items.size 0 lo : Nat) : Int) == 0 && (1 : Int) == 1 && (sIx items.size items.size hi - sIx items.size 0 lo) == items.size) = true then _ else _) _ _ s
 rw [if_neg hno, pick_gen]
 first
  | exact wpAny_bind (m := Builtin.Tuple.tupleExact _) (wpAny_newObj_type (wpAny_pure ⟨_, rfl, wpAny_pure h⟩) htake)
  | exact wpAny_bind (m := Builtin.Tuple.tupleExact _) (wpAny_newObj_type (wpAny_bind (wpAny_pure (wpAny_pure ⟨_, rfl, wpAny_pure h⟩))) htake)
  | exact wpAny_bind (wpAny_bind (m := Builtin.Tuple.tupleExact _) (wpAny_newObj_type (wpAny_pure (wpAny_pure ⟨_, rfl, wpAny_pure h⟩)) htake))
  | exact wpAny_bind (wpAny_bind (m := Builtin.Tuple.tupleExact _) (wpAny_newObj_type (wpAny_pure ⟨_, rfl, wpAny_pure h⟩) htake))
end
end HT
namespace L2
open PySem PySem.Spec PyProof.Rows
abbrev TO := St → Hp → (Option Int → Hp → Prop) → Prop
def PO (X : Cx) (e : Option Expr) (t : TO) : Prop :=
 ∀ (pins : List (Addr × Obj)) (s : Shared) (σ : St) (H : Hp) (Q : Option Int → Hp → Prop), Inv X pins σ H s → t σ H Q →
  wpAny (model X.prog X.w) X.A (evalPart e X.env) (fun u s' => ∃ o H', Inv X pins σ H' s' ∧ IsPart u o ∧ Q o H') X.xe s
def tNoPart : TO := fun _ H Q => Q none H
def tPart (t : TE) : TO := fun σ H Q => t σ H fun x H1 => ∃ i, x = .int i ∧ Q (some i) H1
section
variable {X : Cx} {e : Expr} {te : TE} {lo hi : Option Expr} {tl th : TO} {pos p2 : Pos}
theorem po_none : PO X none tNoPart := by
 intro pins s σ H Q I h
 rw [evalPart_none]
 exact wpAny_pure ⟨none, H, I, .none, h⟩
theorem po_some (h : PE X e te) : PO X (some e) (tPart te) := by
 intro pins s σ H Q I hw
 rw [evalPart_some]
 refine thn (h pins s σ H _ I hw) fun u s1 ⟨x, H1, I1, r1, q1⟩ => ?_
 obtain ⟨i, rfl, q⟩ := q1
 obtain ⟨t, rfl⟩ := r1
 exact ⟨some i, H1, I1, .int i t, q⟩
def SlR (X : Cx) (r : V → Option Int → Option Int → Hp → VK → Prop) : Prop :=
 ∀ (pins : List (Addr × Obj)) (s : Shared) (σ : St) (H : Hp) (x : V) (v vl vu : Value) (lo hi : Option Int) (sl : Addr) (Q : VK), Inv X pins σ H s → RelV x v → s.heap.IsSliceOf sl vl vu .none → IsPart vl lo → IsPart vu hi → r x lo hi H Q →
  ∃ T id, typeLookup (.type T) "__getitem__" = pure (some (.builtin id)) ∧ s.TypeIs v T ∧ wpAny (model X.prog X.w) X.A (getItem v (.ref sl)) (EP X pins σ Q) X.xe s
def tSl (r : V → Option Int → Option Int → Hp → VK → Prop) (te : TE) (tl th : TO) : TE := fun σ H Q => te σ H fun x H1 => tl σ H1 fun l H2 => th σ H2 fun u H3 => r x l u H3 Q
theorem pe_slice {r : V → Option Int → Option Int → Hp → VK → Prop} (hr : SlR X r) (he : PE X e te) (hl : PO X lo tl) (hu : PO X hi th) : PE X (.Subscript e (.Slice lo hi none p2) pos) (tSl r te tl th) := by
 intro pins s σ H Q I h
 refine Subscript_ (thn (he pins s σ H _ I h) fun v s1 ⟨x, H1, I1, r1, q1⟩ => ?_)
 refine wpAny_Slice (thn (hl pins s1 σ H1 _ I1 q1) fun vl s2 ⟨l, H2, I2, pl, q2⟩ => thn (hu pins s2 σ H2 _ I2 q2) fun vu s3 ⟨u, H3, I3, pu, q3⟩ => ?_)
 rw [evalPart_none]
 refine wpAny_pure ?_
 have I4 : Inv X pins σ H3 { s3 with heap := s3.heap.push { cls := .type "slice", data := .fields #[vl, vu, .none] } } := I3.kept (t' := s3.toks) fun b ob q => Heap.get?_push_of_some _ q
 obtain ⟨T, id, hT, ht, hg⟩ := hr pins { s3 with heap := s3.heap.push { cls := .type "slice", data := .fields #[vl, vu, .none] } } σ H3 x v vl vu l u s3.heap.objs.size Q I4 r1 (Heap.IsSliceOf.new ..) pl pu q3
 show wpAny (model X.prog X.w) X.A (subscriptTail e (.Slice lo hi none p2) v (.ref s3.heap.objs.size)) (EP X pins σ Q) X.xe { s3 with heap := s3.heap.push { cls := .type "slice", data := .fields #[vl, vu, .none] } }
 exact tail_any (ops := [.ref s3.heap.objs.size, v]) ht hT hg (by with_unfolding_all rfl)
def cutV (xs : List V) (lo hi : Option Int) : List V := (xs.drop (HT.sIx xs.length 0 lo)).take (HT.sIx xs.length xs.length hi - HT.sIx xs.length 0 lo)
theorem cutV_length (xs : List V) (lo hi : Option Int) : (cutV xs lo hi).length ≤ xs.length := by
 unfold cutV
 rw [List.length_take, List.length_drop]
 omega
def rSlT (K : PySem.W.Frag) : V → Option Int → Option Int → Hp → VK → Prop := fun x lo hi H Q => ∃ a xs, x = .ref a ∧ SqT K H a xs ∧
 ¬ (HT.sIx xs.length 0 lo = 0 ∧ HT.sIx xs.length xs.length hi = xs.length) ∧ ∀ p, H p = none → Q (.ref p) (upd H p (.tup (cutV xs lo hi)))
theorem sl_tup : SlR X (rSlT X.K) := by
 intro pins s σ H x v vl vu lo hi sl Q I rx hs pl pu h
 obtain ⟨a, xs, rfl, hx, hw, q⟩ := h
 cases rx
 obtain ⟨its, r, ht, hz⟩ := I.tuple hx
 have hlen : its.toArray.size = xs.length := by rw [List.size_toArray]; exact r.length.symm
 refine ⟨"tuple", _, PyProof.Rows.slot_tuple_getitem.lookup, ht.typeIs, ?_⟩
 refine HT.getItem_tuple_cut ht hs pl pu (by rw [hlen]; exact hw) ?_ (by rw [hlen]; exact hz)
 rw [hlen]
 refine ⟨.ref s.heap.objs.size, _, I.laid (t' := s.toks) (o := .tup (cutV xs lo hi)) (fun b ob q => Heap.get?_push_of_some _ q) (Nat.le_refl _) ?_, rfl, q _ (I.hok.fresh (Nat.le_refl _))⟩
 exact ⟨Nat.le_trans (cutV_length xs lo hi) hz, _, (r.drop (HT.sIx xs.length 0 lo)).take (HT.sIx xs.length xs.length hi - HT.sIx xs.length 0 lo), IsTup.new _ _⟩
def rCatT (K : PySem.W.Frag) : R2 := fun x y H Q => ∃ a b xs ys, x = .ref a ∧ y = .ref b ∧ SqT K H a xs ∧ SqT K H b ys ∧ xs ≠ [] ∧ xs.length + ys.length ≤ sizeLine ∧
 (ys = [] → Q (.ref a) H) ∧ (ys ≠ [] → ∀ p, H p = none → Q (.ref p) (upd H p (.tup (xs ++ ys))))
theorem Vals.nil_iff {xs : List V} {us : List Value} (r : Vals xs us) : us = [] ↔ xs = [] := by
 cases r with
 | nil => simp
 | cons _ _ => simp
theorem op_catT : OpR X (binaryOp .Add) (rCatT X.K) := by
 intro pins s σ H x y v u Q I rx ry h
 obtain ⟨a, b, xs, ys, rfl, rfl, ha, hb, hx, hz, q1, q2⟩ := h
 cases rx
 cases ry
 obtain ⟨its, r1, p1, _⟩ := I.tuple ha
 obtain ⟨its2, r2, p2, _⟩ := I.tuple hb
 refine HT.cat_tup p1 p2 (fun z => hx (r1.nil_iff.mp z)) (fun z => ⟨.ref a, H, I, rfl, q1 (r2.nil_iff.mp z)⟩) (fun z => ?_) (by rw [← r1.length, ← r2.length]; exact hz)
 refine ⟨.ref s.heap.objs.size, _, I.laid (t' := s.toks) (o := .tup (xs ++ ys)) (fun b ob q => Heap.get?_push_of_some _ q) (Nat.le_refl _) ?_, rfl, q2 (fun w => z (r2.nil_iff.mpr w)) _ (I.hok.fresh (Nat.le_refl _))⟩
 exact ⟨by rw [List.length_append]; exact hz, _, r1.append r2, IsTup.new _ _⟩
end
end L2
namespace L2
open PySem PySem.Spec PyProof.Rows
def ixN (n : Nat) (i : Int) : Option Nat := if 0 ≤ i then (if i < n then some i.toNat else none) else if -(n : Int) ≤ i then some (i + n).toNat else none
def atI {α : Type} (xs : List α) (i : Int) : Option α := (ixN xs.length i).bind fun j => xs[j]?
theorem ixN_seq {n : Nat} {i : Int} {j : Nat} (h : ixN n i = some j) : seqIndex? i n = some j ∧ j < n ∧ -(n : Int) ≤ i ∧ i < n := by
 unfold ixN at h
 by_cases h0 : 0 ≤ i
 ·rw [if_pos h0] at h
  by_cases h1 : i < n
  ·rw [if_pos h1] at h
   have e : i.toNat = j := Option.some.inj h
   exact ⟨by rw [seqIndex_of h0 h1, e], by omega, by omega, h1⟩
  ·rw [if_neg h1] at h; cases h
 ·rw [if_neg h0] at h
  by_cases h1 : -(n : Int) ≤ i
  ·rw [if_pos h1] at h
   have e : (i + n).toNat = j := Option.some.inj h
   exact ⟨by rw [seqIndex_neg (by omega) h1, e], by omega, h1, by omega⟩
  ·rw [if_neg h1] at h; cases h
theorem atI_get {α : Type} {xs : List α} {i : Int} {v : α} (h : atI xs i = some v) : ∃ j, seqIndex? i xs.length = some j ∧ xs[j]? = some v ∧ j < xs.length ∧ -(xs.length : Int) ≤ i ∧ i < xs.length := by
 unfold atI at h
 cases e : ixN xs.length i with
 | none => rw [e] at h; cases h
 | some j =>
  rw [e] at h
  obtain ⟨h1, h2, h3, h4⟩ := ixN_seq e
  exact ⟨j, h1, h, h2, h3, h4⟩
theorem atI_nat {α : Type} {xs : List α} {j : Nat} {v : α} (h : xs[j]? = some v) : atI xs (j : Int) = some v := by
 have hj : j < xs.length := (List.getElem?_eq_some_iff.mp h).1
 have e : ixN xs.length (j : Int) = some j := by
  unfold ixN
  rw [if_pos (by omega), if_pos (by omega)]; simp
 unfold atI; rw [e]; exact h
def PlainIx (b : Expr) : Prop := ∀ o i, subscripted b false o i = operate [o, i] (getItem o i)
def IxR (X : Cx) (r : R2) : Prop :=
 ∀ (value slice : Expr) (pins : List (Addr × Obj)) (s : Shared) (σ : St) (H : Hp) (x y : V) (v u : Value) (Q : VK), Inv X pins σ H s → RelV x v → RelV y u → r x y H Q →
  subscripted slice false v u = operate [v, u] (getItem v u) → wpAny (model X.prog X.w) X.A (subscriptTail value slice v u) (EP X pins σ Q) X.xe s
def MtR (X : Cx) (id : String) (r : V → List V → Hp → VK → Prop) : Prop :=
 ∀ (pins : List (Addr × Obj)) (s : Shared) (σ : St) (H : Hp) (x : V) (xs : List V) (v : Value) (us : List Value) (Q : VK), Inv X pins σ H s → RelV x v → Vals xs us → r x xs H Q →
  wpAny (model X.prog X.w) X.A (call (.builtin id) (v :: us)) (EP X pins σ Q) X.xe s
section
variable {X : Cx} {a b : Expr} {ta tb : TE} {pos : Pos}
theorem pe_ix {r : R2} (hr : IxR X r) (ha : PE X a ta) (hb : PE X b tb) (hs : PlainIx b) : PE X (.Subscript a b pos) (tOp r ta tb) := by
 intro pins s σ H Q I h
 exact Subscript_ (binT ha hb I h fun v u s2 x y H2 I2 rx ry q => hr a b pins s2 σ H2 x y v u Q I2 rx ry q (hs _ _))
def rIxL (K : PySem.W.Frag) : R2 := fun x y H Q => ∃ p xs i v, x = .ref p ∧ y = .int i ∧ SqL K H p xs ∧ atI xs i = some v ∧ Q v H
def rIxT (K : PySem.W.Frag) : R2 := fun x y H Q => ∃ p xs i v, x = .ref p ∧ y = .int i ∧ SqT K H p xs ∧ atI xs i = some v ∧ Q v H
def rIxS : R2 := fun x y H Q => ∃ z i c, x = .str z ∧ y = .int i ∧ z.length ≤ sizeLine ∧ atI z.cps.toList i = some c ∧ Q (.str ⟨#[c]⟩) H
theorem ix_list : IxR X (rIxL X.K) := by
 intro value slice pins s σ H x y v u Q I rx ry h hs
 obtain ⟨p, xs, i, z, rfl, rfl, hq, he, q⟩ := h
 cases rx
 obtain ⟨t, rfl⟩ := ry
 obtain ⟨its, r, pl, hz⟩ := I.list hq
 obtain ⟨j, h1, h2, h3, h4, h5⟩ := atI_get he
 obtain ⟨w, ew, rw'⟩ := r.get h2
 have hl := r.length
 have hn := line63
 have fin : EP X pins σ Q w s := ⟨z, H, I, rw', q⟩
 by_cases h0 : 0 ≤ i
 ·have hj : i.toNat = j := by
   rw [seqIndex_of h0 h5] at h1
   exact Option.some.inj h1
  exact item_listR pl.isList h0 (by omega) (by rw [hj]; simpa using ew) fin hs
 ·have hj : (i + (its.toArray.size : Int)).toNat = j := by
   rw [seqIndex_neg (by omega) h4] at h1
   rw [List.size_toArray, ← hl]
   exact Option.some.inj h1
  exact subscriptTail_builtinR (x := w) pl.isList.typeIs slot_list_getitem.lookup
   (wpAny_getItem_list_neg (Q := fun r s' => r = w ∧ EP X pins σ Q r s') pl.isList (by omega) (by rw [List.size_toArray] <;> omega) (by omega) (by rw [hj]; simpa using ew) ⟨rfl, fin⟩) hs
theorem ix_tup : IxR X (rIxT X.K) := by
 intro value slice pins s σ H x y v u Q I rx ry h hs
 obtain ⟨p, xs, i, z, rfl, rfl, hq, he, q⟩ := h
 cases rx
 obtain ⟨t, rfl⟩ := ry
 obtain ⟨its, r, pl, hz⟩ := I.tuple hq
 obtain ⟨j, h1, h2, h3, h4, h5⟩ := atI_get he
 obtain ⟨w, ew, rw'⟩ := r.get h2
 have hl := r.length
 have hn := line63
 have fin : EP X pins σ Q w s := ⟨z, H, I, rw', q⟩
 exact subscriptTail_builtinR (x := w) pl.typeIs slot_tuple_getitem.lookup
  (getItem_tuple (j := j) (Q := fun r s' => r = w ∧ EP X pins σ Q r s') pl (by omega) (by omega) (by rw [List.size_toArray, ← hl]; exact h1) (by simpa using ew) ⟨rfl, fin⟩) hs
theorem ix_str : IxR X rIxS := by
 intro value slice pins s σ H x y v u Q I rx ry h hs
 obtain ⟨z, i, c, rfl, rfl, hz, he, q⟩ := h
 obtain ⟨t, rfl⟩ := rx
 obtain ⟨t', rfl⟩ := ry
 obtain ⟨j, h1, h2, h3, h4, h5⟩ := atI_get he
 have hl : z.cps.toList.length = z.length := by simp [Str.length]
 rw [hl] at h1 h4 h5
 have hn := line63
 exact tail_any (typeIs_str s z t) slot_str_getitem.lookup (getItem_str (c := c) (by
  have e1 : decide (i < -(2 ^ 63 : Int)) = false := decide_eq_false (by omega)
  have e2 : decide (i ≥ 2 ^ 63) = false := decide_eq_false (by omega)
  rw [e1, e2, Bool.or_false]) (by rw [h1]; simpa using h2) ⟨.str ⟨#[c]⟩, H, I.tok _, ⟨_, rfl⟩, q⟩) hs
theorem mapSeq_set (its : List Value) (n j : Nat) (u : Value) : Obj.mapSeq (·.setIfInBounds j u) { cls := .type "list", data := .seq its.toArray n } = { cls := .type "list", data := .seq (its.set j u).toArray n } := by
 simp [Obj.mapSeq]
theorem Inv.lst {pins : List (Addr × Obj)} {σ : St} {H : Hp} {s : Shared} {p : Addr} {xs : List V} (I : Inv X pins σ H s) (h : H p = some (.lst xs)) :
  ∃ (its : List Value) (n : Nat), Vals xs its ∧ s.heap.get? p = some { cls := .type "list", data := .seq its.toArray n } ∧ xs.length ≤ sizeLine := by
 obtain ⟨z, its, n, r, e⟩ := I.hok p _ h
 exact ⟨its, n, r, e, z⟩
theorem Inv.lstUpd {pins : List (Addr × Obj)} {σ : St} {H : Hp} {s : Shared} {p : Addr} {xs ys : List V} {its its' : List Value} {n n' : Nat} {f : Obj → Obj} (I : Inv X pins σ H s) (h : H p = some (.lst xs))
  (ho : s.heap.get? p = some { cls := .type "list", data := .seq its.toArray n }) (hf : f { cls := .type "list", data := .seq its.toArray n } = { cls := .type "list", data := .seq its'.toArray n' }) (r : Vals ys its') (hz : ys.length ≤ sizeLine) (t : Nat) :
  Inv X pins σ (upd H p (.lst ys)) { s with heap := s.heap.update p f, toks := t } := by
 have e : (s.heap.update p f).get? p = some { cls := .type "list", data := .seq its'.toArray n' } := by
  rw [Heap.get?_update_self f ho (by rw [hf] <;> rfl), hf]
 refine I.write (x := p) (e := p) (by rw [h]; trivial) (.inl rfl) (fun b u hb q => (Heap.get?_update_other _ _ (Ne.symm hb)).trans q) ⟨_, e⟩ ?_
 exact ⟨hz, its', n', r, e⟩
def rSetL : V → V → V → Hp → (Hp → Prop) → Prop := fun o i v H Q => ∃ p xs k j, o = .ref p ∧ i = .int k ∧ H p = some (.lst xs) ∧ ixN xs.length k = some j ∧ Q (upd H p (.lst (xs.set j v)))
theorem set_list : PSet X rSetL := by
 intro pins s σ H o i v ov iv u Q I ro ri rv h
 obtain ⟨p, xs, k, j, rfl, rfl, hp, hj, q⟩ := h
 cases ro
 obtain ⟨t, rfl⟩ := ri
 obtain ⟨its, n, r, ho, hz⟩ := I.lst hp
 obtain ⟨h1, h2, h3, h4⟩ := ixN_seq hj
 have hl := r.length
 have hn := line63
 have I' : Inv X pins σ (upd H p (.lst (xs.set j v))) { s with heap := s.heap.update p (Obj.mapSeq (·.setIfInBounds j u)) } :=
  I.lstUpd hp ho (mapSeq_set its n j u) (r.set rv j) (by rw [List.length_set]; exact hz) s.toks
 by_cases h0 : 0 ≤ k
 ·have hk : k.toNat = j := by
   rw [seqIndex_of h0 h4] at h1
   exact Option.some.inj h1
  exact PySem.W.ki_setAt ho h0 (by omega) (by rw [List.size_toArray, ← hl]; exact h4) (by rw [hk]; exact ⟨_, I', q⟩)
 ·have hk : (k + (its.toArray.size : Int)).toNat = j := by
   rw [seqIndex_neg (by omega) h3] at h1
   rw [List.size_toArray, ← hl]
   exact Option.some.inj h1
  exact PySem.W.ki_setBack ho (by omega) (by rw [List.size_toArray, ← hl]; exact h3) (by omega) (by rw [hk]; exact ⟨_, I', q⟩)
theorem slice_bounds (lo hi : Option Int) (n : Nat) : (sliceBounds lo hi none n).1 = ((HT.sIx n 0 lo : Nat) : Int) ∧ (sliceBounds lo hi none n).2.1 = ((HT.sIx n n hi : Nat) : Int) ∧ (sliceBounds lo hi none n).2.2 = 1 := by
 refine ⟨?_, ?_, rfl⟩
 ·cases lo with
  | none => simp [sliceBounds, HT.sIx]
  | some i =>
   simp only [sliceBounds, HT.sIx, Option.getD_none, show (1 : Int) > 0 by decide, if_true]
   by_cases h : i < 0
   ·simp only [h, if_true] <;> omega
   ·simp only [h, if_false] <;> omega
 ·cases hi with
  | none => simp [sliceBounds, HT.sIx]
  | some i =>
   simp only [sliceBounds, HT.sIx, Option.getD_none, show (1 : Int) > 0 by decide, if_true]
   by_cases h : i < 0
   ·simp only [h, if_true] <;> omega
   ·simp only [h, if_false] <;> omega
theorem slicePick_cut (its : List Value) (lo hi : Option Int) : slicePick its.toArray lo hi none = ((its.drop (HT.sIx its.length 0 lo)).take (HT.sIx its.length its.length hi - HT.sIx its.length 0 lo)).toArray := by
 obtain ⟨h1, h2, h3⟩ := slice_bounds lo hi its.toArray.size
 unfold slicePick
 rw [h1, h2, h3]
 simp only [sliceRange_one, pick_run, List.size_toArray] <;> rfl
def rSlL (K : PySem.W.Frag) : V → Option Int → Option Int → Hp → VK → Prop := fun x lo hi H Q => ∃ a xs, x = .ref a ∧ SqL K H a xs ∧ ∀ p, H p = none → Q (.ref p) (upd H p (.lst (cutV xs lo hi)))
theorem sl_list : SlR X (rSlL X.K) := by
 intro pins s σ H x v vl vu lo hi sl Q I rx hs pl pu h
 obtain ⟨a, xs, rfl, hx, q⟩ := h
 cases rx
 obtain ⟨its, r, ht, hz⟩ := I.list hx
 have hlen := r.length
 refine ⟨"list", _, slot_list_getitem.lookup, ht.isList.typeIs, ?_⟩
 refine wpAny_getItem_list_slice ht.isList hs pl pu .none (by simp) ?_ (by rw [List.size_toArray] <;> omega)
 rw [slicePick_cut, ← hlen]
 refine ⟨.ref s.heap.objs.size, _, I.laid (t' := s.toks) (o := .lst (cutV xs lo hi)) (fun b ob q => Heap.get?_push_of_some _ q) (Nat.le_refl _) ?_, rfl, q _ (I.hok.fresh (Nat.le_refl _))⟩
 exact ⟨Nat.le_trans (cutV_length xs lo hi) hz, _, 0, (r.drop (HT.sIx xs.length 0 lo)).take (HT.sIx xs.length xs.length hi - HT.sIx xs.length 0 lo), Heap.get?_push_size _ rfl⟩
def flatV : V → Bool
 | .non => true
 | .bl _ => true
 | .int _ => true
 | .str _ => true
 | _ => false
def eqV : V → V → Bool
 | .non, .non => true
 | .bl a, .bl b => a == b
 | .bl a, .int b => (if a then 1 else 0) == b
 | .int a, .bl b => a == (if b then 1 else 0)
 | .int a, .int b => a == b
 | .str a, .str b => a == b
 | _, _ => false
theorem eqAt_V {A : Around} {s : Shared} {y x : V} {u v : Value} (ry : RelV y u) (rx : RelV x v) (fy : flatV y = true) (fx : flatV x = true) : SeqAt.EqAt A s u v (eqV y x) := by
 cases y with
 | non =>
  cases ry
  cases x with
  | non => cases rx; exact SeqAt.EqAt.same _
  | bl b => cases rx; exact SeqAt.EqAt.none_bool b
  | int b => obtain ⟨t, rfl⟩ := rx; exact SeqAt.EqAt.none_int b t
  | str b => obtain ⟨t, rfl⟩ := rx; exact SeqAt.EqAt.none_str b t
  | _ => exact absurd (show false = true from fx) Bool.false_ne_true
 | bl a =>
  cases ry
  cases x with
  | non => cases rx; exact SeqAt.EqAt.bool_none a
  | bl b => cases rx; exact SeqAt.EqAt.bool_bool a b
  | int b => obtain ⟨t, rfl⟩ := rx; exact SeqAt.EqAt.bool_int a b t
  | str b => obtain ⟨t, rfl⟩ := rx; exact SeqAt.EqAt.bool_str a b t
  | _ => exact absurd (show false = true from fx) Bool.false_ne_true
 | int a =>
  obtain ⟨t', rfl⟩ := ry
  cases x with
  | non => cases rx; exact SeqAt.EqAt.int_none a t'
  | bl b => cases rx; exact SeqAt.EqAt.int_bool a t' b
  | int b => obtain ⟨t, rfl⟩ := rx; exact SeqAt.EqAt.int_int a t' b t
  | str b => obtain ⟨t, rfl⟩ := rx; exact SeqAt.EqAt.int_str a t' b t
  | _ => exact absurd (show false = true from fx) Bool.false_ne_true
 | str a =>
  obtain ⟨t', rfl⟩ := ry
  cases x with
  | non => cases rx; exact SeqAt.EqAt.str_none a t'
  | bl b => cases rx; exact SeqAt.EqAt.str_bool a t' b
  | int b => obtain ⟨t, rfl⟩ := rx; exact SeqAt.EqAt.str_int a t' b t
  | str b => obtain ⟨t, rfl⟩ := rx; exact SeqAt.EqAt.str_str a t' b t
  | _ => exact absurd (show false = true from fx) Bool.false_ne_true
 | _ => exact absurd (show false = true from fy) Bool.false_ne_true
def eqU (x : V) (u : Value) : Bool := match u with
 | .none => eqV .non x
 | .bool b => eqV (.bl b) x
 | .int i _ => eqV (.int i) x
 | .str z _ => eqV (.str z) x
 | _ => false
theorem eqU_of {x y : V} {u : Value} (r : RelV y u) (f : flatV y = true) : eqU x u = eqV y x := by
 cases y with
 | non => cases r; rfl
 | bl b => cases r; rfl
 | int i => obtain ⟨t, rfl⟩ := r; rfl
 | str z => obtain ⟨t, rfl⟩ := r; rfl
 | _ => exact absurd (show false = true from f) Bool.false_ne_true
theorem mem_eqAt {A : Around} {s : Shared} {x : V} {v : Value} (rx : RelV x v) (fx : flatV x = true) : ∀ {xs : List V} {us : List Value}, Vals xs us → xs.all flatV = true → ∀ u ∈ us, SeqAt.EqAt A s u v (eqU x u)
 | _, _, .nil, _ => fun u hu => by cases hu
 | y :: xs, u :: us, .cons r t, f => fun u' hu => by
  rw [List.all_cons, Bool.and_eq_true] at f
  rcases List.mem_cons.mp hu with rfl | hu
  ·rw [eqU_of r f.1]; exact eqAt_V r rx f.1 fx
  ·exact mem_eqAt rx fx t f.2 u' hu
theorem op_notIn_str : OpR X (compareOp .NotIn) (fun x y H Q => ∃ i j, x = .str i ∧ y = .str j ∧ Q (.bl (!(!(Builtin.Str.occurrences j i 0 j.length 1).isEmpty))) H) := by
 intro pins s σ H x y v u Q I rx ry h
 obtain ⟨i, j, rfl, rfl, q⟩ := h
 obtain ⟨t, rfl⟩ := rx
 obtain ⟨t', rfl⟩ := ry
 exact notIn_str ⟨.bl _, H, I, rfl, q⟩
theorem call_len_seq : CallR X (.builtin "len") (fun xs H Q => ∃ p ys, xs = [.ref p] ∧ (SqL X.K H p ys ∨ SqT X.K H p ys) ∧ Q (.int ys.length) H) := by
 intro pins s σ H xs us Q I r h
 obtain ⟨p, ys, rfl, hq, q⟩ := h
 obtain ⟨u, rfl, rx⟩ := vals1 r
 cases rx
 have hn := line63
 rcases hq with hq | hq
 ·obtain ⟨its, r', pl, hz⟩ := I.list hq
  have hlen := r'.length
  exact Calls.call_len_list pl.isList (by simp only [List.size_toArray] <;> omega) ⟨.int ys.length, H, I.tok _, ⟨s.toks + 1, by rw [List.size_toArray, hlen]⟩, q⟩
 ·obtain ⟨its, r', pl, hz⟩ := I.tuple hq
  have hlen := r'.length
  exact len_tuple pl (by simp only [List.size_toArray] <;> omega) ⟨.int ys.length, H, I.tok _, ⟨s.toks + 1, by rw [List.size_toArray, hlen]⟩, q⟩
theorem call_len_str : CallR X (.builtin "len") (fun xs H Q => ∃ z, xs = [.str z] ∧ z.length ≤ sizeLine ∧ Q (.int z.length) H) := by
 intro pins s σ H xs us Q I r h
 obtain ⟨z, rfl, hz, q⟩ := h
 obtain ⟨u, rfl, t, rfl⟩ := vals1 r
 have hn := line63
 exact len_str (by omega) ⟨.int z.length, H, I.tok _, ⟨_, rfl⟩, q⟩
theorem call_list_of : CallR X (.type "list") (fun xs H Q => ∃ p ys, xs = [.ref p] ∧ (SqL X.K H p ys ∨ SqT X.K H p ys) ∧ ∀ l, H l = none → Q (.ref l) (upd H l (.lst ys))) := by
 intro pins s σ H xs us Q I r h
 obtain ⟨p, ys, rfl, hq, q⟩ := h
 obtain ⟨u, rfl, rx⟩ := vals1 r
 cases rx
 have fin : ∀ (its : List Value), Vals ys its → ys.length ≤ sizeLine → ∀ (h' : Heap) (c' : Nat), (∀ b o', s.heap.get? b = some o' → h'.get? b = some o') →
   h'.get? s.heap.objs.size = some { cls := .type "list", dict := none, data := .seq its.toArray c', slots := #[] } → EP X pins σ Q (.ref s.heap.objs.size) { s with heap := h' } := fun its r' hz h' c' kp e =>
  ⟨.ref s.heap.objs.size, _, I.laid (t' := s.toks) kp (Nat.le_refl _) (show ObjOk X.prog X.w _ h' _ (.lst ys) from ⟨hz, its, c', r', e⟩), rfl, q _ (I.hok.fresh (Nat.le_refl _))⟩
 rcases hq with hq | hq
 ·obtain ⟨its, r', pl, hz⟩ := I.list hq
  have hlen := r'.length
  obtain ⟨o, ho, hc, n, hd⟩ := pl.isList
  exact call_list_seq p (.inl rfl) ho hc hd (fun h' c' kp e => fin its r' hz h' c' kp e) (by simp only [List.size_toArray] <;> omega)
 ·obtain ⟨its, r', pl, hz⟩ := I.tuple hq
  have hlen := r'.length
  obtain ⟨o, ho, hc, n, hd⟩ := pl
  exact call_list_seq p (.inr rfl) ho hc hd (fun h' c' kp e => fin its r' hz h' c' kp e) (by simp only [List.size_toArray] <;> omega)
theorem call_tuple_of : CallR X (.type "tuple") (fun xs H Q => ∃ p ys, xs = [.ref p] ∧ ((SqL X.K H p ys ∧ ∀ l, H l = none → Q (.ref l) (upd H l (.tup ys))) ∨ (SqT X.K H p ys ∧ Q (.ref p) H))) := by
 intro pins s σ H xs us Q I r h
 obtain ⟨p, ys, rfl, h⟩ := h
 obtain ⟨u, rfl, rx⟩ := vals1 r
 cases rx
 rcases h with ⟨hq, q⟩ | ⟨hq, q⟩
 ·obtain ⟨its, r', pl, hz⟩ := I.list hq
  have hlen := r'.length
  refine call_tuple_list pl.isList (fun h' kp => ?_) (by simp only [List.size_toArray] <;> omega)
  have I1 : Inv X pins σ H { s with heap := h' } := I.kept (t' := s.toks) kp
  have I2 : Inv X pins σ (upd H h'.objs.size (.tup ys)) { s with heap := h'.push { cls := .type "tuple", data := .seq its.toArray } } :=
   I1.laid (t' := s.toks) (fun b o e => Heap.get?_push_of_some _ e) (Nat.le_refl _) (show ObjOk X.prog X.w _ _ _ (.tup ys) from ⟨hz, its, r', IsTup.new _ _⟩)
  exact ⟨.ref h'.objs.size, _, I2, rfl, q _ (I1.hok.fresh (Nat.le_refl _))⟩
 ·obtain ⟨its, r', pl, hz⟩ := I.tuple hq
  exact call_tuple_same pl ⟨.ref p, H, I, rfl, q⟩
def tyV (K : PySem.W.Frag) (T : String) (x : V) (H : Hp) : Prop := match x with
 | .str _ => T = "str"
 | .int _ => T = "int"
 | .ref p => (T = "list" ∧ ∃ xs, SqL K H p xs) ∨ (T = "tuple" ∧ ∃ o, K.lookup p = some o ∧ o.cls = .type "tuple" ∧ o.dict = none) ∨
   (T = "dict" ∧ ((∃ kvs, H p = some (.dK kvs)) ∨ ∃ kvs, H p = some (.dT kvs))) ∨ (T = "set" ∧ ∃ S n, H p = some (.set S n))
 | _ => False
theorem tyV_is {pins : List (Addr × Obj)} {σ : St} {H : Hp} {s : Shared} {T : String} {x : V} {v : Value} (I : Inv X pins σ H s) (r : RelV x v) (ty : tyV X.K T x H) :
  s.TypeIs v T ∧ ∀ a, v = .ref a → ∃ ob, s.heap.get? a = some ob ∧ ob.dict = none := by
 cases x with
 | str z =>
  obtain ⟨t, rfl⟩ := r
  cases (show T = "str" from ty)
  exact ⟨typeIs_str s z t, fun _ e => nomatch e⟩
 | int i =>
  obtain ⟨t, rfl⟩ := r
  cases (show T = "int" from ty)
  exact ⟨typeIs_int s i t, fun _ e => nomatch e⟩
 | ref p =>
  cases r
  rcases ty with ⟨rfl, xs, hq⟩ | ⟨rfl, o, hk, hc, hd⟩ | ⟨rfl, hk⟩ | ⟨rfl, S, n, hk⟩
  ·obtain ⟨its, _, pl, _⟩ := I.list hq
   refine ⟨pl.isList.typeIs, fun a e => ?_⟩
   cases e
   obtain ⟨o, n, e, c, hd, _⟩ := pl
   exact ⟨o, e, hd⟩
  ·refine ⟨⟨o, I.kIn p o hk, hc⟩, fun a e => ?_⟩
   cases e
   exact ⟨o, I.kIn _ o hk, hd⟩
  ·have z : ∃ o, s.heap.get? p = some o ∧ o.ExactDict := by
    rcases hk with ⟨kvs, hk⟩ | ⟨kvs, hk⟩
    ·obtain ⟨_, _, _, _, o, _, _, e, ex, _⟩ := I.hok p _ hk
     exact ⟨o, e, ex⟩
    ·obtain ⟨_, _, _, _, o, _, _, e, ex, _⟩ := I.hok p _ hk
     exact ⟨o, e, ex⟩
   obtain ⟨o, e, ex⟩ := z
   refine ⟨⟨o, e, ex.1⟩, fun a e2 => ?_⟩
   cases e2
   exact ⟨o, e, ex.2.1⟩
  ·obtain ⟨o, _, _, _, e, ex, _⟩ := I.hok p _ hk
   refine ⟨⟨o, e, ex.1⟩, fun a e2 => ?_⟩
   cases e2
   exact ⟨o, e, ex.2.1⟩
 | _ => exact False.elim ty
def tBM0 (K : PySem.W.Frag) (T : String) (r : V → List V → Hp → VK → Prop) (to : TE) : TE := fun σ H Q => to σ H fun x H1 => tyV K T x H1 ∧ r x [] H1 Q
def tBM (K : PySem.W.Frag) (T : String) (r : V → List V → Hp → VK → Prop) (to : TE) (t : TA) : TE := fun σ H Q => to σ H fun x H1 => tyV K T x H1 ∧ t σ H1 fun xs H2 => r x xs H2 Q
variable {o e : Expr} {es : List Expr} {to : TE} {t : TA} {name : Str} {apos cpos : Pos} {T id : String} {r : V → List V → Hp → VK → Prop}
theorem pe_bm0 (pa : PlainAttrs T) (slot : Slot T name id) (hty : typeOf (.builtin id) = pure (.type "method_descriptor")) (hm : MtR X id r) (ho : PE X o to)
  (hbase : attributeBase o name X.env (eval o X.env) = eval o X.env := by rfl) (hline : (apos.endLine == cpos.line) = true := by rfl) : PE X (.Call (.Attribute o name apos) [] [] cpos) (tBM0 X.K T r to) := by
 intro pins s σ H Q I h
 refine wpAny_Call_method0_late hbase hline (thn (ho pins s σ H _ I h) fun v s1 ⟨x, H1, I1, r1, ty, q1⟩ => ?_)
 obtain ⟨h1, h2⟩ := tyV_is I1 r1 ty
 exact ⟨T, id, pa, slot, hty, h1, h2, Calls.callWith_builtin rfl (PySem.evalArgs_none (hm pins s1 σ H1 x [] v [] Q I1 r1 .nil q1))⟩
theorem pe_bm (pa : PlainAttrs T) (slot : Slot T name id) (hty : typeOf (.builtin id) = pure (.type "method_descriptor")) (hm : MtR X id r) (ho : PE X o to) (ha : PA X (e :: es) t)
  (hbase : attributeBase o name X.env (eval o X.env) = eval o X.env := by rfl)
  (hfew : ((backTo cpos (starEach (e :: es) X.env)).all (fun x => !x.1) && (backToKw cpos (keywordEach [] X.env)).all (fun x => x.1.isSome)
   && decide ((e :: es).length + ([] : List Keyword).length + (if ([] : List Keyword).isEmpty then 0 else 1) < 30)) = true := by rfl)
  (hline : (apos.endLine == cpos.line) = true := by rfl) (hs : starEach (e :: es) X.env = (false, eval e X.env) :: starEach es X.env := by rfl) (hplain : (backTo cpos (starEach es X.env)).any (·.1) = false := by rfl) :
  PE X (.Call (.Attribute o name apos) (e :: es) [] cpos) (tBM X.K T r to t) := by
 intro pins s σ H Q I h
 refine wpAny_Call_method_late hbase hfew hline rfl (thn (ho pins s σ H _ I h) fun v s1 ⟨x, H1, I1, r1, ty, q1⟩ => ?_)
 obtain ⟨h1, h2⟩ := tyV_is I1 r1 ty
 refine ⟨T, id, pa, slot, hty, h1, h2, ?_⟩
 have hA := ha cpos pins s1 σ H1 _ I1 q1
 rw [hs] at hA ⊢
 refine Calls.callWith_builtin (by show (false || (backTo cpos (starEach es X.env)).any (·.1)) = false; rw [hplain] <;> rfl) (Calls.evalArgs_plain ?_)
 exact thn hA fun us s2 ⟨vs, H2, I2, r2, q2⟩ => hm pins s2 σ H2 x vs v us Q I2 r1 r2 q2
end
end L2
namespace L2
open PySem PySem.Spec PyProof.Rows
def MtM (X : Cx) (id : String) (r : V → List V → Hp → VK → Prop) : Prop :=
 ∀ (pins : List (Addr × Obj)) (s : Shared) (σ : St) (H : Hp) (x : V) (xs : List V) (v : Value) (us : List Value) (Q : VK), Inv X pins σ H s → RelV x v → Vals xs us → r x xs H Q →
  wpAny (model X.prog X.w) X.A (call (.builtin id) (v :: us)) (EP X pins σ Q) X.xe s
theorem Vals.one : ∀ {x : V} {us : List Value}, Vals [x] us → ∃ u, us = [u] ∧ RelV x u
 | _, _, .cons r .nil => ⟨_, rfl, r⟩
theorem Vals.rep {xs : List V} {us : List Value} (h : Vals xs us) : ∀ k : Nat, Vals (List.replicate k xs).flatten (List.replicate k us).flatten
 | 0 => .nil
 | k + 1 => by
  rw [List.replicate_succ, List.replicate_succ, List.flatten_cons, List.flatten_cons]
  exact Vals.append h (Vals.rep h k)
theorem foldl_rep (its : List Value) : ∀ (k : Nat) (acc : List Value),
  List.foldl (fun x1 x2 => x1 ++ x2) acc.toArray (List.replicate k its.toArray) = (acc ++ (List.replicate k its).flatten).toArray
 | 0, acc => by simp
 | k + 1, acc => by
  have e : acc.toArray ++ its.toArray = (acc ++ its).toArray := by simp
  have e2 : (acc ++ its) ++ (List.replicate k its).flatten = acc ++ (List.replicate (k + 1) its).flatten := by
   rw [List.replicate_succ, List.flatten_cons, List.append_assoc]
  rw [← e2, ← foldl_rep its k (acc ++ its), ← e, List.replicate_succ, List.foldl_cons]
section
variable {X : Cx} {pins : List (Addr × Obj)} {σ : St} {H : Hp} {s : Shared} {l b : Addr} {xs ys zs : List V}
theorem Inv.lset {its its' : List Value} {n : Nat} {f : Array Value → Array Value} {t' : Nat} (I : Inv X pins σ H s) (hH : H l = some (.lst xs))
  (e : s.heap.get? l = some { cls := .type "list", data := .seq its.toArray n }) (hf : f its.toArray = its'.toArray) (hv : Vals ys its') (hz : ys.length ≤ sizeLine) :
  Inv X pins σ (upd H l (.lst ys)) { s with heap := s.heap.update l (Obj.mapSeq f), toks := t' } := by
 have q := PySem.IsL.update e f
 rw [hf] at q
 refine I.write (x := l) (e := l) (by rw [hH]; exact trivial) (.inl rfl) (fun b' u hb hu => (Heap.get?_update_other s.heap (Obj.mapSeq f) (Ne.symm hb)).trans hu) ⟨_, q⟩ ?_
 exact ⟨hz, its', _, hv, q⟩
theorem Inv.lnew {its : List Value} {t' : Nat} (I : Inv X pins σ H s) (hv : Vals ys its) (hz : ys.length ≤ sizeLine) :
  Inv X pins σ (upd H s.heap.objs.size (.lst ys)) { s with heap := s.heap.push { cls := .type "list", data := .seq its.toArray }, toks := t' } :=
 I.laid (fun _ _ q => Heap.get?_push_of_some _ q) (Nat.le_refl _) ⟨hz, its, 0, hv, Heap.get?_push_size _ rfl⟩
theorem Inv.fresh (I : Inv X pins σ H s) : H s.heap.objs.size = none := I.hok.fresh (Nat.le_refl _)
theorem Inv.lstM (I : Inv X pins σ H s) (hH : H l = some (.lst xs)) : xs.length ≤ sizeLine ∧ ∃ (its : List Value) (n : Nat), Vals xs its ∧ xs.length = its.length ∧ s.heap.get? l = some { cls := .type "list", data := .seq its.toArray n } := by
 obtain ⟨z, its, n, r, e⟩ := I.hok l _ hH
 exact ⟨z, its, n, r, r.length, e⟩
theorem notLongL {n : Nat} (h : n ≤ sizeLine) : Builtin.List.listTooLong n = false := by
 unfold Builtin.List.listTooLong
 exact decide_eq_false (by omega)
end
section
variable {X : Cx}
def rAppend : V → List V → Hp → VK → Prop := fun x vs H Q => ∃ l xs y, x = .ref l ∧ vs = [y] ∧ H l = some (.lst xs) ∧ xs.length < sizeLine ∧ Q .non (upd H l (.lst (xs ++ [y])))
theorem mt_append : MtM X "list.append" rAppend := by
 intro pins s σ H x vs v us Q I rx rv h
 obtain ⟨l, xs, y, rfl, rfl, hH, hz, q⟩ := h
 cases rx
 obtain ⟨u, rfl, ru⟩ := rv.one
 obtain ⟨z, its, n, r, hl, e⟩ := I.lstM hH
 refine call_meets F.slot_list_append ⟨_, e, rfl⟩ F.entry_list_append (F.args_list_append_2 _ _) (PySem.list_append l its.toArray n u (by rw [List.size_toArray]; omega)) ⟨e, ?_⟩
 refine ⟨.non, _, I.lset (its' := its ++ [u]) hH e (by simp) (r.append (.cons ru .nil)) ?_, rfl, q⟩
 rw [List.length_append, List.length_singleton]
 omega
theorem len_rep {α : Type} (xs : List α) (k : Nat) : (List.replicate k xs).flatten.length = k * xs.length := by
 induction k with
 | zero => simp
 | succ k ih => rw [List.replicate_succ, List.flatten_cons, List.length_append, ih, Nat.succ_mul, Nat.add_comm]
end
section
variable {prog : Program} {w : World} {A : Around} {E : Value → Shared → Prop} {s : Shared}
end
section
variable {X : Cx}
end
end L2
namespace Att
open PySem PySem.W PySem.Calls PyProof.Rows
theorem ints_of_wellAll {P : Params} {h : Heap} : ∀ (ns : List Int) (vs : List Value), WellAll P h vs (ns.map WData.int) → IntsAre vs ns := by
 intro ns
 induction ns with
 | nil =>
  intro vs w
  rw [List.map_nil] at w
  cases w
  exact .nil
 | cons n ns ih =>
  intro vs w
  rw [List.map_cons] at w
  cases w with
  | cons a b =>
   cases a
   exact .cons _ _ (ih _ b)
theorem script_of {l : OpenLaw} {n : Nat} (hn : l.most = some n) {P : Params} {h : Heap} {args : List WData} {vals : List Value}
  (hpre : l.row.toRowW.claim.pre args = true) (hwl : WellAll P h vals args) :
  ∃ a vs ns, vals = [Value.ref a] ∧ args = [WData.list (ns.map WData.int)] ∧ h.get? a = some { cls := .type "list", data := .seq vs.toArray } ∧ IntsAre vs ns ∧ ns.length ≤ n := by
 have hsh : WShape.hasAll [] args [.list .int] = true := (pre_splitW hpre).1
 have hc : l.pre.holds [] { args := args } = true := (pre_splitW hpre).2
 obtain ⟨d, r, rfl, h1, h2⟩ := hasAllW_cons hsh
 obtain rfl := hasAllW_nil h2
 obtain ⟨xs, rfl, h3⟩ := hasW_list h1
 obtain ⟨ns, rfl⟩ := items_int h3
 have hlen : ns.length ≤ n := by
  unfold OpenLaw.pre at hc
  have h4 : (WTm.not (.lt (.lit (.int (n : Int))) (.len (.arg 0)))).holds [] { args := [.list (ns.map .int)] } = true := by
   have h4 := (holds_andW hc).1
   rw [hn] at h4
   exact h4
  have h5 := condW_of h4 (w_not (w_lt w_lit (w_len_list (w_arg rfl))))
  rw [List.length_map] at h5
  refine Nat.le_of_not_lt fun q => ?_
  have q' : (n : Int) < ((ns.length : Nat) : Int) := by omega
  first
   | (rw [decide_eq_true q'] at h5; exact absurd h5 (by decide))
   | (simp at h5; omega)
 cases hwl with
 | cons w1 w2 =>
  cases w2
  cases w1 with
  | list ho hall => exact ⟨_, _, ns, rfl, rfl, ho, ints_of_wellAll ns _ hall, hlen⟩
theorem post_true (l : OpenLaw) (args : List WData) : l.row.toRowW.claim.post args (.bool true) args = true :=
 postW_of (r := l.row.toRowW) (X := (true == true))
  (show WShape.has [] (.bool true) .bool = true by first | rfl | decide | simp [WShape.has, WShape.arms, WShape.armsAll])
  (show (WTm.eq .res (.lit (.bool true))).value [] { args := args, res := some (.bool true), after := args } = some (.bool (true == true)) from w_eq_bool (w_res rfl) w_lit) rfl
theorem attach_call {l : OpenLaw} {n : Nat} {q : Program} {loose : List Str} {XP : (Str → Option Value) → Heap → Prop} {YP : World → Heap → Prop} {d : DefRec}
  (hn : l.most = some n) (hdf : d.params.defaults = [])
  (call : ∀ (w : World) (s₀ s₁ : Shared) (mg mb : Str → Option Value) (fa : Addr) (o : Obj) (pm cd doc : Value) (a : Addr) (vs : List Value) (ns : List Int),
   Ground q loose [] XP w s₀ mg mb s₁.heap → YP w s₁.heap →
   s₁.heap.get? fa = some o → o.data = .func (docDef d.name d.params d.body d.scope pm cd doc) → s₁.heap.CodeRec cd d.name → mg d.name = some (.ref fa) →
   s₁.heap.get? a = some { cls := .type "list", data := .seq vs.toArray } → IntsAre vs ns → ns.length ≤ n → s₁.gens = #[] →
   codeAny (model l.prog w) callerA (.call (.ref fa) ⟨[.ref a], []⟩) (fun r s' => r = .ok (.ret (.bool true)) ∧ OldK s₁.heap s'.heap ∧ s'.os = s₁.os ∧ AllBare s'.gens) s₁) :
  WalkO q loose XP YP l.row.toRowW d [] (fun f vs => PySem.call f vs) := by
 intro w s₀ s₁ mg mb G Y fa o pm cd doc dV kV ho hd hcd hD hmg hg args vals as hpre hlay hrd hwl hlo
 obtain rfl : dV = .none := Dflts.none hD hdf
 obtain rfl : kV = .none := Dflts.noKw hD
 obtain ⟨a, vs, ns, rfl, rfl, hobj, hints, hlen⟩ := script_of hn hpre hwl
 refine enter_call (codeAny_mono (call w s₀ s₁ mg mb fa o pm cd doc a vs ns G Y ho (fd_plain hd) hcd hmg hobj hints hlen hg) fun r s' hq => ?_)
 obtain ⟨rfl, h2, h3, h4⟩ := hq
 exact ⟨.inl ⟨.bool true, .bool true, [], rfl, fun _ => rfl, .bool true, post_true l _, fun _ => ⟨List.Pairwise.nil, fun _ hm => (nomatch hm)⟩⟩, h2, h3, h4⟩
section
variable {prog : Program} {w : World} {A : Around} {E : Value → Shared → Prop} {s : Shared} {K : Frag}
end
end Att
namespace L2
open PySem PySem.Spec PyProof.Rows
theorem vals_ints : ∀ {vs : List Value} {ns : List Int}, IntsAre vs ns → Vals (ns.map V.int) vs
 | _, _, .nil => .nil
 | _, _, .cons n t h => .cons ⟨t, rfl⟩ (vals_ints h)
def Only (H : Hp) : Prop := ∀ b, H b = none ∨ ∃ o xs, H b = some (.frz o (.lst xs))
theorem law_call {P : Program} {w : World} {K : PySem.W.Frag} {mg mb : Str → Option Value} {CX : CXT} {k : Nat} {fa a : Addr} {fd : FuncData} {x : Str} {sp : Sp} {s₁ : Shared} {vs : List Value} {ns : List Int}
  (KX : K.In s₁.heap) (hns : s₁.heap.Ns mainGlobals mg) (hb : s₁.heap.Ns builtinsNs mb) (hbb : ∀ x : Str, x ≠ "__name__" → mb x = bootBuiltins x) (hlim : s₁.heap.NoLimit) (hg : s₁.gens = #[])
  (ha : s₁.heap.get? a = some { cls := .type "list", data := .seq vs.toArray }) (hi : IntsAre vs ns) (hl : ns.length ≤ sizeLine) (hr : Room k callerA)
  (F : ∀ base : Heap, K.In base → base.Ns mainGlobals mg → FnOk P w K mg base CX k fa fd [x] sp) (hbind : ∀ (s : Shared) (u : Value), BindsTo s fd ⟨[u], []⟩ [(x, u)])
  (hsp : ∀ H : Hp, Only H → SqL K H a (ns.map V.int) → sp [.ref a] H (fun v _ => v = .bl true) fun _ _ _ => False)
  (hCX : ∀ H e s', CX [] H s₁ (fun _ _ _ => False) e s' → False) :
  codeAny (model P w) callerA (.call (.ref fa) ⟨[.ref a], []⟩) (fun r s' => r = .ok (.ret (.bool true)) ∧ OldK s₁.heap s'.heap ∧ s'.os = s₁.os ∧ AllBare s'.gens) s₁ := by
 have rv := vals_ints hi
 have lenV := hi.length
 have core : ∀ H : Hp, Only H → SqL K H a (ns.map V.int) → HOk P w H s₁.heap → (∀ b, H b ≠ none → b = a) → (H a ≠ none → K.lookup a = none) →
   codeAny (model P w) callerA (.call (.ref fa) ⟨[.ref a], []⟩) (fun r s' => r = .ok (.ret (.bool true)) ∧ OldK s₁.heap s'.heap ∧ s'.os = s₁.os ∧ AllBare s'.gens) s₁ := by
  intro H hO hS hok hA hK
  have base_of : ∀ {b : Addr} {o : Obj}, s₁.heap.get? b = some o → H b = none → (hidT s₁.heap H).get? b = some o := fun e n => hidT_get e n
  have noA : ∀ {b : Addr} {o : Obj} {es : Array DictEntry} {ep : Nat}, s₁.heap.get? b = some o → o.data = .dict es ep → H b = none := fun {b o es ep} e d => by
   cases q : H b with
   | none => rfl
   | some u =>
    have e' : b = a := hA b (by rw [q]; simp)
    subst e'
    rw [ha] at e; cases e
    have d' : Data.seq vs.toArray _ = Data.dict es ep := d
    cases d'
  have nsK : ∀ {b : Addr} {m : Str → Option Value}, s₁.heap.Ns b m → (hidT s₁.heap H).Ns b m := fun {b m} ⟨o, es, ep, e, d, r⟩ => ⟨o, es, ep, base_of e (noA e d), d, r⟩
  have hKb : K.In (hidT s₁.heap H) := fun b o e => base_of (KX b o e) (by
   cases q : H b with
   | none => rfl
   | some u =>
    have e' : b = a := hA b (by rw [q]; simp)
    subst e'
    rw [hK (by rw [q]; simp)] at e; cases e)
  have hM : Mod K mg (hidT s₁.heap H) := ⟨hKb, nsK hns, ⟨mb, nsK hb, hbb⟩, let ⟨mc, h1, h2⟩ := hlim; ⟨mc, nsK h1, h2⟩⟩
  have e0 : Env0 P w K mg (hidT s₁.heap H) callerA [] s₁ H := ⟨rfl, hM, fun b o e => of_hidT e, Nat.le_of_eq (hidT_size _ _), trivial, fun b hb => absurd (show b ∈ ([] : List Addr) from hb) (by simp), hok, .of_eq hg⟩
  refine codeAny_mono ((F _ hKb (nsK hns)).run callerA [] s₁ H ⟨[.ref a], []⟩ [.ref a] [.ref a] _ _ hr e0 (hbind s₁ (.ref a)) (.cons rfl .nil) (hsp H hO hS)) fun r s' h => ?_
  cases r with
  | error e => exact (hCX H e s' h).elim
  | ok fl =>
   cases fl with
   | next => exact False.elim h
   | brk => exact False.elim h
   | cont => exact False.elim h
   | ret u =>
    obtain ⟨v, H', os, bare, un, hok', r', q⟩ := h
    have q' : v = .bl true := q
    subst q'
    obtain rfl : u = Value.bool true := r'
    refine ⟨rfl, OldK.of_keep fun b o e => ?_, os, bare⟩
    cases q : H b with
    | none => exact un.keep b o e q (by intro z; exact absurd (show b ∈ ([] : List Addr) from z) (by simp)) (by simp)
    | some u =>
     rcases hO b with z | ⟨ob, xs, z⟩
     ·rw [q] at z; cases z
     ·have z2 := un.frzs b ob _ z
      obtain ⟨e1, _⟩ := hok b _ z
      obtain ⟨e2, _⟩ := hok' b _ z2
      rw [e] at e1; cases e1
      exact e2
 cases hk : K.lookup a with
 | some o =>
  have e := KX a o hk
  rw [ha] at e
  cases e
  refine core (fun _ => none) (fun _ => .inl rfl) (.inr ⟨_, vs.toArray, _, hk, rfl, rfl, rfl, by rw [List.size_toArray, lenV]; exact hl, by simpa using rv⟩) (fun b u z => by have z' : (none : Option HO) = some u := z; cases z') (fun b z => absurd rfl z) fun z => absurd rfl z
 | none =>
  refine core (fun b => if b = a then some (.frz { cls := .type "list", data := .seq vs.toArray } (.lst (ns.map V.int))) else none) (fun b => ?_) (.inl (.inr ⟨{ cls := .type "list", data := .seq vs.toArray }, if_pos rfl⟩)) (fun b u z => ?_) (fun b z => ?_) fun _ => hk
  ·by_cases hb : b = a
   ·exact .inr ⟨_, _, if_pos hb⟩
   ·exact .inl (if_neg hb)
  ·by_cases hb : b = a
   ·have z' := (if_pos hb).symm.trans z
    cases z'
    subst hb
    exact ⟨ha, by rw [List.length_map]; exact hl, vs, _, rv, ha⟩
   ·have z' := (if_neg hb).symm.trans z
    cases z'
  ·by_cases hb : b = a
   ·exact hb
   ·exact absurd (if_neg hb) z
end L2
namespace L2
open PySem PySem.Spec PyProof.Rows
theorem walk_of {l : PySem.W.OpenLaw} {n k : Nat} {q : Program} {loose : List Str} {XP : (Str → Option Value) → Heap → Prop} {YP : World → Heap → Prop} {d : DefRec} {K : Params → PySem.W.Frag} {CX : World → CXT} {sp : World → Sp} {x : Str}
  (hn : l.most = some n) (hn2 : n ≤ sizeLine) (hdf : d.params.defaults = []) (hr : Room k callerA)
  (hY : ∀ (w : World) (h : Heap), YP w h → (K w.params).In h)
  (F : ∀ (w : World) (mg : Str → Option Value) (fa : Addr) (h : Heap), (K w.params).In h → h.Ns mainGlobals mg → mg d.name = some (.ref fa) →
   ∃ fd : FuncData, (∀ (s : Shared) (u : Value), BindsTo s fd ⟨[u], []⟩ [(x, u)]) ∧
    ∀ base : Heap, (K w.params).In base → base.Ns mainGlobals mg → FnOk l.prog w (K w.params) mg base (CX w) k fa fd [x] (sp w))
  (hsp : ∀ (w : World) (H : Hp) (a : Addr) (ns : List Int), ns.length ≤ n → Only H → SqL (K w.params) H a (ns.map V.int) → sp w [.ref a] H (fun v _ => v = .bl true) fun _ _ _ => False)
  (hCX : ∀ (w : World) (H : Hp) (s : Shared) (e : Value) (s' : Shared), CX w [] H s (fun _ _ _ => False) e s' → False) :
  PySem.W.WalkO q loose XP YP l.row.toRowW d [] (fun f vs => PySem.call f vs) := by
 refine Att.attach_call hn hdf fun w s₀ s₁ mg mb fa o pm cd doc a vs ns G Y ho hd hcd hmg hobj hints hlen hg => ?_
 have KX := hY w _ Y
 obtain ⟨fd, hb, hF⟩ := F w mg fa _ KX G.T.g hmg
 exact law_call KX G.T.g G.T.b G.T.builtins G.T.nolimit hg hobj hints (Nat.le_trans hlen hn2) hr hF hb (fun H hO hS => hsp w H a ns hlen hO hS) fun H e s' => hCX w H s₁ e s'
end L2
namespace L2
open PySem PySem.Spec PyProof.Rows
def defArgs (s : Stmt) : Arguments := match s with
 | .FunctionDef _ a _ _ _ _ _ _ _ _ => a
 | _ => { posonlyargs := [], args := [], vararg := none, kwonlyargs := [], kw_defaults := [], kwarg := none, defaults := [] }
def defBody (s : Stmt) : List Stmt := match s with
 | .FunctionDef _ _ b _ _ _ _ _ _ _ => b
 | _ => []
def defScope (s : Stmt) : Scope := match s with
 | .FunctionDef _ _ _ _ _ _ sc _ _ _ => sc
 | _ => { kind := .function, names := [], isGenerator := false, isCoroutine := false }
abbrev CX0 : CXT := fun _ _ _ _ _ _ => False
abbrev E0 : XK := fun _ _ _ => False
theorem pass0 {X : Cx} : Passes CX0 X E0 := fun _ _ _ _ _ _ _ h => h.elim
structure Fun (K : PySem.W.Frag) (x qual : Str) (st : Stmt) (f : Addr) (fd : FuncData) : Prop where
 ex : ∃ (oc : Value) (od : Option Addr) (kV doc pm : Value) (an : Option Addr) (cdv ct : Value) (osl : Array (Option Value)),
  fd = PySem.W.fnOf x qual (defArgs st) (defBody st) (defScope st) .none kV doc pm an cdv ct ∧ K.lookup f = some ⟨oc, od, .func fd, osl⟩ ∧ PySem.W.codeIn K cdv qual = true
 kp : PySem.W.keepIn K (.ref f) = true
section
variable {P : Program} {w : World} {K : PySem.W.Frag} {mg : Str → Option Value} {base : Heap}
theorem Fun.ok {x qual : Str} {st : Stmt} {f : Addr} {fd : FuncData} {N ps : List Str} {k : Nat} {sp : Sp} (F : Fun K x qual st f fd) (S : FnScope N ps (defScope st)) (len : ∀ vs H Q E, sp vs H Q E → vs.length = ps.length)
  (hbody : ∀ (cdv : Value) (A : Around) (outer : List Env) (s : Shared) (H : Hp) (vs : List V) (Q : VK) (E : XK), Room k (A.deeper (envOfC qual (defScope st) s.heap.objs.size f cdv)) → sp vs H Q E →
   ∃ t, PSs (cxOf CX0 P w K mg base N qual (defScope st) f cdv A outer s H E).nox (defBody st) t ∧ t { nx := fun _ H' => Q .non H', rt := Q } (start N vs) H) : FnOk P w K mg base CX0 (k + 1) f fd ps sp := by
 obtain ⟨oc, od, kV, doc, pm, an, cdv, ct, osl, rfl, lk, hcd⟩ := F.ex
 refine fn_of lk hcd S len fun A outer s H vs Q E hr hsp => ?_
 obtain ⟨t, h, q⟩ := hbody cdv A outer s H vs Q E hr hsp
 exact ⟨t, h.nox, q⟩
theorem Fun.binds {x qual : Str} {st : Stmt} {f : Addr} {fd : FuncData} {ps : List Str} (F : Fun K x qual st f fd)
  (h : ∀ (kV doc pm : Value) (an : Option Addr) (cdv ct : Value) (us : List Value), us.length = ps.length → bindArgs (PySem.W.fnOf x qual (defArgs st) (defBody st) (defScope st) .none kV doc pm an cdv ct) ⟨us, []⟩ = pure (ps.zip us)) : Binds K fd ps [] := by
 obtain ⟨oc, od, kV, doc, pm, an, cdv, ct, osl, rfl, lk, hcd⟩ := F.ex
 exact .all (h kV doc pm an cdv ct)
theorem fun_mk {x qual : Str} {st : Stmt} {f : Addr} {oc : Value} {od an : Option Addr} {osl : Array (Option Value)} {kV doc pm cdv ct : Value} (l : K.lookup f = some ⟨oc, od, .func (PySem.W.fnOf x qual (defArgs st) (defBody st) (defScope st) .none kV doc pm an cdv ct), osl⟩)
  (c : PySem.W.codeIn K cdv qual = true) (k : PySem.W.keepIn K (.ref f) = true) : Fun K x qual st f (PySem.W.fnOf x qual (defArgs st) (defBody st) (defScope st) .none kV doc pm an cdv ct) := ⟨⟨oc, od, kV, doc, pm, an, cdv, ct, osl, rfl, l, c⟩, k⟩
end
theorem small1000 {n : Nat} (h : n ≤ 1000) : n < sizeLine := Nat.lt_of_le_of_lt h (by decide)
section
variable {X : Cx}
end
def Same (H H' : Hp) : Prop := ∀ b o, H b = some o → H' b = some o
theorem Same.refl (H : Hp) : Same H H := fun _ _ h => h
theorem Same.trans {H H1 H2 : Hp} (a : Same H H1) (b : Same H1 H2) : Same H H2 := fun c o h => b c o (a c o h)
theorem Same.free {H H' : Hp} (e : Same H H') {l : Addr} (h : H' l = Option.none) : H l = Option.none := by
 cases q : H l with
 | none => rfl
 | some o =>
  rw [e l o q] at h
  cases h
theorem Same.seq {K : PySem.W.Frag} {H H' : Hp} {a : Addr} {xs : List V} (e : Same H H') (h : SqL K H a xs) : SqL K H' a xs := by
 rcases h with (h | ⟨o, h⟩) | h
 ·exact .inl (.inl (e _ _ h))
 ·exact .inl (.inr ⟨o, e _ _ h⟩)
 ·exact .inr h
end L2
set_option maxHeartbeats 4000000
namespace L2
open PySem PySem.Spec PyProof.Rows
section
variable {X : Cx}
def rSlS : V → Option Int → Option Int → Hp → VK → Prop := fun x lo hi H Q => ∃ z, x = .str z ∧ z.length ≤ sizeLine ∧ Q (.str (Txt.slice z lo hi)) H
theorem sl_str : SlR X rSlS := by
 intro pins s σ H x v vl vu lo hi sl Q I rx hs pl pu h
 obtain ⟨z, rfl, hz, q⟩ := h
 obtain ⟨t, rfl⟩ := rx
 refine ⟨"str", _, F.slot_str_getitem.lookup, typeIs_str _ _ _, ?_⟩
 obtain ⟨o, ho, hc, hd⟩ := hs
 have fin : ∀ t' k, EP X pins σ Q (.str (Txt.slice z lo hi) t') { s with toks := k } := fun t' k => ⟨.str _, H, I.tok k, ⟨t', rfl⟩, q⟩
 cases pl with
 | none =>
  cases pu with
  | none => exact wpAny_getItem_str_slice (l := none) (u := none) (st := none) ⟨o, ho, hc, hd⟩ rfl (post_val_or_str ⟨Nat.le_trans (Txt.slice_le z _ _) hz, fin⟩)
  | int j uj => exact wpAny_getItem_str_slice (l := none) (u := some (j, uj)) (st := none) ⟨o, ho, hc, hd⟩ rfl (post_val_or_str ⟨Nat.le_trans (Txt.slice_le z _ _) hz, fin⟩)
 | int i ui =>
  cases pu with
  | none => exact wpAny_getItem_str_slice (l := some (i, ui)) (u := none) (st := none) ⟨o, ho, hc, hd⟩ rfl (post_val_or_str ⟨Nat.le_trans (Txt.slice_le z _ _) hz, fin⟩)
  | int j uj => exact wpAny_getItem_str_slice (l := some (i, ui)) (u := some (j, uj)) (st := none) ⟨o, ho, hc, hd⟩ rfl (post_val_or_str ⟨Nat.le_trans (Txt.slice_le z _ _) hz, fin⟩)
end
def Its (x : Str) : It := ⟨fun i _ => i < x.cps.size, fun i H v H' => H' = H ∧ ∃ c, x.cps[i]? = some c ∧ v = .str ⟨#[c]⟩, fun i _ => x.cps.size ≤ i⟩
theorem turn_str {P : Program} {w : World} {K : PySem.W.Frag} {x : Str} {y : Str} {py : Pos} {it : Addr} {St : Nat → Heap → Prop}
  (W : ∀ A' : Around, A'.handled = none → Walks P w A' it [it] [it] x.cps.size (SignAt x) St) (hobj : ∀ i h, St i h → ∃ o, h.get? it = some o ∧ ∀ v, o.data ≠ .cell v) (W0 : ∀ (A : Around) (i : Nat) (s : Shared) (Q : Value → Shared → Prop) (E : Value → Shared → Prop), St i s.heap → Q (.ref it) s → wpAny (model P w) A (pyIter (.ref it)) Q E s) :
  Turn P w K (.Name y py) (Its x) [it] it (fun i h => i ≤ x.cps.size ∧ St i h) where
 mem := by simp
 obj := fun i h st b hb => by
  have e : b = it := by simpa using hb
  subst e
  exact hobj i h st.2
 keep := fun i h h' st k => ⟨st.1, (W { } rfl).frame i h h' st.2 k⟩
 item := by
  intro X hP hw hK hc i pins s σ H E I hf st hg
  subst hP hw hK
  obtain ⟨f0, f1, f2, f3, f4, f5⟩ := hf it (by simp)
  refine (W X.A (I.ok.hd hc)).item i s _ _ hg st.2 fun v h' tk hv st' kk => ?_
  obtain ⟨c, u, hcx, rfl⟩ := hv
  have I1 : Inv X pins σ H { s with heap := h', toks := tk } := I.turned (fun b o hb e => kk b o (by simpa using hb) e) f0 f1 f3 f4 f5
  exact ⟨_, rfl, wpAny_pure ⟨.str ⟨#[c]⟩, H, I1, ⟨u, rfl⟩, ⟨rfl, c, hcx, rfl⟩, ⟨hg, st'⟩, fun b hb => (hf b hb).1⟩⟩
 done := by
  intro X hP hw hK hc i pins s σ H E I hf st hg
  subst hP hw hK
  obtain ⟨f0, f1, f2, f3, f4, f5⟩ := hf it (by simp)
  have e : i = x.cps.size := Nat.le_antisymm st.1 hg
  subst e
  exact (W X.A (I.ok.hd hc)).done s _ _ st.2 fun h' tk kk => ⟨rfl, I.turned (fun b o hb e => kk b o (by simpa using hb) e) f0 f1 f3 f4 f5⟩
 self := fun A i s Q E st h => W0 A i s Q E st.2 h
section
variable {X : Cx}
theorem vals_bl_get {bs : List Bool} {its : List Value} (r : Vals (bs.map V.bl) its) {i : Nat} {v : Value} (h : its.toArray[i]? = some v) : v = .bool (bs.getD i false) := by
 have hl := r.length
 have hi : i < its.length := by
  have := Array.getElem?_eq_some_iff.mp h
  obtain ⟨h1, _⟩ := this
  simpa using h1
 have hb : i < bs.length := by rw [List.length_map] at hl; omega
 obtain ⟨u, hu, ru⟩ := r.get (i := i) (x := V.bl bs[i]) (by simp [hb])
 have e : some u = some v := by rw [← hu, ← h]; simp
 have e1 : u = v := Option.some.inj e
 have e2 : u = Value.bool bs[i] := ru
 rw [← e1, e2]
 simp [hb]
theorem range_all_bs (bs : List Bool) : (List.range bs.length).all (fun i => bs.getD i false) = bs.all id := by
 rw [Bool.eq_iff_iff]
 simp only [List.all_eq_true, List.mem_range, id]
 constructor
 ·intro h x hx
  obtain ⟨i, hi, rfl⟩ := List.mem_iff_getElem.mp hx
  have := h i hi
  simpa [hi] using this
 ·intro h i hi
  have := h bs[i] (List.getElem_mem hi)
  simpa [hi] using this
theorem range_any_bs (bs : List Bool) : (List.range bs.length).any (fun i => bs.getD i false) = bs.any id := by
 rw [Bool.eq_iff_iff]
 simp only [List.any_eq_true, List.mem_range, id]
 constructor
 ·rintro ⟨i, hi, h⟩
  exact ⟨bs[i], List.getElem_mem hi, by simpa [hi] using h⟩
 ·rintro ⟨x, hx, h⟩
  obtain ⟨i, hi, rfl⟩ := List.mem_iff_getElem.mp hx
  exact ⟨i, hi, by simpa [hi] using h⟩
theorem call_allB (hc : X.calm = true) : CallR X (.builtin "all") (fun xs H Q => ∃ (p : Addr) (bs : List Bool), xs = [.ref p] ∧ SqL X.K H p (bs.map V.bl) ∧ Q (.bl (bs.all id)) H) := by
 intro pins s σ H xs us Q I r h
 obtain ⟨p, bs, rfl, hp, q⟩ := h
 obtain ⟨u, rfl, ru⟩ := vals1 r
 cases ru
 obtain ⟨its, rv, pl, hz⟩ := I.list hp
 have hl := rv.length
 rw [List.length_map] at hl
 have hlt : p < s.heap.objs.size := by obtain ⟨_, e, _⟩ := pl.isList; exact Heap.lt_size e
 refine call_all_walk (wpAny_pyIter_list pl.isList ?_)
 refine ⟨s.heap.objs.size, _, _, _, _, _, fun i => bs.getD i false, rfl, Walks.list (A := X.A.in1) (I.ok.hd hc) s.heap.objs.size p (Nat.ne_of_lt hlt) its.toArray, ⟨⟨_, Heap.get?_push_size _ rfl, rfl, rfl⟩, pl.isList.push _⟩, fun i v s' Q' E' hv hq => ?_, fun h' tk kk => ?_⟩
 ·rw [vals_bl_get rv hv]
  exact wpAny_truthy_bool hq
 ·have e : (List.range its.toArray.size).all (fun i => bs.getD i false) = bs.all id := by
   rw [List.size_toArray, ← hl]; exact range_all_bs bs
  rw [e]
  refine ⟨.bl _, H, I.kept (t' := tk) fun b o e => kk b o (fun z => ?_) (Heap.get?_push_of_some _ e), rfl, q⟩
  have z' : b = s.heap.objs.size := by simpa using z
  exact absurd (Heap.lt_size e) (by rw [z']; exact Nat.lt_irrefl _)
theorem call_anyB (hc : X.calm = true) : CallR X (.builtin "any") (fun xs H Q => ∃ (p : Addr) (bs : List Bool), xs = [.ref p] ∧ SqL X.K H p (bs.map V.bl) ∧ Q (.bl (bs.any id)) H) := by
 intro pins s σ H xs us Q I r h
 obtain ⟨p, bs, rfl, hp, q⟩ := h
 obtain ⟨u, rfl, ru⟩ := vals1 r
 cases ru
 obtain ⟨its, rv, pl, hz⟩ := I.list hp
 have hl := rv.length
 rw [List.length_map] at hl
 have hlt : p < s.heap.objs.size := by obtain ⟨_, e, _⟩ := pl.isList; exact Heap.lt_size e
 refine call_any_walk (wpAny_pyIter_list pl.isList ?_)
 refine ⟨s.heap.objs.size, _, _, _, _, _, fun i => bs.getD i false, rfl, Walks.list (A := X.A.in1) (I.ok.hd hc) s.heap.objs.size p (Nat.ne_of_lt hlt) its.toArray, ⟨⟨_, Heap.get?_push_size _ rfl, rfl, rfl⟩, pl.isList.push _⟩, fun i v s' Q' E' hv hq => ?_, fun h' tk kk => ?_⟩
 ·rw [vals_bl_get rv hv]
  exact wpAny_truthy_bool hq
 ·have e : (List.range its.toArray.size).any (fun i => bs.getD i false) = bs.any id := by
   rw [List.size_toArray, ← hl]; exact range_any_bs bs
  rw [e]
  refine ⟨.bl _, H, I.kept (t' := tk) fun b o e => kk b o (fun z => ?_) (Heap.get?_push_of_some _ e), rfl, q⟩
  have z' : b = s.heap.objs.size := by simpa using z
  exact absurd (Heap.lt_size e) (by rw [z']; exact Nat.lt_irrefl _)
end
end L2
namespace L2
open PySem PySem.Spec PyProof.Rows
def clOf (env : Env) : List (Str × NameKind) → List (Str × Addr) → List (Str × Addr)
 | [], acc => acc
 | (n, k) :: r, acc => if k = .free then clOf env r ((n, (env.cells.lookup n).getD 0) :: acc) else clOf env r acc
theorem clos_loop (env : Env) : ∀ (l : List (Str × NameKind)) (acc : List (Str × Addr)), (∀ y ∈ l, y.2 = .free → (env.cells.lookup y.1).isSome = true) →
  (forIn l acc fun (x : Str × NameKind) (cs : List (Str × Addr)) => (if (x.2 == NameKind.free) = true then (cellOf env x.1 >>= fun a => (pure (ForInStep.yield ((x.1, a) :: cs)) : Sem _)) else pure (ForInStep.yield cs))) = (pure (clOf env l acc) : Sem _)
 | [], acc, _ => by rw [List.forIn_nil]; rfl
 | (n, k) :: r, acc, h => by
  rw [List.forIn_cons]
  have hr := fun acc' => clos_loop env r acc' (fun y hy => h y (List.mem_cons_of_mem _ hy))
  by_cases hk : k = .free
  ·subst hk
   obtain ⟨a, ha⟩ := Option.isSome_iff_exists.mp (h (n, .free) List.mem_cons_self rfl)
   have e1 : cellOf env n = pure a := by unfold cellOf; rw [ha]
   have e2 : clOf env ((n, NameKind.free) :: r) acc = clOf env r ((n, a) :: acc) := by
    show (if NameKind.free = NameKind.free then clOf env r ((n, (env.cells.lookup n).getD 0) :: acc) else _) = _
    rw [if_pos rfl, ha]; rfl
   rw [e2]
   have q := hr ((n, a) :: acc)
   rw [← q]
   show ((cellOf env n >>= fun a => (pure (ForInStep.yield ((n, a) :: acc)) : Sem _)) >>= _) = _
   rw [e1]
   rfl
  ·have hb : (k == NameKind.free) = false := by simpa using hk
   have e2 : clOf env ((n, k) :: r) acc = clOf env r acc := by
    show (if k = NameKind.free then _ else clOf env r acc) = _
    rw [if_neg hk]
   rw [e2]
   have q := hr acc
   rw [← q]
   show ((if (k == NameKind.free) = true then _ else _) >>= _) = _
   rw [hb]
   rfl
theorem clos_eq {scope : Scope} {env : Env} (h : ∀ y ∈ scope.names, y.2 = .free → (env.cells.lookup y.1).isSome = true) : closureFor scope env = pure (clOf env scope.names []) := by
 have q := clos_loop env scope.names [] h
 unfold closureFor
 rw [← bind_pure (forIn scope.names [] _)] at q
 first
  | exact q
  | (simp only [bind_pure] at q ⊢; exact q)
theorem clOf_sub (env : Env) : ∀ (l : List (Str × NameKind)) (acc : List (Str × Addr)), (∀ y ∈ l, y.2 = .free → (env.cells.lookup y.1).isSome = true) → (∀ y c, acc.lookup y = some c → env.cells.lookup y = some c) →
  ∀ y c, (clOf env l acc).lookup y = some c → env.cells.lookup y = some c
 | [], acc, _, ha, y, c, h => ha y c h
 | (n, k) :: r, acc, hl, ha, y, c, h => by
  have hl' : ∀ y ∈ r, y.2 = .free → (env.cells.lookup y.1).isSome = true := fun y hy => hl y (List.mem_cons_of_mem _ hy)
  by_cases hk : k = .free
  ·have e : clOf env ((n, k) :: r) acc = clOf env r ((n, (env.cells.lookup n).getD 0) :: acc) := by
    show (if k = NameKind.free then _ else _) = _
    rw [if_pos hk]
   rw [e] at h
   refine clOf_sub env r _ hl' (fun z d hz => ?_) y c h
   rw [List.lookup_cons] at hz
   split at hz
   ·rename_i hzn
    have en : z = n := by simpa using hzn
    cases hz
    obtain ⟨a, ha'⟩ := Option.isSome_iff_exists.mp (hl (n, k) List.mem_cons_self hk)
    rw [en, ha']; rfl
   ·exact ha z d hz
  ·have e : clOf env ((n, k) :: r) acc = clOf env r acc := by
    show (if k = NameKind.free then _ else _) = _
    rw [if_neg hk]
   rw [e] at h
   exact clOf_sub env r _ hl' ha y c h
theorem clOf_has (env : Env) : ∀ (l : List (Str × NameKind)) (acc : List (Str × Addr)) (y : Str), (acc.lookup y).isSome = true ∨ (y, NameKind.free) ∈ l → ∃ c, (clOf env l acc).lookup y = some c
 | [], acc, y, h => by
  rcases h with h | h
  ·exact Option.isSome_iff_exists.mp h
  ·cases h
 | (n, k) :: r, acc, y, h => by
  by_cases hk : k = .free
  ·have e : clOf env ((n, k) :: r) acc = clOf env r ((n, (env.cells.lookup n).getD 0) :: acc) := by
    show (if k = NameKind.free then _ else _) = _
    rw [if_pos hk]
   rw [e]
   refine clOf_has env r _ y ?_
   rcases h with h | h
   ·left
    rw [List.lookup_cons]
    split
    ·rfl
    ·exact h
   ·rcases List.mem_cons.mp h with h | h
    ·left
     cases h
     rw [List.lookup_cons]
     simp
    ·exact .inr h
  ·have e : clOf env ((n, k) :: r) acc = clOf env r acc := by
    show (if k = NameKind.free then _ else _) = _
    rw [if_neg hk]
   rw [e]
   refine clOf_has env r _ y ?_
   rcases h with h | h
   ·exact .inl h
   ·rcases List.mem_cons.mp h with h | h
    ·cases h; exact absurd rfl hk
    ·exact .inr h
theorem relabel_mem {scope : Scope} {env : Env} {y : Str} {k : NameKind} (h : (relabel scope env).names.lookup y = some k) : (y, k) ∈ scope.names ∨ (y, NameKind.free) ∈ scope.names := by
 have m := PySem.mem_of_lookup h
 obtain ⟨⟨n, k'⟩, hm, e⟩ := List.mem_map.mp (show (y, k) ∈ scope.names.map _ from m)
 dsimp only at e
 split at e
 ·rename_i hc
  cases e
  simp only [Bool.and_eq_true, beq_iff_eq] at hc
  right
  rw [← hc.1.1]
  exact hm
 ·cases e
  exact .inl hm
structure CompSc (X : Cx) (scope : Scope) (x : Str) (cl : List (Str × Addr)) (N : List Str) (cap : List Nat) : Prop where
 clos : closureFor scope X.env = pure cl
 cell : ∀ y ∈ scope.names, y.2 ≠ .cell
 kind : scope.kind = .function
 names : ∀ y ∈ scope.names, y.2 = .local → scope.names.lookup y.1 = some .local
 loc : scope.names.lookup x = some .local
 nd : N.Nodup
 n0 : N[0]? = some x
 len : N.length = cap.length + 1
 capN : ∀ (k j : Nat), cap[k]? = some j → N[k + 1]? = X.N[j]?
 out : ∀ (k : Nat) (y : Str), N[k + 1]? = some y → X.env.kindOf y = some .cell ∨ X.env.kindOf y = some .free
 inn : ∀ (k : Nat) (y : Str), N[k + 1]? = some y → (relabel scope X.env).names.lookup y = some .cell ∨ (relabel scope X.env).names.lookup y = some .free
 sub : ∀ y c, cl.lookup y = some c → X.env.cells.lookup y = some c
 has : ∀ y, ((relabel scope X.env).names.lookup y = some .cell ∨ (relabel scope X.env).names.lookup y = some .free) → ∃ c, cl.lookup y = some c
def cxComp (X : Cx) (scope : Scope) (cl : List (Str × Addr)) (C : Addr) (N : List Str) (s : Shared) (H : Hp) (ex : List Addr) : Cx where
 prog := X.prog
 w := X.w
 K := X.K
 mg := X.mg
 base := X.base
 A := X.A
 N := N
 s₀ := s
 H₀ := H
 env := compEnvC scope cl C X.env
 outer := X.stack
 stack := X.stack
 ex := ex
 calm := X.calm
 fn := fun _ => false
 pn := []
 xe := fun _ _ => False
def capS (cap : List Nat) (σ : St) (x : Option V) : St := x :: cap.map fun j => (σ[j]?).getD none
section
variable {X : Cx} {pins : List (Addr × Obj)} {σ : St} {H : Hp} {s : Shared} {scope : Scope} {x : Str} {cl : List (Str × Addr)} {N : List Str} {cap : List Nat} {C : Addr} {fp : List Addr}
theorem cxComp_ok (S : CompSc X scope x cl N cap) (I : Inv X pins σ H s) (hC : s.heap.objs.size ≤ C) (hfp : ∀ b ∈ fp, FpOk X pins H b ∧ b < s.heap.objs.size) : (cxComp X scope cl C N s H fp).Ok where
 mod := I.ok.mod
 kind := S.kind
 glob := I.ok.glob
 blt := I.ok.blt
 above := hC
 inj := fun y z c h1 h2 => I.ok.inj y z c (S.sub y c h1) (S.sub z c h2)
 has := fun y h => S.has y h
 cab := fun y c h => by cases h
 hd := I.ok.hd
 frames := I.ok.frames
 stk := .inl rfl
 exf := fun b hb => ⟨Nat.ne_of_lt (Nat.lt_of_lt_of_le (hfp b hb).2 hC), fun y c h => (hfp b hb).1.2.2.2.2.1 y c (S.sub y c h)⟩
 bs := I.bs
 bsz := Nat.le_trans I.ok.bsz I.sz
 noex := fun b o e hb => by
  rcases (hfp b hb).1.2.2.2.1 with z | z
  ·exact I.ok.noex b o e z
  ·exact absurd (Nat.lt_of_lt_of_le (Heap.lt_size e) (Nat.le_trans I.ok.bsz z)) (Nat.lt_irrefl _)
 exfs := fun b hb z => by
  rcases List.mem_cons.mp (I.stkSub b z) with e | e
  ·exact (hfp b hb).1.2.1 e
  ·exact (hfp b hb).1.2.2.1 e
 funs := I.stack
 frf := I.stkFree
theorem comp_start {h₁ : Heap} {tk : Nat} {m : Str → Option Value} (S : CompSc X scope x cl N cap) (I : Inv X pins σ H s) (hC : s.heap.objs.size ≤ C) (hfp : ∀ b ∈ fp, FpOk X pins H b ∧ b < s.heap.objs.size)
  (hns : h₁.Ns C m) (old : ∀ b o, s.heap.get? b = some o → h₁.get? b = some o) : Inv (cxComp X scope cl C N s H fp) [] (capS cap σ none) H { s with heap := h₁, toks := tk } := by
 refine ⟨cxComp_ok S I hC hfp, rfl, I.bare, Un.kept old, ⟨m, hns, fun i y v h1 h2 h3 => ?_⟩, fun y c h => ?_, I.hok.fresh hC, fun y c h => I.freeC y c (S.sub y c h), fun p hp => absurd (show p ∈ ([] : List (Addr × Obj)) from hp) (by simp), I.hok.kept old, ?_⟩
 ·cases i with
  | zero => exact absurd h2 (by simp [capS])
  | succ k =>
   have h2' : (cap.map fun j => (σ[j]?).getD none)[k]? = some (some v) := by simpa [capS] using h2
   rw [List.getElem?_map] at h2'
   cases ej : cap[k]? with
   | none => rw [ej] at h2'; cases h2'
   | some j =>
    rw [ej] at h2'
    have e1 : (σ[j]?).getD none = some v := by simpa using h2'
    have e2 : σ[j]? = some (some v) := by
     cases q : σ[j]? with
     | none => rw [q] at e1; cases e1
     | some z => rw [q] at e1; exact congrArg some e1
    have e3 : X.N[j]? = some y := (S.capN k j ej).symm.trans h1
    obtain ⟨m2, hn2, hl⟩ := I.loc
    have ko := S.out k y h1
    have vis : Vis X.env.scope y := .inr ko
    obtain ⟨u, ru, lk⟩ := hl j y v e3 e2 vis
    refine ⟨u, ru, .inr ⟨S.inn k y h1, ?_⟩⟩
    rcases lk with ⟨kl, _⟩ | ⟨_, c, hc, cell⟩
    ·rcases ko with z | z <;> (rw [z] at kl; cases kl)
    ·obtain ⟨c', hc'⟩ := S.has y (S.inn k y h1)
     have e4 := S.sub y c' hc'
     rw [hc] at e4
     cases e4
     obtain ⟨o, ho, hd⟩ := cell
     exact ⟨c, hc', o, old c o ho, hd⟩
 ·obtain ⟨v, o, ho, hd⟩ := I.cell y c (S.sub y c h)
  exact ⟨v, o, old c o ho, hd⟩
 ·show (capS cap σ none).length = N.length
  rw [S.len]
  simp [capS]
end
def PTs (X : Cx) (ifs : List Expr) (t : TT) : Prop :=
 ∀ (pins : List (Addr × Obj)) (s : Shared) (σ : St) (H : Hp) (Q : Bool → Hp → Prop), Inv X pins σ H s → t σ H Q →
  wpAny (model X.prog X.w) X.A (forIn ifs true fun c r => if r = true then do let ok ← isTrue c X.env (eval c X.env); pure (ForInStep.yield ok) else pure (ForInStep.yield r)) (TP X pins σ Q) X.xe s
def tYes : TT := fun _ H Q => Q true H
theorem pts_nil {X : Cx} : PTs X [] tYes := fun _ _ _ H _ I h => wpAny_tests_nil ⟨H, I, h⟩
theorem pts_one {X : Cx} {c : Expr} {t : TT} (h : PT X c t) : PTs X [c] t := fun pins s σ H Q I hq => wpAny_tests_one (h pins s σ H Q I hq)
def CompW (cap : List Nat) (tt : TT) (te : TE) (σ : St) (P : List V → Hp → Prop) (J : It) (H1 : Hp) : Prop :=
  ∃ W : Nat → Nat → List V → Hp → Prop, (∃ m, W 0 m [] H1) ∧ ∀ i m ys H, W i m ys H → ys.length < sizeLine ∧
    ((J.stop i H ∧ P ys H) ∨
     (J.go i H ∧ ∀ v H', J.yld i H v H' → tt (capS cap σ (some v)) H' fun b H2 => if b = true then te (capS cap σ (some v)) H2 fun y H3 => ∃ m', m' < m ∧ W (i + 1) m' (ys ++ [y]) H3 else ∃ m', m' < m ∧ W (i + 1) m' ys H2))
def tComp (wi : TI) (cap : List Nat) (tt : TT) (te : TE) : TE := fun σ H Q => wi σ H (CompW cap tt te σ fun ys H2 => ∀ p, H2 p = none → Q (.ref p) (upd H2 p (.lst ys)))
abbrev lstO (ys : List Value) (n : Nat) : Obj := { cls := .type "list", data := .seq ys.toArray n }
theorem Un.track {fs ex : List Addr} {H H' : Hp} {h h1 : Heap} {a : Addr} {o : HO} (u : Un fs ex H H' h h1) (ha : h.objs.size ≤ a) (hn : H' a = none) : Un fs ex H (upd H' a o) h h1 where
 keep := u.keep
 slot := u.slot
 free := fun b ob e n hx => by rw [upd_ne (Nat.ne_of_lt (Nat.lt_of_lt_of_le (Heap.lt_size e) ha))]; exact u.free b ob e n hx
 there := u.there
 tups := fun b xs e => by have q := u.tups b xs e; rw [upd_ne (ne_of_none q hn)]; exact q
 frzs := fun b ob v e => by have q := u.frzs b ob v e; rw [upd_ne (ne_of_none q hn)]; exact q
 tbls := fun b ps e => by obtain ⟨more, q⟩ := u.tbls b ps e; exact ⟨more, by rw [upd_ne (ne_of_none q hn)]; exact q⟩
theorem HOk.track {P : Program} {w : World} {H : Hp} {h : Heap} {a : Addr} {o : HO} (x : HOk P w H h) (hn : H a = none) (new : ObjOk P w (upd H a o) h a o) : HOk P w (upd H a o) h := fun b u e => by
 by_cases hb : b = a
 ·subst hb; rw [upd_same] at e; cases e; exact new
 ·rw [upd_ne hb] at e
  exact (x b u e).stay (fun c v _ q => q) (fun c q => by rw [upd_ne (ne_of_none q hn)]; exact q) fun c xs q => by rw [upd_ne (ne_of_none q hn)]; exact q
section
variable {X : Cx} {pins : List (Addr × Obj)} {σ : St} {scope : Scope} {x : Str} {px pos : Pos} {cl : List (Str × Addr)} {N : List Str} {cap : List Nat} {elt iter : Expr} {ifs : List Expr} {tt : TT} {te : TE} {E : Value → Shared → Prop}
theorem comp_core {P : List V → Hp → Prop} {RR : Value → Addr → Result → Shared → Prop} {H2 : Hp} {s2 : Shared} {it : Addr} {fp : List Addr} {tn : Nat → Heap → Prop} {J : It} (hc : X.calm = true) (S : CompSc X scope x cl N cap)
  (ht : ∀ C s H ex, PTs (cxComp X scope cl C N s H ex) ifs tt) (he : ∀ C s H ex, PE (cxComp X scope cl C N s H ex) elt te)
  (I2 : Inv X pins σ H2 s2) (T : Turn X.prog X.w X.K (.Name x px) J fp it tn) (st2 : tn 0 s2.heap) (f2 : ∀ b ∈ fp, FpOk X pins H2 b) (h : CompW cap tt te σ P J H2)
  (hRR : ∀ (D C : Addr) (s4 : Shared) (ys : List V) (H3 : Hp) (oC : Obj) (m : Str → Option Value), Inv X (pins ++ [(C, oC)]) σ (upd H3 D (.lst ys)) s4 → (∀ h : Heap, h.get? C = some oC → h.Ns C m) → FpOk X pins (upd H3 D (.lst ys)) C → H3 D = none → P ys H3 → RR (.ref D) C (.ok .next) s4) :
  wpAny (model X.prog X.w) X.A (newList []) (fun acc s₃ => wpAny (model X.prog X.w) X.A (newFunctionEnv scope X.env.globals cl [] X.env.qual none .none (some X.env)) (fun cenv s₄ =>
   codeAny (model X.prog X.w) X.A (.compStart (.ListComp elt [⟨.Name x px, iter, ifs, 0⟩] scope pos) 0 (.ref it) acc { cenv with scope := relabel scope X.env }) (RR acc cenv.locals) s₄) E s₃) E s2 := by
 obtain ⟨W, ⟨m0, w0⟩, turn⟩ := h
 refine wpAny_newObj_type (wpAny_newFunctionEnv S.cell (by intro y hy; simp at hy) (fun h₁ hns₁ hsb₁ => ?_) S.kind)
 dsimp only at hns₁ hsb₁ ⊢
 generalize hG : s2.heap.push { cls := .type "list", dict := none, data := .seq ([] : List Value).toArray } = G at hns₁ hsb₁ ⊢
 have hC : G.objs.size = s2.heap.objs.size + 1 := by rw [← hG, Heap.size_push]
 have hDC : s2.heap.objs.size ≠ G.objs.size := by rw [hC]; exact Nat.ne_of_lt (Nat.lt_succ_self _)
 have hCle : s2.heap.objs.size ≤ G.objs.size := by rw [hC]; exact Nat.le_succ _
 have old : ∀ b o, s2.heap.get? b = some o → h₁.get? b = some o := fun b o e => by
  have hb := Heap.lt_size e
  exact hsb₁.extBut b o (by rw [hC]; exact Nat.ne_of_lt (Nat.lt_succ_of_lt hb)) (Heap.get?_push_of_some _ (hG ▸ Heap.get?_push_of_some _ e))
 have hacc : h₁.get? s2.heap.objs.size = some (lstO [] 0) := hsb₁.extBut _ _ hDC (Heap.get?_push_of_some _ (hG ▸ Heap.get?_push_size _ rfl))
 have flt : ∀ b ∈ fp, b < s2.heap.objs.size := fun b hb => by obtain ⟨o, e, _⟩ := T.obj 0 _ st2 b hb; exact Heap.lt_size e
 have fp2 : ∀ b ∈ fp, FpOk X pins H2 b ∧ b < s2.heap.objs.size := fun b hb => ⟨f2 b hb, flt b hb⟩
 have st1 : tn 0 h₁ := T.keep _ _ _ st2 fun b _ o e => old b o e
 have fD2 : H2 s2.heap.objs.size = none := I2.hok.fresh (Nat.le_refl _)
 have nDx : ∀ y c, X.env.cells.lookup y = some c → c ≠ s2.heap.objs.size ∧ c ≠ G.objs.size := fun y c e => by
  obtain ⟨v, q⟩ := I2.cell y c e
  have := q.lt
  exact ⟨Nat.ne_of_lt this, by rw [hC]; exact Nat.ne_of_lt (Nat.lt_succ_of_lt this)⟩
 have nPx : ∀ p ∈ X.pn ++ pins, p.1 < s2.heap.objs.size := fun p hp => Heap.lt_size (I2.pin p hp).1
 have fpB : ∀ {H' : Hp} {pl : List (Addr × Obj)}, (∀ b ∈ fp, H' b = none) → (∀ p ∈ pl, p.1 = s2.heap.objs.size) → ∀ b ∈ fp, FpOk (cxComp X scope cl G.objs.size N s2 H2 fp) pl H' b := fun {H' pl} hn hp b hb => by
  refine ⟨hn b hb, Nat.ne_of_lt (Nat.lt_of_lt_of_le (flt b hb) hCle), fun z => ?_, .inl hb, fun y c e => (f2 b hb).2.2.2.2.1 y c (S.sub y c e), fun p hq z => ?_⟩
  ·rcases List.mem_cons.mp (I2.stkSub b z) with e | e
   ·exact (f2 b hb).2.1 e
   ·exact (f2 b hb).2.2.1 e
  ·have e1 : p.1 = s2.heap.objs.size := hp p (by simpa [cxComp] using hq)
   rw [e1] at z
   exact absurd (flt b hb) (by rw [← z]; exact Nat.lt_irrefl _)
 have nDfs : s2.heap.objs.size ∉ frs X.stack := fun z => by
  rcases List.mem_cons.mp (I2.stkSub _ z) with e | e
  ·exact absurd I2.lt (by rw [← e]; exact Nat.lt_irrefl _)
  ·exact I2.nofs (Nat.le_refl _) e
 have pinD : ∀ {σ' : St} {H' : Hp} {s' : Shared} {ob : Obj}, Inv (cxComp X scope cl G.objs.size N s2 H2 fp) [] σ' H' s' → s'.heap.get? s2.heap.objs.size = some ob → (∀ v, ob.data ≠ .cell v) → H' s2.heap.objs.size = none →
   Inv (cxComp X scope cl G.objs.size N s2 H2 fp) [(s2.heap.objs.size, ob)] σ' H' s' := fun {σ' H' s' ob} J' e d n => J'.pins_of fun p hp => by
  have e1 : p = (s2.heap.objs.size, ob) := by simpa using hp
  subst e1
  exact ⟨e, n, hDC, nDfs, d⟩
 have nocell : ∀ (ys : List Value) (n : Nat) v, (lstO ys n).data ≠ .cell v := fun ys n v z => by cases (show Data.seq ys.toArray n = Data.cell v from z)
 have loop : ∀ s₃ : Shared, s₃ = { s2 with heap := h₁, toks := s2.toks + ([] : List (Str × Value)).length } →
   codeAny (model X.prog X.w) X.A (.compLoop (.ListComp elt [⟨.Name x px, iter, ifs, 0⟩] scope pos) 0 (.ref it) (.ref s2.heap.objs.size) (compEnvC scope cl G.objs.size X.env)) (RR (.ref s2.heap.objs.size) G.objs.size) s₃ := by
  rintro s₃ rfl
  refine codeAny_compLoop_tests
   (fun n s' => ∃ i ys vs e H' a, Inv (cxComp X scope cl G.objs.size N s2 H2 fp) [(s2.heap.objs.size, lstO vs e)] (capS cap σ a) H' s' ∧ tn i s'.heap ∧ (∀ b ∈ fp, H' b = none) ∧ Vals ys vs ∧ H' s2.heap.objs.size = none ∧ W i n ys H') ?_ m0
   ⟨0, [], [], 0, H2, none, pinD (comp_start S I2 hCle fp2 hns₁ old) hacc (nocell _ _) fD2, st1, fun b hb => (f2 b hb).1, .nil, fD2, w0⟩
  rintro n s3 ⟨i, ys, vs, e, H3, a, I3, st3, fr3, rel3, fD3, w3⟩
  obtain ⟨hlen, hcase⟩ := turn i n ys H3 w3
  have pl1 : ∀ p ∈ [(s2.heap.objs.size, lstO vs e)], p.1 = s2.heap.objs.size := fun p hp => by
   have e1 : p = (s2.heap.objs.size, lstO vs e) := by simpa using hp
   rw [e1]
  rcases hcase with ⟨stop, fin⟩ | ⟨go, step⟩
  ·refine wpAny_mono (T.done (cxComp X scope cl G.objs.size N s2 H2 fp) rfl rfl rfl hc i _ s3 _ H3 (fun _ _ => False) I3 (fpB fr3 pl1) st3 stop) (fun r s4 ⟨hr, I4⟩ => ?_) fun _ _ z => z.elim
   subst hr
   obtain ⟨hD4, hDn, _, _, _⟩ := I4.pin (s2.heap.objs.size, lstO vs e) (by simp [cxComp])
   have un4 : Un (frs X.stack) fp H2 H3 s2.heap s4.heap := I4.base
   have un5 : Un (frs X.stack) fp H2 (upd H3 s2.heap.objs.size (.lst ys)) s2.heap s4.heap := un4.track (Nat.le_refl _) hDn
   have ok5 : HOk X.prog X.w (upd H3 s2.heap.objs.size (.lst ys)) s4.heap := HOk.track I4.hok hDn ⟨Nat.le_of_lt hlen, vs, e, rel3, hD4⟩
   have I5 : Inv X pins σ (upd H3 s2.heap.objs.size (.lst ys)) s4 := I2.call' I4.os un5 ok5 I4.bare fun b hb => ⟨(f2 b hb).2.2.2.1, (f2 b hb).2.1, (f2 b hb).2.2.2.2.1, (f2 b hb).2.2.2.2.2⟩
   obtain ⟨m, hnC, _⟩ := I4.loc
   have hnC' : s4.heap.Ns G.objs.size m := hnC
   obtain ⟨oC, es, ep, hoC, hdC, hrC⟩ := id hnC'
   have hHC : (upd H3 s2.heap.objs.size (.lst ys)) G.objs.size = none := by
    rw [upd_ne (Ne.symm hDC)]
    exact I4.free
   have fC : FpOk X pins (upd H3 s2.heap.objs.size (.lst ys)) G.objs.size := by
    refine ⟨hHC, Nat.ne_of_gt (Nat.lt_of_lt_of_le I2.lt hCle), I2.nofs hCle, .inr (Nat.le_trans I2.sz hCle), fun y c q => (nDx y c q).2, fun p hp z => ?_⟩
    have := nPx p hp
    rw [z] at this
    exact absurd (Nat.lt_of_lt_of_le this hCle) (Nat.lt_irrefl _)
   refine hRR s2.heap.objs.size G.objs.size s4 ys H3 oC m (I5.pins_of fun p hp => ?_) (fun h q => ⟨oC, es, ep, q, hdC, hrC⟩) fC hDn fin
   rcases List.mem_append.mp hp with hp | hp
   ·exact I5.pin p (List.mem_append_right _ hp)
   ·have e1 : p = (G.objs.size, oC) := by simpa using hp
    subst e1
    exact ⟨hoC, hHC, fC.2.1, fC.2.2.1, fun v z => by rw [hdC] at z; cases z⟩
  ·refine wpAny_mono (T.item (cxComp X scope cl G.objs.size N s2 H2 fp) rfl rfl rfl hc i _ s3 _ H3 (fun _ _ => False) I3 (fpB fr3 pl1) st3 go) (fun r s4 ⟨u, hr, h4⟩ => ?_) fun _ _ z => z.elim
   subst hr
   show wpAny _ _ (letOwnedTupleGo (.Name x px) (.ref it) u >>= fun _ => assign (.Name x px) (compEnvC scope cl G.objs.size X.env) u) _ _ s4
   refine wpAny_bind (wpAny_mono h4 (fun _ s5 ⟨v, H5, I5, r5, y5, st5, fr5⟩ => ?_) fun _ _ z => z.elim)
   have I5' := I5.pinned (fpB fr5 pl1) (T.obj _ _ st5)
   have hloc : (cxComp X scope cl G.objs.size N s2 H2 fp).env.scope.names.lookup x = some .local := lookup_relabel_local S.loc
   refine wpAny_mono (pg_name (X := cxComp X scope cl G.objs.size N s2 H2 fp) (i := 0) (pos := px) S.nd S.n0 (.inl hloc) (.inr hloc) _ s5 _ H5 v u (fun σ6 H6 => σ6 = capS cap σ (some v) ∧ H6 = H5) I5' r5 ⟨rfl, rfl⟩) (fun _ s6 ⟨σ6, H6, I6, e6, e6'⟩ => ?_) fun _ _ z => z.elim
   subst e6 e6'
   refine wpAny_mono (ht _ _ _ _ _ s6 _ H6 _ I6 (step v H6 y5)) (fun ok s7 ⟨H7, I7, q7⟩ => ?_) fun _ _ z => z.elim
   have after : ∀ {H8 : Hp} {s8 : Shared}, Inv (cxComp X scope cl G.objs.size N s2 H2 fp) ([(s2.heap.objs.size, lstO vs e)] ++ pinsAt fp s5.heap) (capS cap σ (some v)) H8 s8 →
     tn (i + 1) s8.heap ∧ (∀ b ∈ fp, H8 b = none) ∧ s8.heap.get? s2.heap.objs.size = some (lstO vs e) ∧ H8 s2.heap.objs.size = none := fun {H8 s8} I8 => by
    refine ⟨T.keep _ _ _ st5 fun b hb o q => (I8.pin (b, o) (List.mem_append_right _ (List.mem_append_right _ (mem_pinsAt hb q)))).1, fun b hb => ?_, (I8.pin (s2.heap.objs.size, lstO vs e) (List.mem_append_right _ (List.mem_append_left _ List.mem_cons_self))).1, (I8.pin (s2.heap.objs.size, lstO vs e) (List.mem_append_right _ (List.mem_append_left _ List.mem_cons_self))).2.1⟩
    obtain ⟨o, q, _⟩ := T.obj _ _ st5 b hb
    exact (I8.pin (b, o) (List.mem_append_right _ (List.mem_append_right _ (mem_pinsAt hb q)))).2.1
   cases ok with
   | false =>
    rw [if_neg Bool.false_ne_true] at q7 ⊢
    obtain ⟨m', hm, w7⟩ := q7
    obtain ⟨st7, fr7, hD7, fD7⟩ := after I7
    exact ⟨m', hm, i + 1, ys, vs, e, H7, some v, I7.unpinned, st7, fr7, rel3, fD7, w7⟩
   | true =>
    rw [if_pos rfl] at q7 ⊢
    refine wpAny_mono (he _ _ _ _ _ s7 _ H7 _ I7 q7) (fun yv s8 ⟨y, H8, I8, r8, m', hm, w8⟩ => ?_) fun _ _ z => z.elim
    obtain ⟨st8, fr8, hD8, fD8⟩ := after I8
    refine append_at (hsz := by rw [List.size_toArray, ← rel3.length]; exact Nat.le_of_lt hlen) hD8 fun h9 hs9 hD9 => ?_
    have I8u : Inv (cxComp X scope cl G.objs.size N s2 H2 fp) [] (capS cap σ (some v)) H8 s8 := I8.pins_of fun p hp => absurd hp (by simp)
    have I9 : Inv (cxComp X scope cl G.objs.size N s2 H2 fp) [] (capS cap σ (some v)) H8 { s8 with heap := h9 } :=
     I8u.turned (t' := s8.toks) (it := s2.heap.objs.size) (fun b o hb q => (hs9.2 b hb).trans q) fD8 hDC (.inr (Nat.le_refl _)) (fun y c q => (nDx y c (S.sub y c q)).1) fun p hp => absurd (show p ∈ ([] : List (Addr × Obj)) from hp) (by simp)
    have hD9' : h9.get? s2.heap.objs.size = some (lstO (vs ++ [yv]) (e + 1)) := by
     rw [hD9]
     show some ({ cls := .type "list", data := .seq (vs.toArray.push yv) (e + 1) } : Obj) = some { cls := .type "list", data := .seq (vs ++ [yv]).toArray (e + 1) }
     rw [List.push_toArray]
    refine ⟨m', hm, i + 1, ys ++ [y], vs ++ [yv], e + 1, H8, some v, pinD I9 hD9' (nocell _ _) fD8, ?_, fr8, rel3.append (.cons r8 .nil), fD8, w8⟩
    exact T.keep _ _ _ st8 fun b hb o q => (hs9.2 b (Nat.ne_of_lt (flt b hb))).trans q
 exact codeAny_compStart_list (loop _ rfl) (T.self _ 0 _ _ _ st1 (loop _ rfl))
theorem pe_comp {wi : TI} (hc : X.calm = true) (hi : PI X (.Name x px) iter wi) (S : CompSc X scope x cl N cap) (ht : ∀ C s H ex, PTs (cxComp X scope cl C N s H ex) ifs tt) (he : ∀ C s H ex, PE (cxComp X scope cl C N s H ex) elt te)
  (hs : ∀ z, foldedSetIterable iter X.env z = pure z := by intro _; rfl) : PE X (.ListComp elt [⟨.Name x px, iter, ifs, 0⟩] scope pos) (tComp wi cap tt te) := by
 intro pins s σ H Q I h
 rw [eval_ListComp]
 refine wpAny_comprehension_free (use := none) rfl hs S.clos S.kind S.names (thn (hi pins s σ H _ I h) fun v s1 h1 => thn h1 fun itv s2 h2 => ?_)
 obtain ⟨it, fp, tn, J, H2, e, I2, T, st2, f2, h⟩ := h2
 subst e
 refine comp_core (RR := fun acc C => compPost (model X.prog X.w) X.A X.xe none (EP X pins σ Q) acc C) hc S ht he I2 T st2 f2 h fun D C s4 ys H3 oC m I4 hnC fC hD fin => ?_
 have hoC := (I4.pin (C, oC) (List.mem_append_right _ (List.mem_append_right _ List.mem_cons_self))).1
 refine ⟨m, hnC _ hoC, fun h' hs' => ?_⟩
 exact ⟨.ref D, _, I4.unpinned.turned (t' := s4.toks) (it := C) (fun b o hb q => (hs'.2 b hb).trans q) fC.1 fC.2.1 fC.2.2.2.1 fC.2.2.2.2.1 fC.2.2.2.2.2, rfl, fin D hD⟩
theorem ps_setComp {wi : TI} {i : Nat} {y : Str} {py spos : Pos} (hN : X.N.Nodup) (hy : X.N[i]? = some y) (hL : X.env.scope.names.lookup y = some .local) (hc : X.calm = true) (hi : PI X (.Name x px) iter wi) (S : CompSc X scope x cl N cap)
  (ht : ∀ C s H ex, PTs (cxComp X scope cl C N s H ex) ifs tt) (he : ∀ C s H ex, PE (cxComp X scope cl C N s H ex) elt te)
  (hsw : swapsWith (.ListComp elt [⟨.Name x px, iter, ifs, 0⟩] scope pos) (some (.Name y py)) spos.line X.env = pure true := by rfl)
  (hs : ∀ z, foldedSetIterable iter X.env z = pure z := by intro _; rfl) : PS X (.Assign [.Name y py] (.ListComp elt [⟨.Name x px, iter, ifs, 0⟩] scope pos) spos) (tAsg (tComp wi cap tt te) (gName i)) := by
 intro pins s σ H D I h
 rw [exec_Assign_Name_used _ _ _ _ hsw]
 refine wpAny_bind (wpAny_standAt (wpAny_bind ?_))
 show wpAny _ X.A (do let _ ← comprehension (.ListComp elt [⟨.Name x px, iter, ifs, 0⟩] scope pos) scope X.env _ (newList []) false (eval iter X.env) (some (assign (.Name y py) X.env))) _ _ s
 refine wpAny_bind (wpAny_mono (wpAny_comprehension_free (use := some (assign (.Name y py) X.env)) (Q := fun _ s' => SP X pins D .next s') rfl hs S.clos S.kind S.names
  (thn (hi pins s σ H _ I h) fun v s1 h1 => thn h1 fun itv s2 h2 => ?_)) (fun _ s' hq => wpAny_pure (wpAny_pure hq)) fun _ _ e => e)
 obtain ⟨it, fp, tn, J, H2, e, I2, T, st2, f2, h⟩ := h2
 subst e
 refine comp_core (RR := fun acc C => compPost (model X.prog X.w) X.A X.xe (some (assign (.Name y py) X.env)) (fun _ s' => SP X pins D .next s') acc C) hc S ht he I2 T st2 f2 h fun d C s4 ys H3 oC m I4 hnC fC hD fin => ?_
 show wpAny _ X.A (assign (.Name y py) X.env (.ref d)) _ _ s4
 refine wpAny_assign_Name (store_ok (v := .ref d) I4 hN hy (.inl hL) rfl (fun s5 I5 => ?_) (.inr hL))
 have hoC := (I5.pin (C, oC) (List.mem_append_right _ (List.mem_append_right _ List.mem_cons_self))).1
 refine ⟨m, hnC _ hoC, fun h' hs' => ?_⟩
 exact ⟨σ.set i (some (.ref d)), _, I5.unpinned.turned (t' := s5.toks) (it := C) (fun b o hb q => (hs'.2 b hb).trans q) fC.1 fC.2.1 fC.2.2.2.1 fC.2.2.2.2.1 fC.2.2.2.2.2, fin d hD⟩
end
end L2
namespace L2
open PySem PySem.Spec PyProof.Rows
theorem eqV_refl {x : V} (h : flatV x = true) : eqV x x = true := by
 cases x with
 | non => rfl
 | bl b => simp [eqV]
 | int i => simp [eqV]
 | str z => simp [eqV]
 | _ => exact absurd (show false = true from h) Bool.false_ne_true
theorem Vals.at {xs : List V} {us : List Value} (r : Vals xs us) {j : Nat} (h : j < us.length) : ∃ x, xs[j]? = some x ∧ RelV x us[j] := by
 have hl := r.length
 have hj : j < xs.length := by omega
 obtain ⟨u, hu, ru⟩ := r.get (i := j) (x := xs[j]) (List.getElem?_eq_getElem hj)
 have e : us[j] = u := by
  have := List.getElem?_eq_getElem h
  rw [this] at hu
  exact Option.some.inj hu
 exact ⟨_, List.getElem?_eq_getElem hj, by rw [e]; exact ru⟩
section
variable {X : Cx} {pins : List (Addr × Obj)} {σ : St} {H : Hp} {s : Shared}
end
section
variable {X : Cx}
end
section
open PySem.SeqAt
open PySem.AutoSeq1 (wpAny_loadPart')
open PySem.MeetsSeq PySem.MeetsSeq2 PySem.MeetsSeq3
end
section
variable {X : Cx} {pins : List (Addr × Obj)} {σ : St} {H : Hp} {s : Shared}
end
end L2
namespace L2
open PySem PySem.Spec PyProof.Rows
section
variable {X : Cx} {pins : List (Addr × Obj)} {σ : St} {H : Hp} {s : Shared} {h' : Heap}
end
section
variable {X : Cx} {k : Nat} {f : Addr} {fd : FuncData} {pn : Str} {sp : Sp}
end
end L2
namespace L2
open PySem PySem.Spec PyProof.Rows
def Lies (B : Heap) (l : List Env) (L e : Addr) (cls : Value) (h : Heap) : Prop :=
 B.StaysIn h ∧ B.get? e = none ∧ h.FunFrames B l ∧
  ((∃ oe vs a0, h.get? e = some oe ∧ oe.cls = cls ∧ oe.data = .fields vs ∧ vs[0]? = some a0 ∧ vs[1]? = some Value.none) ∨ (∃ a0, h.TracedW B e cls a0) ∨ ∃ a0, h.TracedAtW B e cls a0 (rawInt L))
section
variable {M : Model} {A : Around} {E : Value → Shared → Prop} {s : Shared} {B : Heap} {env : Env} {outer : List Env} {L e : Addr} {cls : Value}
theorem lies_note {Q : Unit → Shared → Prop} (hfr : A.frames = some (env :: outer)) (hf : env.frame = some L) (x : Lies B (env :: outer) L e cls s.heap)
  (hQ : ∀ h' a0, Heap.HeldW B (env :: outer) e cls a0 L h' → s.heap.UpToSlots h' → Q () { s with heap := h' }) : wpAny M A (noteFrame (.ref e) env) Q E s := by
 obtain ⟨x1, x2, x3, x4⟩ := x
 rcases x4 with ⟨oe, vs, a0, he, hc, hd, h0, h1⟩ | ⟨a0, ht⟩ | ⟨a0, ht⟩
 ·subst hc
  unfold noteFrame
  simp only [hf]
  refine wpAny_bind (wpAny_field he hd h1 ?_)
  rw [if_neg (by decide)]
  exact wpAny_entryW hfr x3 hf he x1 x2 hd (Array.getElem?_eq_some_iff.mp h1).1 h0 fun h' ⟨k1, k2, k3, k4⟩ => hQ h' a0 ⟨k1, x2, k2, k3⟩ k4
 ·exact wpAny_looks_onW hfr hf ⟨x1, x2, x3, ht⟩ fun h' k1 k2 => hQ h' a0 k1 k2
 ·exact wpAny_noteFrame_againW hf ht (hQ s.heap a0 ⟨x1, x2, x3, ht⟩ (Heap.UpToSlots.refl _))
theorem held_flight {l : List Env} {a0 : Value} {Q : Unit → Shared → Prop} (R : Heap.HeldW B l e cls a0 L s.heap)
  (h : ∀ h', Heap.HeldW B l e cls a0 L h' → s.heap.UpToSlots h' → Q () { s with heap := h' }) : wpAny M A (setFlight (.ref e) (some L)) Q E s := by
 obtain ⟨hkb, hen, hl, oe, vs, T, oT, ts, he, hcls, hd, h1, hnT, hTe, hT, hdT, h3⟩ := R
 have hsz3 : 3 < ts.size := (Array.getElem?_eq_some_iff.mp h3).1
 have other : ∀ b, b ≠ T → (s.heap.update T (Obj.mapFields (·.setIfInBounds 3 ((some L).elim Value.none fun f => rawInt f)))).get? b = s.heap.get? b :=
  fun b hb => Heap.get?_update_other _ _ (Ne.symm hb)
 have noRecord : ∀ b o, s.heap.get? b = some o → (∀ vs, o.data ≠ .fields vs) → b ≠ T := fun b o hb hnf q => by
  rw [q, hT] at hb; injection hb with hb; subst hb; exact hnf ts hdT
 unfold setFlight
 refine wpAny_bind (wpAny_field he hd h1 ?_)
 rw [if_pos (show (Value.ref T != Value.none) = true from by simp)]
 refine wpAny_setField hT hdT hsz3 (h _ ⟨fun b o hbo => (other b fun q => by rw [q, hnT] at hbo; cases hbo).trans (hkb b o hbo), hen,
  hl.of_keeps fun b o hb hnf => ⟨o, (other b (noRecord b o hb hnf)).trans hb, rfl⟩, ?_⟩ fun b o hb hnf => ⟨o.slots, (other b (noRecord b o hb hnf)).trans hb⟩)
 exact ⟨oe, vs, T, _, _, (other e (Ne.symm hTe)).trans he, hcls, hd, h1, hnT, hTe, Heap.get?_update_self _ hT (Obj.isFreed_of_fields (Obj.data_mapFields hdT _)), Obj.data_mapFields hdT _, by simp [hsz3]⟩
theorem held_lies {l : List Env} {a0 : Value} {h : Heap} (R : Heap.HeldW B l e cls a0 L h) : Lies B l L e cls h := ⟨R.1, R.2.1, R.2.2.1, .inr (.inr ⟨a0, R.2.2.2⟩)⟩
theorem flying_lies {l : List Env} {a0 : Value} {h : Heap} (R : Heap.FlyingW B l e cls a0 h) : Lies B l L e cls h := ⟨R.1, R.2.1, R.2.2.1, .inr (.inl ⟨a0, R.2.2.2⟩)⟩
theorem lies_leave {Q : Unit → Shared → Prop} (hfr : A.frames = some (env :: outer)) (hf : env.frame = some L) (x : Lies B (env :: outer) L e cls s.heap)
  (hQ : ∀ h' a0, Heap.FlyingW B outer e cls a0 h' → s.heap.UpToSlots h' → Q () { s with heap := h' }) : wpAny M A (leaving env (.ref e)) Q E s := by
 unfold leaving
 refine wpAny_bind (lies_note hfr hf x fun h1 a0 k1 k2 => ?_)
 refine wpAny_landsW k1 fun h2 k3 k4 => ?_
 obtain ⟨f1, f2, ⟨_, _, f3⟩, f4⟩ := k3
 exact hQ h2 a0 ⟨f1, f2, f3, f4⟩ (k2.trans k4)
end
structure OwnFr (X : Cx) : Prop where
 stk : X.stack = X.env :: X.outer
 fr : X.env.frame = some X.env.locals
 ex : X.ex = []
def ExcIn (X : Cx) (H : Hp) (e : Addr) (cls : Value) (s' : Shared) : Prop :=
 ∃ pins σ sg B, Inv X pins σ H sg ∧ s'.os = sg.os ∧ AllBare s'.gens ∧ (∀ b o, sg.heap.get? b = some o → b ∉ frs X.stack → B.get? b = some o) ∧ sg.heap.UpToSlots s'.heap ∧ Lies B X.stack X.env.locals e cls s'.heap
def XE (X : Cx) (Φ : Value → Hp → Prop) : Value → Shared → Prop := fun e s' => ∃ ea cls H, e = .ref ea ∧ ExcIn X H ea cls s' ∧ Φ cls H
def CXD (P : Program) (w : World) : CXT := fun outer H s E e s' => ∃ ea cls H' g B a0, e = .ref ea ∧ s'.os = s.os ∧ AllBare s'.gens ∧ Un (frs outer) [] H H' s.heap g ∧ HOk P w H' g ∧
 (∀ b o, g.get? b = some o → b ∉ frs outer → B.get? b = some o) ∧ g.UpToSlots s'.heap ∧ Heap.FlyingW B outer ea cls a0 s'.heap ∧ E cls none H'
section
variable {X : Cx} {H : Hp} {e : Addr} {cls : Value} {s' : Shared}
theorem ExcIn.unwish {E : Value → Shared → Prop} (x : ExcIn (X.wish E) H e cls s') : ExcIn X H e cls s' := by
 obtain ⟨pins, σ, sg, B, I, h⟩ := x
 exact ⟨pins, σ, sg, B, I.unwish, h⟩
theorem frame_data {h base : Heap} {l : List Env} (F : h.FunFrames base l) {b : Addr} (hb : b ∈ frs l) : ∃ o, h.get? b = some o ∧ ∀ vs, o.data ≠ .fields vs := by
 induction l with
 | nil => cases hb
 | cons env r ih =>
  obtain ⟨hk, ⟨L, o, hf, hn, ho, hd⟩, hr⟩ := F
  unfold frs at hb
  rw [List.filterMap_cons, hf] at hb
  rcases List.mem_cons.mp hb with rfl | hb
  ·exact ⟨o, ho, hd⟩
  ·exact ih hr hb
theorem un_of_B {H : Hp} {g h B base : Heap} {l : List Env} (F : g.FunFrames base l) (hB : ∀ b o, g.get? b = some o → b ∉ frs l → B.get? b = some o) (st : B.StaysIn h) (up : g.UpToSlots h) : Un (frs l) [] H H g h := by
 have sl : ∀ b o, g.get? b = some o → b ∈ frs l → ∃ sl, h.get? b = some { o with slots := sl } := fun b o e hb => by
  obtain ⟨o', ho, hd⟩ := frame_data F hb
  rw [e] at ho; cases ho
  exact up b o e hd
 refine ⟨fun b o e _ hb _ => st b o (hB b o e hb), fun b o e _ hb _ => sl b o e hb, fun _ _ _ n _ => n, fun b o e _ => ?_, fun _ _ e => e, fun _ _ _ e => e, fun b ps e => ⟨#[], by rw [e]; simp⟩⟩
 by_cases hb : b ∈ frs l
 ·obtain ⟨q, e'⟩ := sl b o e hb; exact ⟨_, e'⟩
 ·exact ⟨o, st b o (hB b o e hb)⟩
theorem hok_of_B {P : Program} {w : World} {H : Hp} {g h B : Heap} {l : List Env} (ok : HOk P w H g) (free : ∀ b ∈ frs l, H b = none) (hB : ∀ b o, g.get? b = some o → b ∉ frs l → B.get? b = some o) (st : B.StaysIn h) : HOk P w H h := fun a o e => by
 refine (ok a o e).stay (fun c v hc q => st c v (hB c v q fun z => ?_)) (fun _ q => q) fun _ _ q => q
 have := free c z
 rcases hc with rfl | hc
 ·rw [e] at this; cases this
 ·rw [hc] at this; cases this
end
section
variable {X : Cx} {pins : List (Addr × Obj)} {σ : St} {H : Hp} {e : Addr} {cls : Value} {s s' : Shared}
theorem inv_of_B {B h : Heap} {sg : Shared} {s2 : Shared} (I : Inv X pins σ H sg) (os : s2.os = sg.os) (gn : AllBare s2.gens) (hB : ∀ b o, sg.heap.get? b = some o → b ∉ frs X.stack → B.get? b = some o) (st : B.StaysIn s2.heap) (up : sg.heap.UpToSlots s2.heap) :
  Inv X pins σ H s2 := by
 obtain ⟨hh, g, d, t, os'⟩ := s2
 obtain rfl : os' = sg.os := os
 exact I.call (h' := hh) (g' := g) (d' := d) (t' := t) (ch := []) (un_of_B I.stack hB st up) (hok_of_B I.hok I.stkFree hB st) gn (fun b z => absurd z (by simp))
theorem ExcIn.born {h' : Heap} {vs : List Value} (I : Inv X pins σ H s) (hx : Heap.MadeExcOf s.heap h' e cls vs) : ExcIn X H e cls { s with heap := h' } := by
 refine ⟨pins, σ, s, PySem.W.hideAll s.heap (frs X.stack), I, rfl, I.bare, fun b o q n => PySem.W.hideAll_get _ q n, Heap.UpToSlots.of_keeps hx.keeps, fun b o q => hx.keeps b o (PySem.W.of_hideAll _ q), ?_, ?_, .inl ?_⟩
 ·cases q : (PySem.W.hideAll s.heap (frs X.stack)).get? e with
  | none => rfl
  | some o => have := PySem.W.of_hideAll _ q; rw [hx.new] at this; cases this
 ·have F := PySem.W.funFrames_hide (as := frs X.stack) I.stack fun env he a ha => List.mem_filterMap.mpr ⟨env, he, ha⟩
  exact F.of_keeps fun b o q _ => ⟨o, hx.keeps b o q, rfl⟩
 ·obtain ⟨t, h1, _, _⟩ := hx.there
  exact ⟨_, _, _, h1, rfl, rfl, rfl, rfl⟩
theorem ExcIn.called {E : XK} {v : Value} (I : Inv X pins σ H s) (x : CXD X.prog X.w X.stack H s E v s') : ∃ ea cls H', v = .ref ea ∧ ExcIn X H' ea cls s' ∧ E cls none H' := by
 obtain ⟨ea, cls, H', g, B, a0, ev, os, gn, un, ok, hB, up, fl, q⟩ := x
 refine ⟨ea, cls, H', ev, ⟨pins, σ, { s with heap := g }, B, ?_, os, gn, hB, up, flying_lies fl⟩, q⟩
 obtain ⟨hh, gg, d, t, os'⟩ := s
 exact I.call (h' := g) (g' := gg) (d' := d) (t' := t) (ch := []) un ok I.bare (fun b z => absurd z (by simp))
theorem passesOwn_XE {Φ : Value → Hp → Prop} (O : OwnFr X) : PassesOwn (model X.prog X.w) X.A X.env (XE X Φ) := fun v s' h => by
 obtain ⟨ea, cls, H, rfl, ⟨pins, σ, sg, B, I, os, gn, hB, up, L⟩, q⟩ := h
 have hf : X.A.frames = some (X.env :: X.outer) := by rw [I.ok.frames, O.stk]
 rw [O.stk] at L
 refine lies_note hf O.fr L fun h1 a0 k1 k2 => ?_
 obtain ⟨_, _, _, oe, vs, T, oT, ts, he, hc, hd, h1', hnT, hTe, hT, hdT, h3⟩ := id k1
 show wpAny _ _ _ _ _ _
 refine wpAny_bind (wpAny_field he hd h1' ?_)
 rw [if_neg (show ¬ ((Value.ref T == Value.none) = true) from by simp)]
 have go : wpAny (model X.prog X.w) X.A (setFlight (.ref ea) X.env.frame) (fun _ s'' => XE X Φ (.ref ea) s'') (XE X Φ) { s' with heap := h1 } := by
  rw [O.fr]
  refine held_flight k1 fun h2 k3 k4 => ⟨ea, cls, H, rfl, ⟨pins, σ, sg, B, I, os, gn, hB, (up.trans k2).trans k4, ?_⟩, q⟩
  rw [O.stk]; exact held_lies k3
 first | exact go | exact wpAny_bind (wpAny_pure go)
theorem leaves_XE {E : XK} {v : Value} {E2 : Value → Shared → Prop} (O : OwnFr X) (h : XE X (fun cls H' => E cls none H') v s') :
  wpAny (model X.prog X.w) X.A (leaving X.env v) (fun _ s'' => CXD X.prog X.w X.outer X.H₀ X.s₀ E v s'') E2 s' := by
 obtain ⟨ea, cls, H', rfl, ⟨pins, σ, sg, B, I, os, gn, hB, up, L⟩, q⟩ := h
 have hf : X.A.frames = some (X.env :: X.outer) := by rw [I.ok.frames, O.stk]
 rw [O.stk] at L hB
 refine lies_leave hf O.fr L fun h1 a0 k1 k2 => ?_
 have nL : ∀ b o, X.s₀.heap.get? b = some o → b ∉ [X.env.locals] := fun b o e z => by
  have : b = X.env.locals := by simpa using z
  exact absurd (Nat.lt_of_lt_of_le (this ▸ Heap.lt_size e) I.ok.above) (Nat.lt_irrefl _)
 have bs : Un (frs X.outer) [] X.H₀ H' X.s₀.heap sg.heap := by have := I.base; rw [O.ex] at this; exact this
 refine ⟨ea, cls, H', PySem.W.hideAll sg.heap [X.env.locals], B, a0, rfl, os.trans I.os, gn, ?_, ?_, fun b o e n => ?_, fun b o e n => ?_, k1, q⟩
 ·refine ⟨fun b o e n hb hx => PySem.W.hideAll_get _ (bs.keep b o e n hb hx) (nL b o e), fun b o e n hb hx => ?_, bs.free, fun b o e hx => ?_, bs.tups, bs.frzs, bs.tbls⟩
  ·obtain ⟨sl, e'⟩ := bs.slot b o e n hb hx
   exact ⟨sl, PySem.W.hideAll_get _ e' (nL b o e)⟩
  ·obtain ⟨o', e'⟩ := bs.there b o e hx
   exact ⟨o', PySem.W.hideAll_get _ e' (nL b o e)⟩
 ·intro a o e
  refine (I.hok a o e).stay (fun c u hc q' => PySem.W.hideAll_get _ q' fun z => ?_) (fun _ q => q) fun _ _ q => q
  have z : c = X.env.locals := by simpa using z
  have fr : H' X.env.locals = none := I.free
  rcases hc with rfl | hc
  ·rw [z, fr] at e; cases e
  ·rw [z, fr] at hc; cases hc
 ·have e' := PySem.W.of_hideAll _ e
  refine hB b o e' fun z => ?_
  have z : b ∈ X.env.locals :: frs X.outer := by
   unfold frs at z ⊢
   rw [List.filterMap_cons, O.fr] at z
   exact z
  rcases List.mem_cons.mp z with z | z
  ·have : (PySem.W.hideAll sg.heap [X.env.locals]).get? b = none := PySem.W.hideAll_none _ (by rw [z]; exact .head _)
   rw [e] at this; cases this
  ·exact n z
 ·exact (up.trans k2) b o (PySem.W.of_hideAll _ e) n
end
end L2
namespace L2
open PySem PySem.Spec PyProof.Rows
abbrev Cx.re (X : Cx) (A2 : Around) (b : Bool) (E : Value → Shared → Prop) : Cx := { X with A := A2, calm := b, xe := E }
theorem Inv.re {X : Cx} {pins : List (Addr × Obj)} {σ : St} {H : Hp} {s : Shared} {A2 : Around} {b : Bool} {E : Value → Shared → Prop} (I : Inv X pins σ H s) (hf : A2.frames = X.A.frames) (hd : b = true → A2.handled = none) : Inv (X.re A2 b E) pins σ H s :=
 have ok := I.ok
 ⟨⟨ok.mod, ok.kind, ok.glob, ok.blt, ok.above, ok.inj, ok.has, ok.cab, hd, hf.trans ok.frames, ok.stk, ok.exf, ok.bs, ok.bsz, ok.noex, ok.exfs, ok.funs, ok.frf⟩, I.os, I.bare, I.base, I.loc, I.cell, I.free, I.freeC, I.pin, I.hok, I.len⟩
structure ExCls (K : PySem.W.Frag) (x : Str) (C : Addr) : Prop where
 ns : PySem.W.nsIn K mainGlobals x = some (some (.ref C))
 ok : ∃ B newId initId bmB, PySem.W.excIn K C bmB newId = true ∧ ExcBaseFacts B newId initId bmB
theorem own_of {K : PySem.W.Frag} {h : Heap} {mg : Str → Option Value} {x : Str} {C : Addr} {bmB : List Value} {newId : String} (X : K.In h) (e : mg x = some (.ref C)) (q : PySem.W.excIn K C bmB newId = true) : OwnCls x C bmB newId mg h := by
 refine ⟨e, ?_⟩
 unfold PySem.W.excIn at q
 split at q
 ·rename_i dd cd sl ho
  split at q
  ·rename_i C' bm k0 k1 k2 k3 n k5 hm hs
   simp only [Bool.and_eq_true, beq_iff_eq, Bool.not_eq_true'] at q
   obtain ⟨⟨⟨⟨⟨rfl, rfl⟩, hdel⟩, ht⟩, hok⟩, hni⟩ := q
   obtain ⟨nm, bs, mro, ns, qn, hd, sn, sub, ab, col, del⟩ := cd
   dsimp only at hm hdel hok hni
   subst hm hdel
   obtain rfl : sl = #[k0, k1, k2, k3, some (.builtin n), k5] := by cases sl; simp only at hs; rw [hs]
   exact ⟨bm, ns, nm, qn, bs, hd, sn, sub, ab, col, dd, k0, k1, k2, k3, k5, _, X _ _ ho, .of_isNs (PySem.W.isNs_of_in X hok), PySem.W.nsMap_none_of_in X hok hni, PySem.W.tail_of_in X ht⟩
  ·cases q
 ·cases q
section
variable {X : Cx} {x : Str} {C : Addr} {np cpos pos : Pos} {e : Expr} {es : List Expr} {t : TA}
def tRaise (X : Cx) (C : Addr) (t : TA) : TS := fun _ σ H => t σ H fun vs H1 => vs.length ≤ sizeLine ∧ ∀ e s', ExcIn X H1 e (.ref C) s' → X.xe (.ref e) s'
theorem ps_raise (hc : X.calm = true) (c : ExCls X.K x C) (hg : Gl X x) (ha : PA X (e :: es) t) (hdb : (x == ("__debug__" : Str)) = false := by decide)
  (he : starEach (e :: es) X.env = (false, eval e X.env) :: starEach es X.env := by rfl) (hpl : (backTo cpos (starEach es X.env)).any (·.1) = false := by rfl) :
  PS X (.Raise (some (.Call (.Name x np) (e :: es) [] cpos)) none pos) (tRaise X C t) := by
 intro pins s σ H D I h
 have hm : X.mg x = some (.ref C) := PySem.W.mg_of I.ok.mod.kin I.ok.mod.glob c.ns
 obtain ⟨B, newId, initId, bmB, q, FB⟩ := c.ok
 obtain ⟨tl, N, nm, qn, bs, hdct, sn, sub, ab, col, dd, k0, k1, k2, k3, k5, mN, hC, hN, hni, T⟩ := (own_of (mg := X.mg) (x := x) I.ok.mod.kin hm q).obj
 refine wpAny_Raise_call_subT (C := C) (nm := nm) (q := qn) (N := N) (bs := bs) (bm := tl) (hdct := hdct) (sn := sn) (sub := sub) (ab := ab) (col := col) (dd := dd) (k0 := k0) (k1 := k1) (k2 := k2) (k3 := k3) (k5 := k5)
  FB (mN := mN) (T.hasType FB.hasBase) (I.ok.hd hc) (by rw [he]; show (false || (backTo cpos (starEach es X.env)).any (·.1)) = false; rw [hpl]; rfl) hni (ld_glob I hg hm ⟨rfl, ?_⟩ hdb)
 have h2 := ha cpos pins s σ H _ I h
 rw [he] at h2 ⊢
 exact Calls.evalArgs_plain (wpAny_mono h2 (fun vs s₂ ⟨xs, H1, I1, r, z, q⟩ => ⟨rfl, by rw [← r.length]; exact z, I1.bk _ _ hC, hN.keeps I1.bk, T.keeps I1.bk, fun h' e hx => q e _ (ExcIn.born I1 hx)⟩) fun _ _ y => y)
end
structure RoomB (b : Bool) (k : Nat) (A : Around) : Prop where
 hd : b = true → A.handled = none
 dp : A.depth + 3 * k + 5 < recursionLimit
 un : A.units + 16 * k + 200 < cLine
theorem RoomB.mono {b : Bool} {j k : Nat} {A : Around} (r : RoomB b k A) (h : j ≤ k) : RoomB b j A := ⟨r.hd, by have := r.dp; omega, by have := r.un; omega⟩
theorem RoomB.deeper {b : Bool} {k : Nat} {A : Around} (r : RoomB b (k + 1) A) (env : Env) : RoomB b k (A.deeper env) :=
 ⟨r.hd, by have := r.dp; show A.depth + 1 + 3 * k + 5 < _; omega, by have := r.un; show A.units + 3 + 16 * k + 200 < _; omega⟩
theorem RoomB.depth {b : Bool} {k : Nat} {A : Around} (r : RoomB b k A) : A.depth < recursionLimit := by have := r.dp; omega
theorem RoomB.mark {b : Bool} {k : Nat} {A : Around} (r : RoomB b k A) (e : Option Value) : RoomB false k (A.mark e) := ⟨(fun z => nomatch z), r.dp, r.un⟩
structure FnX (b : Bool) (P : Program) (w : World) (K : PySem.W.Frag) (mg : Str → Option Value) (base : Heap) (k : Nat) (f : Addr) (fd : FuncData) (ps : List Str) (sp : Sp) : Prop where
 len : ∀ vs H Q E, sp vs H Q E → vs.length = ps.length
 run : ∀ (A : Around) (outer : List Env) (s : Shared) (H : Hp) (args : Args) (us : List Value) (vs : List V) (Q : VK) (E : XK), RoomB b k A → Env0 P w K mg base A outer s H → BindsTo s fd args (ps.zip us) → Vals vs us → sp vs H Q E →
  codeAny (model P w) A (.call (.ref f) args) (CR (CXD P w) outer P w H s Q E) s
theorem FnX.mono {b : Bool} {P : Program} {w : World} {K : PySem.W.Frag} {mg : Str → Option Value} {base : Heap} {j k : Nat} {f : Addr} {fd : FuncData} {ps : List Str} {sp : Sp} (F : FnX b P w K mg base j f fd ps sp) (h : j ≤ k) :
  FnX b P w K mg base k f fd ps sp := ⟨F.len, fun A outer s H args us vs Q E hr => F.run A outer s H args us vs Q E (hr.mono h)⟩
section
variable {X : Cx} {b : Bool} {k : Nat} {f : Addr} {fd : FuncData} {ps : List Str} {sp : Sp} {x : Str} {p pos : Pos} {e : Expr} {es : List Expr} {t : TA} {E : XK}
theorem run_fnX {pins : List (Addr × Obj)} {σ : St} {H : Hp} {s : Shared} {Q : VK} {us : List Value} {vs : List V} (F : FnX b X.prog X.w X.K X.mg X.base k f fd ps sp) (hr : RoomB b k X.A) (hb : Binds X.K fd ps []) (hx : Passes (CXD X.prog X.w) X E)
  (I : Inv X pins σ H s) (r : Vals vs us) (h : sp vs H Q E) : wpAny (model X.prog X.w) X.A (call (.ref f) us) (EP X pins σ Q) X.xe s := by
 have hl : us.length = ps.length := by rw [← r.length]; exact F.len _ _ _ _ h
 have hb' := hb s us I.kIn (by rw [List.append_nil]; exact hl)
 rw [List.append_nil] at hb'
 refine wpAny_call (codeAny_mono (F.run X.A X.stack s H ⟨us, []⟩ us vs Q E hr I.env0 hb' r h) fun r s' hq => ?_)
 cases r with
 | error e => exact hx pins σ H s e s' I hq
 | ok fl =>
  cases fl with
  | ret u => exact I.after hq
  | next => exact False.elim hq
  | brk => exact False.elim hq
  | cont => exact False.elim hq
def tCallX (X : Cx) (sp : Sp) (t : TA) : TE := fun σ H Q => t σ H fun vs H1 => ∃ E, Passes (CXD X.prog X.w) X E ∧ sp vs H1 Q E
theorem pe_callX (F : FnX b X.prog X.w X.K X.mg X.base k f fd ps sp) (hr : RoomB b k X.A) (hg : Gl X x) (hm : X.mg x = some (.ref f)) (hk : PySem.W.keepIn X.K (.ref f) = true) (hb : Binds X.K fd ps [])
  (ha : PA X (e :: es) t) (hdb : (x == ("__debug__" : Str)) = false := by decide) (he : starEach (e :: es) X.env = (false, eval e X.env) :: starEach es X.env := by rfl) (hpl : (backTo pos (starEach es X.env)).any (·.1) = false := by rfl) :
  PE X (.Call (.Name x p) (e :: es) [] pos) (tCallX X sp t) := by
 intro pins s σ H Q I h
 refine wpAny_Call_Name_kw (ld_glob I hg hm ?_ hdb)
 refine PySem.W.callWith_K (h₀ := X.base) I.ok.mod.kin hk (thn (ha pos pins s σ H _ I h) fun us s1 ⟨vs, H1, I1, r, E, hx, q⟩ => ⟨I1.kIn, ?_⟩) he hpl
 exact run_fnX F hr hb hx I1 r q
end
def cxB (b : Bool) (P : Program) (w : World) (K : PySem.W.Frag) (mg : Str → Option Value) (base : Heap) (N : List Str) (qual : Str) (scope : Scope) (f : Addr) (cd : Value) (A : Around) (outer : List Env) (s : Shared) (H : Hp) : Cx :=
 (cxOf CX0 P w K mg base N qual scope f cd A outer s H fun _ _ _ => False).re (A.deeper (envOfC qual scope s.heap.objs.size f cd)) b fun _ _ => False
theorem cxB_own {b : Bool} {P : Program} {w : World} {K : PySem.W.Frag} {mg : Str → Option Value} {base : Heap} {N : List Str} {qual : Str} {scope : Scope} {f : Addr} {cd : Value} {A : Around} {outer : List Env} {s : Shared} {H : Hp} :
  OwnFr (cxB b P w K mg base N qual scope f cd A outer s H) := ⟨rfl, rfl, rfl⟩
theorem fn_ofX {b : Bool} {P : Program} {w : World} {K : PySem.W.Frag} {mg : Str → Option Value} {base : Heap} {k : Nat} {f : Addr} {name qual : Str} {params : Arguments} {body : List Stmt} {scope : Scope} {dV kV doc pm cdv ct oc : Value} {an od : Option Addr}
  {osl : Array (Option Value)} {N ps : List Str} {sp : Sp} (lk : K.lookup f = some ⟨oc, od, .func (PySem.W.fnOf name qual params body scope dV kV doc pm an cdv ct), osl⟩) (hcd : PySem.W.codeIn K cdv qual = true) (S : FnScope N ps scope)
  (len : ∀ vs H Q E, sp vs H Q E → vs.length = ps.length)
  (hbody : ∀ (A : Around) (outer : List Env) (s : Shared) (H : Hp) (vs : List V) (Q : VK) (E : XK), RoomB b k (A.deeper (envOfC qual scope s.heap.objs.size f cdv)) → sp vs H Q E →
   ∃ t, PSs ((cxB b P w K mg base N qual scope f cdv A outer s H).wish (XE (cxB b P w K mg base N qual scope f cdv A outer s H) fun cls H' => E cls none H')) body t ∧ t { nx := fun _ H' => Q .non H', rt := Q } (start N vs) H) :
  FnX b P w K mg base (k + 1) f (PySem.W.fnOf name qual params body scope dV kV doc pm an cdv ct) ps sp := by
 refine ⟨len, fun A outer s H args us vs Q E hr e0 hb r hsp => ?_⟩
 have hl := len _ _ _ _ hsp
 have KX : K.In s.heap := e0.mod.kin.keeps fun b o e => (e0.bs b o e).1
 have lim : s.heap.NoLimit := e0.mod.nolimit.keeps fun b o e => (e0.bs b o e).1
 have hkind : ∀ y ∈ ps.zip us, scope.names.lookup y.1 = some .local ∨ (scope.names.lookup y.1 = some .cell ∧ ((cellsFrom (s.heap.objs.size + 1) scope.names []).lookup y.1).isSome = true) := fun ⟨n, v⟩ hy => by
  rcases S.par n (List.of_mem_zip hy).1 with q | q
  ·exact .inl q
  ·exact .inr ⟨q, PySem.W.cellsFrom_some _ _ _ (.inl q)⟩
 refine codeAny_call_function hr.depth (KX _ _ lk) rfl S.co S.gen rfl (PySem.W.codeRec_of KX hcd) (hb _ _ _ _ ?_)
 refine wpAny_newFunctionEnv_cells S.kind hkind fun env he s1 x => ?_
 subst he
 refine ⟨lim.keeps x.toInCall.keep, codeAny_func ?_⟩
 obtain ⟨t, ht, hq⟩ := hbody A outer s H vs Q E (hr.deeper _) hsp
 have e0' : Env0 P w K mg base { A with handled := none } outer s H := ⟨e0.frames, e0.mod, e0.bs, e0.bsz, e0.funs, e0.frf, e0.hok, e0.bare⟩
 have I0 : Inv (cxOf CX0 P w K mg base N qual scope f cdv { A with handled := none } outer s H fun _ _ _ => False) [] (start N vs) H s1 := inv_start S rfl e0' hl r x
 have I : Inv (cxB b P w K mg base N qual scope f cdv A outer s H) [] (start N vs) H s1 := I0.re rfl hr.hd
 refine wpAny_mono (ht [] s1 (start N vs) H _ (I.wish _) hq) (fun fl s' hs => ?_) fun e s' hs => leaves_XE cxB_own hs
 have fin : ∀ {σ' : St} {H' : Hp} {v : V} {u : Value}, Inv (cxB b P w K mg base N qual scope f cdv A outer s H) [] σ' H' s' → RelV v u → Q v H' → CE outer P w H s Q u s' :=
  fun {σ' H' v u} J rv q => ⟨v, H', J.os, J.bare, J.base, J.hok, rv, q⟩
 have hs := SP.unwish hs
 cases fl with
 | ret u =>
  obtain ⟨v, σ', H', J, rv, q⟩ := hs
  exact fin J rv q
 | next =>
  obtain ⟨σ', H', J, q⟩ := hs
  exact fin (v := V.non) (u := Value.none) J rfl q
 | brk =>
  obtain ⟨_, _, _, q⟩ := hs
  exact False.elim q
 | cont =>
  obtain ⟨_, _, _, q⟩ := hs
  exact False.elim q
end L2
namespace L2
open PySem PySem.Spec PyProof.Rows
section
variable {X : Cx} {pins : List (Addr × Obj)} {σ : St} {H : Hp} {s : Shared}
theorem Inv.locals {h' : Heap} {t' : Nat} {σ' : St} {m' : Str → Option Value} (I : Inv X pins σ H s) (hs : Heap.SameBut X.env.locals s.heap h') (hn' : h'.Ns X.env.locals m') (hl : σ'.length = σ.length)
  (hv : ∀ (i : Nat) (x : Str) (v : V), X.N[i]? = some x → σ'[i]? = some (some v) → Vis X.env.scope x → ∃ u, RelV v u ∧ Look X.env h' m' x u) : Inv X pins σ' H { s with heap := h', toks := t' } := by
 have cne := I.cne
 obtain ⟨m, ⟨oL, _, _, hoL, _⟩, _⟩ := id I.loc
 refine ⟨I.ok, I.os, I.bare, ⟨fun b o e n hb hx => ?_, fun b o e n hb hx => ?_, I.base.free, fun b o e hx => ?_, I.base.tups, I.base.frzs, I.base.tbls⟩, ⟨m', hn', hv⟩, fun y c e => ?_, I.free, I.freeC, fun p hp => ?_, fun b ob e => ?_, hl.trans I.len⟩
 ·exact (hs.2 b (Nat.ne_of_lt (Nat.lt_of_lt_of_le (Heap.lt_size e) I.ok.above))).trans (I.base.keep b o e n hb hx)
 ·obtain ⟨sl, e1⟩ := I.base.slot b o e n hb hx
  exact ⟨sl, (hs.2 b (Nat.ne_of_lt (Nat.lt_of_lt_of_le (Heap.lt_size e) I.ok.above))).trans e1⟩
 ·obtain ⟨o', e1⟩ := I.base.there b o e hx
  exact ⟨o', (hs.2 b (Nat.ne_of_lt (Nat.lt_of_lt_of_le (Heap.lt_size e) I.ok.above))).trans e1⟩
 ·obtain ⟨w', z⟩ := I.cell y c e
  exact ⟨w', z.sameBut hs (cne y c e)⟩
 ·obtain ⟨e, n, ne, nf, d⟩ := I.pin p hp
  exact ⟨(hs.2 p.1 ne).trans e, n, ne, nf, d⟩
 ·refine (I.hok b ob e).stay (fun c w' hc q => (hs.2 c ?_).trans q) (fun _ q => q) fun _ _ q => q
  rintro rfl
  rcases hc with rfl | hc
  ·rw [I.free] at e; cases e
  ·rw [I.free] at hc; cases hc
theorem unbind_ok {M : Model} {A : Around} {E : Value → Shared → Prop} {i : Nat} {n : Str} {pos : Pos} {Q : Unit → Shared → Prop} (I : Inv X pins σ H s) (hN : X.N.Nodup) (hi : X.N[i]? = some n) (hx : X.env.scope.names.lookup n = some .local)
  (h : ∀ s', Inv X pins (σ.set i none) H s' → Q () s') : wpAny M A (do bindName X.env n .none; unbindBehindTheSuite X.env n pos) Q E s := by
 have hcls : (X.env.scope.kind == .class || (X.env.scope.kind == .module && X.env.locals != X.env.globals)) = false := by rw [I.ok.kind]; rfl
 refine wpAny_bind (wpAny_bindName (store_ok (v := .non) I hN hi (.inl hx) rfl (fun s1 I1 => ?_) (.inr hx)))
 unfold unbindBehindTheSuite
 refine wpAny_onRaise ?_
 obtain ⟨m, hn, hl⟩ := id I1.loc
 have hiσ : i < σ.length := by rw [I.len]; exact (List.getElem?_eq_some_iff.mp hi).1
 obtain ⟨u, ru, lk⟩ := hl i n .non hi (List.getElem?_set_self hiσ) (.inl hx)
 have hmn : m n = some u := by
  rcases lk with ⟨_, e⟩ | ⟨k, _⟩
  ·exact e
  ·rcases k with k | k <;> exact absurd (k.symm.trans (show X.env.kindOf n = some .local from hx)) (by simp)
 refine wpAny_mono (wpAny_unbindName_local (show X.env.kindOf n = some .local from hx) hn hmn hcls fun h' u' hn' hs => ?_) (fun _ _ x => x) (fun _ _ x => wpAny_standAt x)
 refine h _ (Inv.locals (t' := s1.toks) I1 hs hn' (by simp) fun j y v e1 e2 e3 => ?_)
 by_cases hj : j = i
 ·subst hj
  rw [List.getElem?_set_self hiσ] at e2; cases e2
 ·rw [List.getElem?_set_ne (Ne.symm hj)] at e2
  obtain ⟨u2, r2, l2⟩ := hl j y v e1 (by rw [List.getElem?_set_ne (Ne.symm hj)]; exact e2) e3
  refine ⟨u2, r2, ?_⟩
  have ny : y ≠ n := fun e => hj (nodup_ix hN e1 (e ▸ hi))
  rcases l2 with ⟨k, e⟩ | ⟨k, c, e, z⟩
  ·exact .inl ⟨k, by simp [ny, e]⟩
  ·exact .inr ⟨k, c, e, z.sameBut hs (I1.cne y c e)⟩
def exPh (a : Addr) (cls : Value) : Heap → Prop := fun h => ∃ o, h.get? a = some o ∧ o.cls = cls ∧ ∃ vs, o.data = .fields vs
theorem Inv.trackX {a : Addr} {φ : Heap → Prop} (I : Inv X pins σ H s) (hn : H a = none) (h0 : X.s₀.heap.get? a = none) (hL : a ≠ X.env.locals) (hC : ∀ x c, X.env.cells.lookup x = some c → c ≠ a) (hP : ∀ p ∈ X.pn ++ pins, p.1 ≠ a)
  (hφ : φ s.heap) (ho : ∃ o, s.heap.get? a = some o) (st : ∀ h1 h2 : Heap, φ h1 → (∀ o, h1.get? a = some o → h2.get? a = some o) → φ h2) : Inv X pins σ (upd H a (.ext φ)) s := by
 have ne : ∀ b u, H b = some u → b ≠ a := fun b u e z => by rw [z, hn] at e; cases e
 have up : ∀ b u, H b = some u → upd H a (.ext φ) b = some u := fun b u e => by unfold upd; rw [if_neg (ne b u e)]; exact e
 have un : ∀ b, b ≠ a → H b = none → upd H a (.ext φ) b = none := fun b n e => by unfold upd; rw [if_neg n]; exact e
 refine ⟨I.ok, I.os, I.bare, ⟨I.base.keep, I.base.slot, fun b o e n hx => un b (fun z => ?_) (I.base.free b o e n hx), I.base.there, fun b xs e => up _ _ (I.base.tups b xs e), fun b o xs e => up _ _ (I.base.frzs b o xs e), fun b ps e => ?_⟩, I.loc, I.cell, un _ (Ne.symm hL) I.free,
  fun x c e => un _ (hC x c e) (I.freeC x c e), fun p hp => ?_, fun b u e => ?_, I.len⟩
 ·rw [z, h0] at e; cases e
 ·obtain ⟨more, e'⟩ := I.base.tbls b ps e
  exact ⟨more, up _ _ e'⟩
 ·obtain ⟨e, n, ne', nf, d⟩ := I.pin p hp
  exact ⟨e, un _ (hP p hp) n, ne', nf, d⟩
 ·by_cases z : b = a
  ·subst z
   unfold upd at e; rw [if_pos rfl] at e; cases e
   exact ⟨hφ, ho, st⟩
  ·unfold upd at e; rw [if_neg z] at e
   exact (I.hok b u e).stay (fun _ _ _ q => q) (fun _ q => up _ _ q) fun _ _ q => up _ _ q
end
theorem objOk_there {P : Program} {w : World} {H : Hp} {h : Heap} {a : Addr} {o : HO} (x : ObjOk P w H h a o) : ∃ ob, h.get? a = some ob := by
 cases o with
 | lst xs => obtain ⟨_, _, _, _, e⟩ := x; exact ⟨_, e⟩
 | tup xs => obtain ⟨_, _, _, ob, e, _⟩ := x; exact ⟨_, e⟩
 | dK kvs => obtain ⟨_, _, _, _, o, _, _, e, _⟩ := x; exact ⟨_, e⟩
 | dT kvs => obtain ⟨_, _, _, _, o, _, _, e, _⟩ := x; exact ⟨_, e⟩
 | set S n => obtain ⟨o, _, _, _, e, _⟩ := x; exact ⟨_, e⟩
 | ins C dx fs => obtain ⟨_, _, _, e, _⟩ := x; exact ⟨_, e⟩
 | own y => obtain ⟨_, e⟩ := x; exact ⟨_, e⟩
 | xd fs => obtain ⟨_, ⟨_, _, _, e, _⟩, _⟩ := x; exact ⟨_, e⟩
 | rng lo hi => obtain ⟨_, _, _, e⟩ := x; exact ⟨_, e⟩
 | frz ob u => obtain ⟨e, _⟩ := x; exact ⟨_, e⟩
 | tbl ps => exact ⟨_, (show h.get? a = some _ from x)⟩
 | met f y => exact ⟨_, (show h.get? a = some _ from x)⟩
 | ext φ => obtain ⟨_, e, _⟩ := x; exact e
abbrev Cx.pin (X : Cx) (pn : List (Addr × Obj)) : Cx := { X with pn := pn }
theorem Inv.pnd {X : Cx} {pins : List (Addr × Obj)} {σ : St} {H : Hp} {s : Shared} (I : Inv X pins σ H s) : Inv (X.pin (X.pn ++ pins)) [] σ H s :=
 have ok := I.ok
 ⟨⟨ok.mod, ok.kind, ok.glob, ok.blt, ok.above, ok.inj, ok.has, ok.cab, ok.hd, ok.frames, ok.stk, ok.exf, ok.bs, ok.bsz, ok.noex, ok.exfs, ok.funs, ok.frf⟩, I.os, I.bare, I.base, I.loc, I.cell, I.free, I.freeC, fun p hp => I.pin p (by simpa using hp), I.hok, I.len⟩
theorem Inv.unpnd {X : Cx} {pins pins' : List (Addr × Obj)} {σ : St} {H : Hp} {s : Shared} (I : Inv (X.pin (X.pn ++ pins)) pins' σ H s) : Inv X pins σ H s :=
 have ok := I.ok
 ⟨⟨ok.mod, ok.kind, ok.glob, ok.blt, ok.above, ok.inj, ok.has, ok.cab, ok.hd, ok.frames, ok.stk, ok.exf, ok.bs, ok.bsz, ok.noex, ok.exfs, ok.funs, ok.frf⟩, I.os, I.bare, I.base, I.loc, I.cell, I.free, I.freeC, fun p hp => I.pin p (List.mem_append_left _ hp), I.hok, I.len⟩
theorem SP.unpnd {X : Cx} {pins : List (Addr × Obj)} {D : Ends} {f : Flow} {s' : Shared} (h : SP (X.pin (X.pn ++ pins)) [] D f s') : SP X pins D f s' := by
 cases f with
 | next => obtain ⟨σ', H', I, q⟩ := h; exact ⟨σ', H', I.unpnd, q⟩
 | brk => obtain ⟨σ', H', I, q⟩ := h; exact ⟨σ', H', I.unpnd, q⟩
 | cont => obtain ⟨σ', H', I, q⟩ := h; exact ⟨σ', H', I.unpnd, q⟩
 | ret u => obtain ⟨v, σ', H', I, r, q⟩ := h; exact ⟨v, σ', H', I.unpnd, r, q⟩
def Ends.drop (D : Ends) (i : Nat) : Ends := { nx := fun σ H => D.nx (σ.set i none) H, rt := D.rt, bk := fun σ H => D.bk (σ.set i none) H, ct := fun σ H => D.ct (σ.set i none) H }
def hWish (X : Cx) (c : Value) (i : Nat) (ts : TS) (D : Ends) : Value → Hp → Prop := fun cls H => ∃ b, PySem.W.exmOne X.K cls c = some b ∧
 (b = true → ∀ ea, H ea = none → ts (D.drop i) ((List.replicate X.N.length none).set i (some (.ref ea))) (upd H ea (.ext (exPh ea cls)))) ∧ (b = false → ∀ ea s', ExcIn X H ea cls s' → X.xe (.ref ea) s')
def Cx.tryB (X : Cx) (pn : List (Addr × Obj)) (Φ : Value → Hp → Prop) : Cx := (X.pin pn).wish (XE (X.pin pn) Φ)
def Cx.suite (X : Cx) (ea : Addr) : Cx := X.re (X.A.mark (some (.ref ea))) false fun _ _ => False
section
variable {X : Cx} {body suite : List Stmt} {b₀ : Stmt} {x n : Str} {np hpos pos : Pos} {i : Nat} {c : Value} {tb : List (Addr × Obj) → (Value → Hp → Prop) → TS} {ts : TS}
def tTry (X : Cx) (c : Value) (i : Nat) (tb : List (Addr × Obj) → (Value → Hp → Prop) → TS) (ts : TS) : TS := fun D σ H => ∀ pn, tb pn (hWish X c i ts D) D σ H
theorem ps_try (O : OwnFr X) (hN : X.N.Nodup) (hi : X.N[i]? = some n) (hx : X.env.scope.names.lookup n = some .local) (hg : Gl X x) (hm : X.mg x = some c) (hb : ∀ pn Φ, PSs (X.tryB pn Φ) body (tb pn Φ)) (hs : ∀ ea, PSs (X.suite ea) (b₀ :: suite) ts)
  (hdb : (x == ("__debug__" : Str)) = false := by decide) : PS X (.Try body [.ExceptHandler (some (.Name x np)) (some n) (b₀ :: suite) hpos] [] [] pos) (tTry X c i tb ts) := by
 intro pins s σ H D I h
 refine wpAny_Try_except (wpAny_mono (hb (X.pn ++ pins) (hWish X c i ts D) [] s σ H D (I.pnd.wish _) (h _)) (fun f s1 hf => ?_) fun v s1 hv => ?_)
 ·have hf := SP.unpnd (SP.unwish hf)
  cases f with
  | next => exact wpAny_execs_nil hf
  | brk => exact hf
  | cont => exact hf
  | ret u => exact hf
 obtain ⟨ea, cls, H', rfl, ⟨pins', σ', sg, B, J0, os, gn, hB, up, L⟩, b, hbm, ht, hfl⟩ := hv
 have J : Inv X pins σ' H' sg := J0.unpnd
 have hfr : X.A.frames = some (X.env :: X.outer) := by rw [I.ok.frames, O.stk]
 have stk : (X.pin (X.pn ++ pins)).stack = X.env :: X.outer := O.stk
 rw [stk] at L hB
 have L' : Lies B (X.env :: X.outer) X.env.locals ea cls s1.heap := L
 refine lies_note hfr O.fr L' fun h1 a0 k1 k2 => ?_
 refine wpAny_landsW k1 fun h2 k3 k4 => ?_
 have up2 : sg.heap.UpToSlots h2 := (up.trans k2).trans k4
 have hB' : ∀ b o, sg.heap.get? b = some o → b ∉ frs X.stack → B.get? b = some o := by rw [O.stk]; exact hB
 have J2 : Inv X pins σ' H' { s1 with heap := h2 } := inv_of_B (h := h2) J os gn hB' k3.1 up2
 have Y2 : Inv (X.suite ea) pins σ' H' { s1 with heap := h2 } := J2.re rfl (fun z => nomatch z)
 obtain ⟨oe, hoe, hoc⟩ := k3.there
 have LT : PySem.W.Looks (model X.prog X.w) h2 (typeOf (.ref ea)) cls := by subst hoc; exact (PySem.W.Looks.ld hoe).andThen .now
 refine wpAny_handleBy_cons (codeAny_handlers_test (ld_glob (X := X.suite ea) Y2 hg hm ?_ hdb)) (by intro q; cases q)
 have LE : PySem.W.Looks (model X.prog X.w) h2 (excMatches (.ref ea) c) b := PySem.W.exm_one Y2.kIn LT hbm
 refine LE.here (s := { s1 with heap := h2 }) ?_
 cases b with
 | false =>
  show wpAny _ _ (handleBy (.ref ea) X.env []) _ _ _
  refine wpAny_handleBy_nil ?_
  obtain ⟨_, _, _, oe, ws, T, oT, ts', he, hc, hd, h1', _⟩ := id k3
  unfold PySem.passOn
  refine wpAny_bind (wpAny_field he hd h1' ?_)
  rw [if_neg (show ¬ ((Value.ref T == Value.none) = true) from by simp)]
  have go : ∀ {α : Type} (Q : α → Shared → Prop), wpAny (model X.prog X.w) X.A (do setFlight (.ref ea) X.env.frame; throw (.ref ea) : Sem α) Q X.xe { s1 with heap := h2 } := fun {α} Q => by
   rw [O.fr]
   refine wpAny_bind (PySem.W.setFlight_onW k3 fun h3 hh hsl => wpAny_throw (hfl rfl ea _ ⟨pins, σ', sg, B, J, os, gn, hB', up2.trans hsl, ?_⟩))
   rw [O.stk]; exact held_lies hh
  first | exact go _ | exact wpAny_bind (wpAny_pure (go _))
 | true =>
  show codeAny _ _ _ _ _
  refine codeAny_handlers_suite_as ?_
  refine lands_againW k3 fun h3 k5 k6 => ?_
  have up3 : sg.heap.UpToSlots h3 := up2.trans k6
  have J3 : Inv X pins σ' H' { s1 with heap := h3 } := inv_of_B (h := h3) J os gn hB' k5.1 up3
  obtain ⟨oe3, vs3, hoe3, hoc3, hod3, _⟩ := k5.first
  have fresh : sg.heap.get? ea = none := by
   cases q : sg.heap.get? ea with
   | none => rfl
   | some o =>
    exfalso
    by_cases hf : ea ∈ frs X.stack
    ·obtain ⟨o', ho', hd'⟩ := frame_data J.stack hf
     obtain ⟨sl, hs'⟩ := up3 _ _ ho' hd'
     rw [hoe3] at hs'; cases hs'
     exact hd' _ hod3
    ·have := hB' _ _ q hf
     rw [k5.2.1] at this; cases this
  have hn : H' ea = none := by
   cases q : H' ea with
   | none => rfl
   | some u =>
    obtain ⟨o, ho⟩ : ∃ o, sg.heap.get? ea = some o := by
     have := J.hok ea u q
     exact objOk_there this
    rw [fresh] at ho; cases ho
  have T3 : Inv X pins σ' (upd H' ea (.ext (exPh ea cls))) { s1 with heap := h3 } := by
   refine J3.trackX hn ?_ (fun z => ?_) (fun y c' e z => ?_) (fun p hp z => ?_) ⟨oe3, hoe3, hoc3, vs3, hod3⟩ ⟨oe3, hoe3⟩ fun a1 a2 ⟨o, q1, q2⟩ kk => ⟨o, kk o q1, q2⟩
   ·cases q : X.s₀.heap.get? ea with
    | none => rfl
    | some o =>
     obtain ⟨o', e'⟩ := J.base.there ea o q (by rw [O.ex]; simp)
     rw [fresh] at e'; cases e'
   ·obtain ⟨m, ⟨o, _, _, ho, _⟩, _⟩ := J.loc
    rw [← z, fresh] at ho; cases ho
   ·obtain ⟨v, o, ho, _⟩ := J.cell y c' e
    rw [z, fresh] at ho; cases ho
   ·have ho := (J.pin p hp).1
    rw [z, fresh] at ho; cases ho
  have T4 : Inv X pins (List.replicate X.N.length none) (upd H' ea (.ext (exPh ea cls))) { s1 with heap := h3 } := T3.weak (by rw [List.length_replicate]; exact T3.len.symm) fun j v e => by
   rw [List.getElem?_replicate] at e
   split at e <;> cases e
  have Y4 : Inv (X.suite ea) pins (List.replicate X.N.length none) (upd H' ea (.ext (exPh ea cls))) { s1 with heap := h3 } := T4.re rfl (fun z => nomatch z)
  refine store_ok (X := X.suite ea) (v := .ref ea) Y4 hN hi (.inl hx) rfl (fun s4 Y5 => ?_) (.inr hx)
  refine wpAny_mono (hs ea pins s4 _ _ (D.drop i) Y5 (ht rfl ea hn)) (fun f s5 hf => ?_) fun _ _ z => False.elim z
  show wpAny _ _ (do bindName X.env n .none; unbindBehindTheSuite X.env n hpos) _ _ _
  have back : ∀ {σ2 : St} {H2 : Hp}, Inv (X.suite ea) pins σ2 H2 s5 → Inv X pins σ2 H2 s5 := fun {σ2 H2} K5 => by
   have z := K5.re (A2 := X.A) (b := X.calm) (E := X.xe) rfl I.ok.hd
   exact z
  cases f with
  | next =>
   obtain ⟨σ2, H2, K5, q⟩ := hf
   exact unbind_ok (back K5) hN hi hx fun s6 K6 => ⟨_, H2, K6, q⟩
  | brk =>
   obtain ⟨σ2, H2, K5, q⟩ := hf
   exact unbind_ok (back K5) hN hi hx fun s6 K6 => ⟨_, H2, K6, q⟩
  | cont =>
   obtain ⟨σ2, H2, K5, q⟩ := hf
   exact unbind_ok (back K5) hN hi hx fun s6 K6 => ⟨_, H2, K6, q⟩
  | ret u =>
   obtain ⟨v, σ2, H2, K5, r, q⟩ := hf
   exact unbind_ok (back K5) hN hi hx fun s6 K6 => ⟨v, _, H2, K6, r, q⟩
end
end L2
namespace L2
open PySem PySem.Spec PyProof.Rows PySem.W PySem.Builtin PySem.Builtin.ObjectAttr PySem.Builtin.Getset_descriptor
structure ExAt (K : PySem.W.Frag) (C : Addr) : Prop where
 ga : findIn K (.ref C) "__getattribute__" = some (some (.builtin "BaseException.__getattribute__"))
 gh : findIn K (.ref C) "__getattr__" = some none
 sb : subIn K (.ref C) (.type "BaseException") = some true
 ca : findIn K (.ref C) "__class__" = some (some (.builtin "object.__class__"))
 cg : specialIn K (.builtin "object.__class__") "__get__" = some (some (.builtin "getset_descriptor.__get__"))
 ct : takesIn K (.builtin "object.__class__") = some true
 cm : mroIn K C (.type "object") = some true
 cl : (clsIn K C).isSome = true
section
variable {prog : Program} {w : World} {A : Around} {E : Value → Shared → Prop} {s : Shared} {K : PySem.W.Frag} {e C : Addr}
theorem exPh_type {M : Model} {h : Heap} (hx : exPh e (.ref C) h) : Looks M h (typeOf (.ref e)) (.ref C) := by
 obtain ⟨o, ho, hc, _⟩ := hx
 exact hc ▸ (Looks.ld ho).andThen .now
theorem ex_find {M : Model} {h : Heap} (F : ExAt K C) (X : K.In h) : Looks M h (find (.ref e) (.ref C) "__class__") (.bind (.builtin "getset_descriptor.__get__") (.builtin "object.__class__")) := by
 have L1 := looks_findIn (M := M) X F.ca
 have L2 : Looks M h (getOf (some (.builtin "object.__class__"))) (some (.builtin "getset_descriptor.__get__")) := looks_specialIn X F.cg
 have L3 := looks_takesIn (M := M) X F.ct
 refine L1.andThen (L2.andThen ?_)
 exact (show Looks M h (dataDescriptor? (some (.builtin "object.__class__")) (some (.builtin "getset_descriptor.__get__"))) (some (.builtin "getset_descriptor.__get__", .builtin "object.__class__")) from L3.andThen .now).andThen (Looks.tag .now)
theorem ex_get {R : Result → Shared → Prop} {tp : Value} (F : ExAt K C) (X : K.In s.heap) (hx : exPh e (.ref C) s.heap) (h : R (.ok (.ret (.ref C))) s) :
  codeAny (model prog w) A (.call (.builtin "getset_descriptor.__get__") ⟨[.builtin "object.__class__", .ref e, tp], []⟩) R s := by
 obtain ⟨hh, g, dr, t, os⟩ := s
 have L0 := exPh_type (M := model prog w) hx
 have L1 := looks_mroIn (M := model prog w) X F.cm
 refine codeAny_call_builtin KF.slot_gs.plain KF.entry_gs (KF.slot_gs.check _ _ _ _ _ _ _ _ KF.type_class (KF.args_gs _ _ _) ?_)
 unfold Builtin.«getset_descriptor.__get__» descrGet
 rw [dga_obj]
 refine wpAny_bind (wpAny_pure ?_)
 unfold descrGetter descrCheckInstance descrNameAndClass isInstance
 simp only [KF.owner_class]
 repeat lk
 refine ⟨Code.quiet_builtin _ (by decide +kernel), codeAny_builtin KF.entry_class ?_⟩
 unfold Builtin.«object.__class__» shownTypeOf
 repeat lk
 exact h
theorem ex_check {M : Model} {nameV : Value} {Q : Unit → Shared → Prop} (F : ExAt K C) (X : K.In s.heap) (hx : exPh e (.ref C) s.heap) (h : Q () s) : wpAny M A (checkBuiltinCall "BaseException.__getattribute__" ⟨[.ref e, nameV], []⟩) Q E s := by
 have hk : builtinKind "BaseException.__getattribute__" = some .slot := by decide +kernel
 have hsplit : splitId "BaseException.__getattribute__" = some ("BaseException", "__getattribute__") := by decide +kernel
 have ha := PySem.F.args_bexc_ga (.ref e) nameV
 have L0 := exPh_type (M := M) hx
 have L1 := looks_subIn (M := M) X F.sb
 have LI : Looks M s.heap (isInstance (.ref e) (.type "BaseException")) true := L0.andThen L1
 simp only [checkBuiltinCall, hk, hsplit]
 refine wpAny_bind (LI.here ?_)
 repeat (first | exact h | wp_step)
theorem ex_entry {tk : Tok} {R : Result → Shared → Prop} (F : ExAt K C) (X : K.In s.heap) (hx : exPh e (.ref C) s.heap) (h : R (.ok (.ret (.ref C))) s) :
  codeAny (model prog w) A (.call (.builtin "BaseException.__getattribute__") ⟨[.ref e, .str "__class__" tk], []⟩) R s := by
 refine codeAny_call_builtin PySem.F.excAttr_ValueError.ga.plain PySem.F.entry_bexc_ga (ex_check F X hx ?_)
 have L0 := exPh_type (M := model prog w) hx
 have L1 := ex_find (M := model prog w) (e := e) F X
 obtain ⟨hh, g, dr, t, os⟩ := s
 obtain ⟨oe, ho, hc, _⟩ := id hx
 have f1 : PySem.Shared.heap ⟨hh, g, dr, t, os⟩ = hh := rfl
 repeat (first | (with_reducible refine wpAny_loadPart_at ho ?_; rw [hc]) | (with_reducible refine L1.at ?_) | wp_step)
 exact ex_get F X hx (wpAny_pure h)
theorem ex_class {Q : Option Value → Shared → Prop} (F : ExAt K C) (X : K.In s.heap) (hx : exPh e (.ref C) s.heap) (h : Q (some (.ref C)) { s with toks := s.toks + 1 }) : wpAny (model prog w) A (getAttr? (.ref e) "__class__") Q E s := by
 have L0 := exPh_type (M := model prog w) hx
 have L1 := looks_findIn (M := model prog w) X F.ga
 have L2 := looks_findIn (M := model prog w) X F.gh
 have f3 := PySem.F.excAttr_ValueError.ga.bind (.ref e)
 obtain ⟨hh, g, d, t, os⟩ := s
 unfold getAttr? getAttrBy? getAttrBy
 refine wpAny_bind (wpAny_mkText (wpAny_bind (wpAny_attempt (wpAny_holding (wpAny_bind (L0.at (wpAny_bind (L1.at ?_))))))))
 have hx2 : (Value.builtin "BaseException.__getattribute__" == Value.builtin "object.__getattribute__") = false := by decide +kernel
 dsimp only
 rw [if_neg (by rw [hx2]; simp)]
 unfold getAttrByItsOwn hookBefore
 refine wpAny_bind ?_
 rw [if_pos (show onTheHeap (Value.ref C) = true from rfl)]
 refine L2.at (wpAny_bind (wpAny_attempt (wpAny_holding ?_)))
 unfold callGetattribute
 rw [if_neg (by simp)]
 unfold boundAndCalled
 rw [f3]
 refine wpAny_bind (wpAny_pure ?_)
 refine wpAny_call (ex_entry (s := ⟨hh, g, d, t + 1, os⟩) F X hx ?_)
 exact handed_on rfl (wpAny_pure h)
theorem kitx_ex (F : ExAt K C) : KitX K (.ref e) (.ref C) (exPh e (.ref C)) where
 ty := fun _ _ _ p => exPh_type p
 it := fun _ _ X _ => by
  obtain ⟨cdD, hcD⟩ := Option.isSome_iff_exists.mp F.cl
  unfold clsIn at hcD
  split at hcD
  ·rename_i c' d' cd' sl' ho
   intro A' Q' E' s' k q
   unfold isType loadHead
   exact wpAny_bind (wpAny_loadPart (k _ _ (X _ _ ho)) (wpAny_pure q))
  ·cases hcD
 ne := fun h tp dd its n sl X htp => by
  obtain ⟨cdD, hcD⟩ := Option.isSome_iff_exists.mp F.cl
  refine Bool.eq_false_iff.mpr fun q => ?_
  have e : C = tp := Value.ref.inj (beq_iff_eq.mp q)
  subst e
  unfold clsIn at hcD
  split at hcD
  ·rename_i c' d' cd' sl' ho
   have z := (X _ _ ho).symm.trans htp
   cases z
  ·cases hcD
 ca := fun X p k => ex_class F X p k
theorem isinst_ex {X : Cx} {pins : List (Addr × Obj)} {σ : St} {H : Hp} {Q : Value → Shared → Prop} {c : Value} {b : Bool} (I : Inv X pins σ H s) (ea : H e = some (.ext (exPh e (.ref C)))) (F : ExAt X.K C) (k : kitOne X.K (.ref C) c = some b) (h : ∀ tk, Q (.bool b) { s with toks := tk }) :
  wpAny (model X.prog X.w) A (call (.builtin "isinstance") [.ref e, c]) Q E s := by
 obtain ⟨p, _⟩ := (show ObjOk X.prog X.w H s.heap e (.ext (exPh e (.ref C))) from I.hok e _ ea)
 exact kia_one (kitx_ex F) I.kIn p k (fun z => nomatch z) h
end
end L2
namespace L2
open PySem PySem.Spec PyProof.Rows
section
variable {κ : Type} [DecidableEq κ]
def valV (kvs : List (κ × V)) (k : κ) : Option V := (kvs.find? fun kv => decide (kv.1 = k)).map (·.2)
theorem valV_pos {p : κ × V} {r : List (κ × V)} {k : κ} (e : p.1 = k) : valV (p :: r) k = some p.2 := by simp [valV, List.find?_cons, e]
theorem valV_neg {p : κ × V} {r : List (κ × V)} {k : κ} (e : ¬ p.1 = k) : valV (p :: r) k = valV r k := by simp [valV, List.find?_cons, e]
theorem RelO.isSome_eq {o : Option V} {u : Option Value} (r : RelO o u) : o.isSome = u.isSome := by
 cases o with
 | none => cases u with
  | none => rfl
  | some _ => exact (show False from r).elim
 | some _ => cases u with
  | none => exact (show False from r).elim
  | some _ => rfl
theorem KV.val {kvs : List (κ × V)} {vs : List (κ × Value)} (r : KV kvs vs) (k : κ) : RelO (valV kvs k) (valueAt vs k) := by
 unfold KV at r
 induction r with
 | nil => exact True.intro
 | @cons p q ps qs h t ih =>
  obtain ⟨h1, h2⟩ := h
  by_cases e : p.1 = k
  ·have e' : q.1 = k := h1.symm.trans e
   have b : valueAt (q :: qs) k = some q.2 := by simp [valueAt, List.find?_cons, e']
   rw [valV_pos e, b]; exact h2
  ·have e' : ¬ q.1 = k := fun z => e (h1.trans z)
   have b : valueAt (q :: qs) k = valueAt qs k := by simp [valueAt, List.find?_cons, e']
   rw [valV_neg e, b]; exact ih
end
theorem kV_is {P : Program} {w : World} {k : Key} {u : Value} (r : RelV (kV k) u) : (mixKind P w).is k u = true := by
 cases k with
 | inl i => obtain ⟨t, e⟩ := (show ∃ t, u = Value.int i t from r); subst e; exact mixKind_int P w i t
 | inr x => obtain ⟨t, e⟩ := (show ∃ t, u = Value.str x t from r); subst e; exact mixKind_str P w x t
theorem items_are {P : Program} {w : World} : ∀ {ks : List Key} {us : List Value}, Vals (ks.map kV) us → ItemsAre (mixKind P w) ks us
 | [], _, r => by rw [List.map_nil] at r; cases r; exact .nil
 | k :: ks, _, r => by
  rw [List.map_cons] at r
  cases r with
  | cons h t => exact .cons (kV_is h) (items_are t)
abbrev KT (H : Hp) : List (List Key × V) → List (List Key × Addr × Value) → Prop := Paired fun p q => p.1 = q.1 ∧ H q.2.1 = some (.tup (p.1.map kV)) ∧ RelV p.2 q.2.2
theorem KT.val {H : Hp} {kvs : List (List Key × V)} {xs : List (List Key × Addr × Value)} (r : KT H kvs xs) (k : List Key) : RelO (valV kvs k) ((atKey xs k).map (·.2)) := by
 induction r with
 | nil => exact True.intro
 | @cons p q ps qs h t ih =>
  obtain ⟨h1, _, h2⟩ := h
  by_cases e : p.1 = k
  ·have e' : q.1 = k := h1.symm.trans e
   have b : atKey (q :: qs) k = some q.2 := by simp [atKey, List.find?_cons, e']
   rw [valV_pos e, b]; exact h2
  ·have e' : ¬ q.1 = k := fun z => e (h1.trans z)
   have b : atKey (q :: qs) k = atKey qs k := by simp [atKey, List.find?_cons, e']
   rw [valV_neg e, b]; exact ih
section
variable {P : Program} {w : World} {H : Hp} {h : Heap} {a : Addr}
theorem rd_of {u : HO} (ok : HOk P w H h) (e : Rd H a u) : ObjOk P w H h a u := e.ok ok
theorem dk_rd {kvs : List (Key × V)} (ok : HOk P w H h) (e : Rd H a (.dK kvs)) : kvs.length ≤ sizeLine ∧ (a == sysModules) = false ∧ ∃ vs, KV kvs vs ∧ h.DictOf (mixKind P w) a vs :=
 show ObjOk P w H h a (.dK kvs) from rd_of ok e
theorem key_of {ks : List Key} (ok : HOk P w H h) (e : H a = some (.tup (ks.map kV))) : (tupleKind (mixKind P w)).is h ks a := by
 obtain ⟨_, its, r, o, h1, h2, n, h3⟩ := (show ObjOk P w H h a (.tup (ks.map kV)) from ok a _ e)
 exact ⟨o, its.toArray, n, h1, h2, h3, by simpa using items_are r⟩
theorem dt_rd {kvs : List (List Key × V)} (ok : HOk P w H h) (e : Rd H a (.dT kvs)) : kvs.length ≤ sizeLine ∧ (a == sysModules) = false ∧
  ∃ xs, KT H kvs xs ∧ h.DictOfH (tupleKind (mixKind P w)) a xs := by
 obtain ⟨z, y, xs, r, o, es, ep, h1, h2, h3, h4, h5⟩ := (show ObjOk P w H h a (.dT kvs) from rd_of ok e)
 refine ⟨z, y, xs, r, o, es, ep, h1, h2, h3, h4, fun x hx => ?_, h5⟩
 have all : ∀ {l : List (List Key × V)} {m : List (List Key × Addr × Value)}, KT H l m → ∀ x ∈ m, (tupleKind (mixKind P w)).is h x.1 x.2.1 := by
  intro l m q
  induction q with
  | nil => intro x hx; exact nomatch hx
  | @cons p q ps qs hq t ih =>
   intro x hx
   rcases List.mem_cons.mp hx with e | hx
   ·subst e
    exact key_of ok (by rw [← hq.1]; exact hq.2.1)
   ·exact ih x hx
 exact all r x hx
end
def DGet (H : Hp) (a : Addr) (y : V) (r : Option V) : Prop :=
 (∃ kvs k, Rd H a (.dK kvs) ∧ y = kV k ∧ r = valV kvs k) ∨ ∃ kvs k b, Rd H a (.dT kvs) ∧ y = .ref b ∧ H b = some (.tup (k.map kV)) ∧ r = valV kvs k
theorem DGet.k {H : Hp} {a : Addr} {kvs : List (Key × V)} {k : Key} (e : H a = some (.dK kvs)) : DGet H a (kV k) (valV kvs k) := .inl ⟨kvs, k, .inl e, rfl, rfl⟩
section
variable {X : Cx} {pins : List (Addr × Obj)} {σ : St} {H : Hp} {s : Shared} {a : Addr} {y v : V} {u r : Value} {o : Option V} {A : Around} {E : Value → Shared → Prop}
theorem d_getItem {Q : Value → Shared → Prop} (hu : A.units + 1 < cLine) (I : Inv X pins σ H s) (g : DGet H a y (some v)) (ry : RelV y u) (h : ∀ w' s', Inv X pins σ H s' → RelV v w' → Q w' s') :
  wpAny (model X.prog X.w) A (getItem (.ref a) u) Q E s := by
 rcases g with ⟨kvs, k, e, ey, l⟩ | ⟨kvs, k, b, e, ey, eb, l⟩
 ·subst ey
  obtain ⟨z, hd, vs, rel, dd⟩ := dk_rd I.hok e
  obtain ⟨w', hw, rw'⟩ := RelO.some_of (v := v) (o := valueAt vs k) (by rw [l]; exact rel.val k)
  exact wpAny_getItem_of (kV_is ry) dd.mapOf hw (h w' _ (I.tok _) rw')
 ·subst ey
  cases (show u = Value.ref b from ry)
  obtain ⟨z, hd, xs, rel, dd⟩ := dt_rd I.hok e
  obtain ⟨w', hw, rw'⟩ := RelO.some_of (v := v) (o := (atKey xs k).map (·.2)) (by rw [l]; exact rel.val k)
  obtain ⟨p, hp, hp2⟩ := Option.map_eq_some_iff.mp hw
  refine wpAny_getItem_heap (tupleKind_room_in1 hu) (key_of I.hok eb) dd hp ?_
  rw [hp2]
  exact h w' _ (I.tok _) rw'
theorem d_in {Q : Value → Shared → Prop} (hu : A.units + 1 < cLine) (I : Inv X pins σ H s) (g : DGet H a y o) (ry : RelV y u) (h : ∀ s', Inv X pins σ H s' → Q (.bool o.isSome) s') :
  wpAny (model X.prog X.w) A (compareOp .In u (.ref a)) Q E s := by
 rcases g with ⟨kvs, k, e, ey, l⟩ | ⟨kvs, k, b, e, ey, eb, l⟩
 ·subst ey
  obtain ⟨z, hd, vs, rel, dd⟩ := dk_rd I.hok e
  refine wpAny_in_of (kV_is ry) hd dd.mapOf ?_
  rw [← (rel.val k).isSome_eq, ← l]
  exact h _ (I.tok _)
 ·subst ey
  cases (show u = Value.ref b from ry)
  obtain ⟨z, hd, xs, rel, dd⟩ := dt_rd I.hok e
  refine wpAny_in_heap (tupleKind_room_in1 hu) (key_of I.hok eb) hd dd ?_
  have q := (rel.val k).isSome_eq
  rw [Option.isSome_map] at q
  rw [← q, ← l]
  exact h _ (I.tok _)
theorem d_notIn {Q : Value → Shared → Prop} (hu : A.units + 1 < cLine) (I : Inv X pins σ H s) (g : DGet H a y o) (ry : RelV y u) (h : ∀ s', Inv X pins σ H s' → Q (.bool (!o.isSome)) s') :
  wpAny (model X.prog X.w) A (compareOp .NotIn u (.ref a)) Q E s := by
 rcases g with ⟨kvs, k, e, ey, l⟩ | ⟨kvs, k, b, e, ey, eb, l⟩
 ·subst ey
  obtain ⟨z, hd, vs, rel, dd⟩ := dk_rd I.hok e
  refine wpAny_notIn_of (kV_is ry) hd dd.mapOf ?_
  rw [← (rel.val k).isSome_eq, ← l]
  exact h _ (I.tok _)
 ·subst ey
  cases (show u = Value.ref b from ry)
  obtain ⟨z, hd, xs, rel, dd⟩ := dt_rd I.hok e
  refine wpAny_notIn_heap (tupleKind_room_in1 hu) (key_of I.hok eb) hd dd ?_
  have q := (rel.val k).isSome_eq
  rw [Option.isSome_map] at q
  rw [← q, ← l]
  exact h _ (I.tok _)
end
section
variable {X : Cx} {pins : List (Addr × Obj)} {σ : St} {H : Hp} {s : Shared} {a : Addr} {kvs : List (Key × V)} {k : Key} {u : Value} {A : Around} {E : Value → Shared → Prop}
end
def NoSl (i : Expr) : Prop := ∀ ov iv, subscripted i false ov iv = operate [ov, iv] (getItem ov iv)
theorem subD_of {prog : Program} {w : World} {A : Around} {E : Value → Shared → Prop} {s : Shared} {env : Env} {value slice : Expr} {pos : Pos} {T id : String} {Q : Value → Shared → Prop}
  (hl : typeLookup (.type T) "__getitem__" = pure (some (.builtin id))) (hs : NoSl slice)
  (h : wpAny (model prog w) A (eval value env) (fun o s₁ => wpAny (model prog w) A (eval slice env) (fun i s₂ => s₂.TypeIs o T ∧ wpAny (model prog w) A (getItem o i) Q E s₂) E s₁) E s) :
  wpAny (model prog w) A (eval (.Subscript value slice pos) env) Q E s := by
 refine Subscript_ (wpAny_mono h (fun o s₁ h₁ => wpAny_mono h₁ (fun i s₂ h₂ => ?_) fun _ _ x => x) fun _ _ x => x)
 obtain ⟨hT, h₂⟩ := h₂
 unfold subscriptTail
 refine wpAny_bind ?_
 rw [getitemInPython_of_ne hT.not_modules]
 refine wpAny_bind (wpAny_specialOf hT hl ?_)
 have fin : wpAny (model prog w) A (subscripted slice false o i) (fun r s₃ => wpAny (model prog w) A (letTemporaryGo value o r >>= fun _ => pure r) Q E s₃) E s₂ := by
  rw [hs o i]
  exact wpAny_operating (wpAny_mono h₂ (fun r s₃ h₃ => wpAny_bind (wpAny_letTemporaryGo (wpAny_pure h₃))) fun _ _ x => x)
 first
  | exact wpAny_pure (wpAny_bind fin)
  | exact wpAny_bind (wpAny_pure (wpAny_bind fin))
  | exact wpAny_bind fin
theorem dict_typeIs {X : Cx} {pins : List (Addr × Obj)} {σ : St} {H : Hp} {s : Shared} {a : Addr} {y : V} {o : Option V} (I : Inv X pins σ H s) (g : DGet H a y o) : s.TypeIs (.ref a) "dict" := by
 rcases g with ⟨kvs, k, e, _, _⟩ | ⟨kvs, k, b, e, _, _, _⟩
 ·obtain ⟨_, _, vs, _, dd⟩ := dk_rd I.hok e
  exact dd.typeIs
 ·obtain ⟨_, _, xs, _, dd⟩ := dt_rd I.hok e
  exact dd.typeIs
def tDGet (td ty : TE) : TE := fun σ H Q => td σ H fun x H1 => ty σ H1 fun y H2 => ∃ a v, x = .ref a ∧ DGet H2 a y (some v) ∧ Q v H2
section
variable {X : Cx} {o i e value : Expr} {pos pos' tpos : Pos} {td ty tv : TE}
theorem pe_dget (hu : X.A.units + 1 < cLine) (ho : PE X o td) (hi : PE X i ty) (hs : NoSl i) : PE X (.Subscript o i pos) (tDGet td ty) := by
 intro pins s σ H Q I h
 refine subD_of PySem.F.slot_dict_getitem.lookup hs (thn (ho pins s σ H _ I h) fun u s1 ⟨x, H1, I1, rx, q1⟩ => thn (hi pins s1 σ H1 _ I1 q1) fun iv s2 ⟨y, H2, I2, ry, a, v, ex, g, q2⟩ => ?_)
 subst ex
 obtain rfl : u = Value.ref a := rx
 exact ⟨dict_typeIs I2 g, d_getItem hu I2 g ry fun w' s3 I3 rw' => ⟨v, H2, I3, rw', q2⟩⟩
end
section
variable {X : Cx} {pos : Pos}
end
section
variable {X : Cx} {pins : List (Addr × Obj)} {σ : St} {H : Hp} {s : Shared} {a : Addr} {y d : V} {u r : Value} {o : Option V} {A : Around} {E : Value → Shared → Prop}
end
section
variable {X : Cx} {o e f : Expr} {apos cpos : Pos} {td ty tx : TE}
end
section
variable {X : Cx} {pins : List (Addr × Obj)} {σ : St} {H : Hp} {s : Shared} {a : Addr} {kvs : List (Key × V)} {A : Around} {E : Value → Shared → Prop}
end
section
variable {X : Cx} {pins : List (Addr × Obj)} {σ : St} {H : Hp} {s : Shared} {a : Addr} {y : V} {u : Value} {A : Around} {E : Value → Shared → Prop}
end
end L2
namespace DL
open PySem PySem.Spec PyProof.Rows L2
abbrev St := L2.St
inductive W where
 | non | bl (b : Bool) | int (i : Int) | str (x : Str) | ty (n : String)
 | tup (xs : List W) | lst (xs : List W) | dct (ks : List Key) (vs : List W) | ref (n : Nat) | exn (x : Str)
instance : Inhabited W := ⟨.non⟩
inductive MO where
 | lst (xs : List W) | dct (ks : List Key) (vs : List W)
structure S where
 nxt : Nat
 mu : Nat → Option MO
inductive R (α : Type) where
 | ok (a : α) (s : S) | ex (c : W) (s : S) | stuck
def R.bind {α β : Type} (r : R α) (f : α → S → R β) : R β := match r with
 | .ok a s => f a s
 | .ex c s => .ex c s
 | .stuck => .stuck
abbrev Ga := List (Option W)
section
variable (K : PySem.W.Frag) (ι : Nat → Addr) (N : Nat) (G : Hp)
mutual
inductive RelW : V → W → Prop
 | non : RelW .non .non
 | bl (b : Bool) : RelW (.bl b) (.bl b)
 | int (i : Int) : RelW (.int i) (.int i)
 | str (x : Str) : RelW (.str x) (.str x)
 | ty (n : String) : RelW (.ty n) (.ty n)
 | tup {a : Addr} {xs : List V} {ws : List W} : SqT K G a xs → RelWs xs ws → RelW (.ref a) (.tup ws)
 | lst {a : Addr} {xs : List V} {ws : List W} : SqL K G a xs → RelWs xs ws → RelW (.ref a) (.lst ws)
 | dct {a : Addr} {xs : List V} {ks : List Key} {ws : List W} : G a = some (.dK (ks.zip xs)) → xs.length = ks.length → RelWs xs ws → RelW (.ref a) (.dct ks ws)
 | ref {n : Nat} : n < N → RelW (.ref (ι n)) (.ref n)
 | exn {a C : Addr} {x : Str} : G a = some (.ext (exPh a (.ref C))) → PySem.W.nsIn K mainGlobals x = some (some (.ref C)) → RelW (.ref a) (.exn x)
inductive RelWs : List V → List W → Prop
 | nil : RelWs [] []
 | cons {x : V} {w : W} {xs : List V} {ws : List W} : RelW x w → RelWs xs ws → RelWs (x :: xs) (w :: ws)
end
end
structure Ext (ι : Nat → Addr) (N : Nat) (G : Hp) (ι' : Nat → Addr) (N' : Nat) (G' : Hp) : Prop where
 le : N ≤ N'
 ag : ∀ n, n < N → ι' n = ι n
 sm : Same G G'
theorem Ext.refl (ι : Nat → Addr) (N : Nat) (G : Hp) : Ext ι N G ι N G := ⟨Nat.le_refl _, fun _ _ => rfl, Same.refl G⟩
theorem Ext.trans {ι ι1 ι2 : Nat → Addr} {N N1 N2 : Nat} {G G1 G2 : Hp} (a : Ext ι N G ι1 N1 G1) (b : Ext ι1 N1 G1 ι2 N2 G2) : Ext ι N G ι2 N2 G2 :=
 ⟨Nat.le_trans a.le b.le, fun n h => (b.ag n (Nat.lt_of_lt_of_le h a.le)).trans (a.ag n h), a.sm.trans b.sm⟩
theorem sqT_same {K : PySem.W.Frag} {H H' : Hp} {a : Addr} {xs : List V} (e : Same H H') (h : SqT K H a xs) : SqT K H' a xs := by
 rcases h with (h | ⟨o, h⟩) | h
 ·exact .inl (.inl (e _ _ h))
 ·exact .inl (.inr ⟨o, e _ _ h⟩)
 ·exact .inr h
section
variable {K : PySem.W.Frag} {ι ι' : Nat → Addr} {N N' : Nat} {G G' : Hp}
theorem RelW.mono (e : Ext ι N G ι' N' G') {v : V} {w : W} (h : RelW K ι N G v w) : RelW K ι' N' G' v w := by
 refine RelW.rec (motive_1 := fun v w _ => RelW K ι' N' G' v w) (motive_2 := fun vs ws _ => RelWs K ι' N' G' vs ws) ?_ ?_ ?_ ?_ ?_ ?_ ?_ ?_ ?_ ?_ ?_ ?_ h
 ·exact .non
 ·exact .bl
 ·exact .int
 ·exact .str
 ·exact .ty
 ·intro a xs ws s _ r; exact .tup (sqT_same e.sm s) r
 ·intro a xs ws s _ r; exact .lst (e.sm.seq s) r
 ·intro a xs ks ws s l _ r; exact .dct (e.sm _ _ s) l r
 ·intro n hn; rw [← e.ag n hn]; exact .ref (Nat.lt_of_lt_of_le hn e.le)
 ·intro a C x s n; exact .exn (e.sm _ _ s) n
 ·exact .nil
 ·intro x w xs ws _ _ r1 r2; exact .cons r1 r2
theorem RelWs.mono (e : Ext ι N G ι' N' G') : ∀ {vs : List V} {ws : List W}, RelWs K ι N G vs ws → RelWs K ι' N' G' vs ws
 | _, _, .nil => .nil
 | _, _, .cons r t => .cons (r.mono e) (RelWs.mono e t)
theorem RelWs.length : ∀ {vs : List V} {ws : List W}, RelWs K ι N G vs ws → vs.length = ws.length
 | _, _, .nil => rfl
 | _, _, .cons _ t => by rw [List.length_cons, List.length_cons, RelWs.length t]
theorem RelWs.get : ∀ {vs : List V} {ws : List W} {i : Nat} {w : W}, RelWs K ι N G vs ws → ws[i]? = some w → ∃ v, vs[i]? = some v ∧ RelW K ι N G v w
 | _, _, _, _, .nil, e => by simp at e
 | _, _, 0, _, .cons r _, e => by simp at e; subst e; exact ⟨_, rfl, r⟩
 | _, _, i + 1, x, .cons _ t, e => by
  obtain ⟨u, h1, h2⟩ := RelWs.get (i := i) (w := x) t (by simpa using e)
  exact ⟨u, by simpa using h1, h2⟩
theorem RelWs.get' : ∀ {vs : List V} {ws : List W} {i : Nat} {v : V}, RelWs K ι N G vs ws → vs[i]? = some v → ∃ w, ws[i]? = some w ∧ RelW K ι N G v w
 | _, _, _, _, .nil, e => by simp at e
 | _, _, 0, _, .cons r _, e => by simp at e; subst e; exact ⟨_, rfl, r⟩
 | _, _, i + 1, x, .cons _ t, e => by
  obtain ⟨u, h1, h2⟩ := RelWs.get' (i := i) (v := x) t (by simpa using e)
  exact ⟨u, by simpa using h1, h2⟩
theorem RelWs.append : ∀ {vs vs' : List V} {ws ws' : List W}, RelWs K ι N G vs ws → RelWs K ι N G vs' ws' → RelWs K ι N G (vs ++ vs') (ws ++ ws')
 | _, _, _, _, .nil, s => s
 | _, _, _, _, .cons r t, s => .cons r (RelWs.append t s)
theorem RelWs.take : ∀ {vs : List V} {ws : List W} (n : Nat), RelWs K ι N G vs ws → RelWs K ι N G (vs.take n) (ws.take n)
 | _, _, 0, _ => .nil
 | _, _, _ + 1, .nil => .nil
 | _, _, n + 1, .cons r t => .cons r (RelWs.take n t)
theorem RelWs.drop : ∀ {vs : List V} {ws : List W} (n : Nat), RelWs K ι N G vs ws → RelWs K ι N G (vs.drop n) (ws.drop n)
 | _, _, 0, r => r
 | _, _, _ + 1, .nil => .nil
 | _, _, n + 1, .cons _ t => RelWs.drop n t
theorem RelWs.set {v : V} {w : W} (r : RelW K ι N G v w) : ∀ {vs : List V} {ws : List W} (n : Nat), RelWs K ι N G vs ws → RelWs K ι N G (vs.set n v) (ws.set n w)
 | _, _, _, .nil => .nil
 | _, _, 0, .cons _ t => .cons r t
 | _, _, n + 1, .cons q t => .cons q (RelWs.set r n t)
theorem RelWs.bls : ∀ {vs : List V} {bs : List Bool}, RelWs K ι N G vs (bs.map W.bl) → vs = bs.map V.bl
 | _, [], .nil => rfl
 | _, b :: bs, .cons r t => by cases r; rw [List.map_cons, RelWs.bls t]
theorem RelWs.ofInts (ns : List Int) : RelWs K ι N G (ns.map V.int) (ns.map W.int) := by
 induction ns with
 | nil => exact .nil
 | cons n ns ih => exact .cons (.int n) ih
def MOR (K : PySem.W.Frag) (ι : Nat → Addr) (N : Nat) (G H : Hp) (a : Addr) : MO → Prop
 | .lst ws => ∃ xs, H a = some (.lst xs) ∧ RelWs K ι N G xs ws
 | .dct ks ws => ∃ xs, H a = some (.dK (ks.zip xs)) ∧ xs.length = ks.length ∧ RelWs K ι N G xs ws
structure SR (K : PySem.W.Frag) (ι : Nat → Addr) (st : S) (G H : Hp) : Prop where
 sub : Same G H
 live : ∀ n o, st.mu n = some o → n < st.nxt ∧ G (ι n) = none ∧ MOR K ι st.nxt G H (ι n) o
 inj : ∀ n m o o', st.mu n = some o → st.mu m = some o' → ι n = ι m → n = m
end
structure EnvR (K : PySem.W.Frag) (ι : Nat → Addr) (N : Nat) (G : Hp) (σ : St) (Γ : Ga) : Prop where
 len : σ.length = Γ.length
 get : ∀ (i : Nat) (w : W), Γ[i]? = some (some w) → ∃ v, σ[i]? = some (some v) ∧ RelW K ι N G v w
theorem EnvR.mono {K : PySem.W.Frag} {ι ι' : Nat → Addr} {N N' : Nat} {G G' : Hp} {σ : St} {Γ : Ga} (e : Ext ι N G ι' N' G') (h : EnvR K ι N G σ Γ) : EnvR K ι' N' G' σ Γ :=
 ⟨h.len, fun i w q => let ⟨v, h1, h2⟩ := h.get i w q; ⟨v, h1, h2.mono e⟩⟩
theorem EnvR.set {K : PySem.W.Frag} {ι : Nat → Addr} {N : Nat} {G : Hp} {σ : St} {Γ : Ga} {v : V} {w : W} (h : EnvR K ι N G σ Γ) (i : Nat) (r : RelW K ι N G v w) : EnvR K ι N G (σ.set i (some v)) (Γ.set i (some w)) := by
 refine ⟨by rw [List.length_set, List.length_set]; exact h.len, fun j u q => ?_⟩
 rw [List.getElem?_set] at q ⊢
 by_cases hij : i = j
 ·rw [if_pos hij] at q ⊢
  subst hij
  by_cases hl : i < Γ.length
  ·rw [if_pos hl] at q
   rw [if_pos (by rw [h.len]; exact hl)]
   cases q
   exact ⟨v, rfl, r⟩
  ·rw [if_neg hl] at q; cases q
 ·rw [if_neg hij] at q ⊢
  exact h.get j u q
section
variable {K : PySem.W.Frag} {ι : Nat → Addr} {st : S} {G H : Hp}
theorem SR.laid (h : SR K ι st G H) {p : Addr} {o : HO} (hp : H p = none) : SR K ι st (upd G p o) (upd H p o) ∧ Ext ι st.nxt G ι st.nxt (upd G p o) := by
 have hG : G p = none := h.sub.free hp
 have sm : Same G (upd G p o) := fun b u e => by rw [upd_ne (ne_of_none e hG)]; exact e
 have ex : Ext ι st.nxt G ι st.nxt (upd G p o) := ⟨Nat.le_refl _, fun _ _ => rfl, sm⟩
 refine ⟨⟨fun b u e => ?_, fun n m e => ?_, h.inj⟩, ex⟩
 ·by_cases hb : b = p
  ·subst hb; rw [upd_same] at e ⊢; exact e
  ·rw [upd_ne hb] at e ⊢; exact h.sub b u e
 ·obtain ⟨h1, h2, h3⟩ := h.live n m e
  have hne : ι n ≠ p := by
   intro z
   cases m with
   | lst ws => obtain ⟨xs, q, _⟩ := h3; rw [z, hp] at q; cases q
   | dct ks ws => obtain ⟨xs, q, _⟩ := h3; rw [z, hp] at q; cases q
  refine ⟨h1, by rw [upd_ne hne]; exact h2, ?_⟩
  cases m with
  | lst ws => obtain ⟨xs, q, r⟩ := h3; exact ⟨xs, by rw [upd_ne hne]; exact q, r.mono ex⟩
  | dct ks ws => obtain ⟨xs, q, l, r⟩ := h3; exact ⟨xs, by rw [upd_ne hne]; exact q, l, r.mono ex⟩
def S.new (st : S) (o : MO) : S := ⟨st.nxt + 1, fun n => if n = st.nxt then some o else st.mu n⟩
def S.put (st : S) (n : Nat) (o : MO) : S := ⟨st.nxt, fun m => if m = n then some o else st.mu m⟩
theorem SR.newL (h : SR K ι st G H) {p : Addr} {xs : List V} {ws : List W} (hp : H p = none) (r : RelWs K ι st.nxt G xs ws) :
  ∃ ι', Ext ι st.nxt G ι' (st.nxt + 1) G ∧ SR K ι' (st.new (.lst ws)) G (upd H p (.lst xs)) ∧ ι' st.nxt = p := by
 have hG : G p = none := h.sub.free hp
 have ex : Ext ι st.nxt G (fun n => if n = st.nxt then p else ι n) (st.nxt + 1) G := ⟨Nat.le_succ _, fun n hn => if_neg (Nat.ne_of_lt hn), Same.refl G⟩
 have nep : ∀ n o, st.mu n = some o → ι n ≠ p := fun n o e z => by
  obtain ⟨_, _, h3⟩ := h.live n o e
  cases o with
  | lst ws => obtain ⟨xs, q, _⟩ := h3; rw [z, hp] at q; cases q
  | dct ks ws => obtain ⟨xs, q, _⟩ := h3; rw [z, hp] at q; cases q
 refine ⟨fun n => if n = st.nxt then p else ι n, ex, ⟨fun b u e => ?_, fun n o e => ?_, fun n m o o' e e' z => ?_⟩, if_pos rfl⟩
 ·rw [upd_ne (ne_of_none e hG)]; exact h.sub b u e
 ·by_cases hn : n = st.nxt
  ·subst hn
   have e' : (if st.nxt = st.nxt then some (MO.lst ws) else st.mu st.nxt) = some o := e
   rw [if_pos rfl] at e'
   cases e'
   refine ⟨Nat.lt_succ_self _, by (try dsimp only); rw [if_pos rfl]; exact hG, xs, by (try dsimp only); rw [if_pos rfl, upd_same], r.mono ex⟩
  ·have e' : (if n = st.nxt then some (MO.lst ws) else st.mu n) = some o := e
   rw [if_neg hn] at e'
   obtain ⟨h1, h2, h3⟩ := h.live n o e'
   have hne := nep n o e'
   refine ⟨Nat.lt_succ_of_lt h1, by (try dsimp only); rw [if_neg hn]; exact h2, ?_⟩
   cases o with
   | lst ws => obtain ⟨xs, q, r⟩ := h3; exact ⟨xs, by (try dsimp only); rw [if_neg hn, upd_ne hne]; exact q, r.mono ex⟩
   | dct ks ws => obtain ⟨xs, q, l, r⟩ := h3; exact ⟨xs, by (try dsimp only); rw [if_neg hn, upd_ne hne]; exact q, l, r.mono ex⟩
 ·have e1 : (if n = st.nxt then some (MO.lst ws) else st.mu n) = some o := e
  have e2 : (if m = st.nxt then some (MO.lst ws) else st.mu m) = some o' := e'
  (try dsimp only at z)
  by_cases hn : n = st.nxt
  ·by_cases hm : m = st.nxt
   ·rw [hn, hm]
   ·rw [if_neg hm] at e2
    rw [if_pos hn, if_neg hm] at z
    exact absurd z.symm (nep m o' e2)
  ·rw [if_neg hn] at e1
   by_cases hm : m = st.nxt
   ·rw [if_neg hn, if_pos hm] at z
    exact absurd z (nep n o e1)
   ·rw [if_neg hm] at e2
    rw [if_neg hn, if_neg hm] at z
    exact h.inj n m o o' e1 e2 z
theorem SR.putL (h : SR K ι st G H) {n : Nat} {o : MO} {xs : List V} {ws : List W} (hn : st.mu n = some o) (r : RelWs K ι st.nxt G xs ws) : SR K ι (st.put n (.lst ws)) G (upd H (ι n) (.lst xs)) := by
 obtain ⟨h1, h2, _⟩ := h.live n o hn
 refine ⟨fun b u e => ?_, fun m u e => ?_, fun a b u u' e e' z => ?_⟩
 ·rw [upd_ne (ne_of_none e h2)]; exact h.sub b u e
 ·have e' : (if m = n then some (MO.lst ws) else st.mu m) = some u := e
  by_cases hm : m = n
  ·subst hm
   rw [if_pos rfl] at e'
   cases e'
   exact ⟨h1, h2, xs, upd_same, r⟩
  ·rw [if_neg hm] at e'
   obtain ⟨g1, g2, g3⟩ := h.live m u e'
   have hne : ι m ≠ ι n := fun z => hm (h.inj m n u o e' hn z)
   refine ⟨g1, g2, ?_⟩
   cases u with
   | lst ws => obtain ⟨xs, q, r⟩ := g3; exact ⟨xs, by rw [upd_ne hne]; exact q, r⟩
   | dct ks ws => obtain ⟨xs, q, l, r⟩ := g3; exact ⟨xs, by rw [upd_ne hne]; exact q, l, r⟩
 ·have e1 : (if a = n then some (MO.lst ws) else st.mu a) = some u := e
  have e2 : (if b = n then some (MO.lst ws) else st.mu b) = some u' := e'
  have l1 : ∃ o, st.mu a = some o := by
   by_cases q : a = n
   ·exact ⟨o, by rw [q]; exact hn⟩
   ·rw [if_neg q] at e1; exact ⟨u, e1⟩
  have l2 : ∃ o, st.mu b = some o := by
   by_cases q : b = n
   ·exact ⟨o, by rw [q]; exact hn⟩
   ·rw [if_neg q] at e2; exact ⟨u', e2⟩
  obtain ⟨o1, l1⟩ := l1
  obtain ⟨o2, l2⟩ := l2
  exact h.inj a b o1 o2 l1 l2 z
end
def ClsR (K : PySem.W.Frag) (c : W) (cls : Value) : Prop := ∃ x C, c = .str x ∧ PySem.W.nsIn K mainGlobals x = some (some (.ref C)) ∧ cls = .ref C
def XW (X : Cx) (ι : Nat → Addr) (N : Nat) (G : Hp) (c : W) (st' : S) : Prop :=
 ∀ (H' : Hp) (ι' : Nat → Addr) (G' : Hp) (ea : Addr) (cls : Value) (s' : Shared), Ext ι N G ι' st'.nxt G' → SR X.K ι' st' G' H' → ClsR X.K c cls → ExcIn X H' ea cls s' → X.xe (.ref ea) s'
theorem XW.mono {X : Cx} {ι ι1 : Nat → Addr} {N N1 : Nat} {G G1 : Hp} {c : W} {st' : S} (e : Ext ι N G ι1 N1 G1) (h : XW X ι N G c st') : XW X ι1 N1 G1 c st' :=
 fun H' ι' G' x cl s' e' r q I => h H' ι' G' x cl s' (e.trans e') r q I
def wpR (X : Cx) {α : Type} (Rel : (ι : Nat → Addr) → Nat → Hp → α → V → Prop) (ι : Nat → Addr) (N : Nat) (G : Hp) (r : R α) (Q : VK) : Prop := match r with
 | .ok w st' => ∀ v ι' G' H', Ext ι N G ι' st'.nxt G' → SR X.K ι' st' G' H' → Rel ι' st'.nxt G' w v → Q v H'
 | .ex c st' => XW X ι N G c st'
 | .stuck => False
abbrev RW (X : Cx) : (ι : Nat → Addr) → Nat → Hp → W → V → Prop := fun ι N G w v => RelW X.K ι N G v w
abbrev wpW (X : Cx) := wpR X (RW X)
theorem wpW.bind {X : Cx} {ι : Nat → Addr} {N : Nat} {G : Hp} {r : R W} {f : W → S → R W} {Q Q' : VK} (h : wpW X ι N G (r.bind f) Q)
  (k : ∀ w st' v ι' G' H', r = .ok w st' → Ext ι N G ι' st'.nxt G' → SR X.K ι' st' G' H' → RelW X.K ι' st'.nxt G' v w → wpW X ι' st'.nxt G' (f w st') Q → Q' v H') : wpW X ι N G r Q' := by
 cases r with
 | stuck => exact h
 | ex c s => exact h
 | ok w st' =>
  intro v ι' G' H' e sr rel
  refine k w st' v ι' G' H' rfl e sr rel ?_
  have h' : wpW X ι N G (f w st') Q := h
  cases q : f w st' with
  | stuck => rw [q] at h'; exact h'
  | ex c s => rw [q] at h'; exact XW.mono e h'
  | ok w2 st2 =>
   rw [q] at h'
   exact fun v2 ι2 G2 H2 e2 sr2 rel2 => h' v2 ι2 G2 H2 (e.trans e2) sr2 rel2
theorem wpW.mono {X : Cx} {ι : Nat → Addr} {N : Nat} {G : Hp} {r : R W} {Q Q' : VK} (h : wpW X ι N G r Q) (k : ∀ v H, Q v H → Q' v H) : wpW X ι N G r Q' := by
 cases r with
 | stuck => exact h
 | ex c s => exact h
 | ok w st' => exact fun v ι' G' H' e sr rel => k _ _ (h v ι' G' H' e sr rel)
theorem wpW.later {X : Cx} {ι ι1 : Nat → Addr} {N N1 : Nat} {G G1 : Hp} {r : R W} {Q : VK} (e : Ext ι N G ι1 N1 G1) (h : wpW X ι N G r Q) : wpW X ι1 N1 G1 r Q := by
 cases r with
 | stuck => exact h
 | ex c s => exact XW.mono e h
 | ok w st' => exact fun v ι' G' H' e' sr rel => h v ι' G' H' (e.trans e') sr rel
abbrev Run := Ga → S → R W
def tD (X : Cx) (run : Run) : TE := fun σ H Q => ∃ ι G st Γ, EnvR X.K ι st.nxt G σ Γ ∧ SR X.K ι st G H ∧ wpW X ι st.nxt G (run Γ st) Q
abbrev PD (X : Cx) (e : Expr) (run : Run) : Prop := PE X e (tD X run)
theorem PE.imp {X : Cx} {e : Expr} {t t' : TE} (h : PE X e t) (k : ∀ σ H Q, t' σ H Q → t σ H Q) : PE X e t' := fun pins s σ H Q I q => h pins s σ H Q I (k σ H Q q)
theorem PT.imp {X : Cx} {e : Expr} {t t' : TT} (h : PT X e t) (k : ∀ σ H Q, t' σ H Q → t σ H Q) : PT X e t' := fun pins s σ H Q I q => h pins s σ H Q I (k σ H Q q)
theorem PS.imp {X : Cx} {e : Stmt} {t t' : TS} (h : PS X e t) (k : ∀ D σ H, t' D σ H → t D σ H) : PS X e t' := fun pins s σ H D I q => h pins s σ H D I (k D σ H q)
theorem PSs.imp {X : Cx} {e : List Stmt} {t t' : TS} (h : PSs X e t) (k : ∀ D σ H, t' D σ H → t D σ H) : PSs X e t' := fun pins s σ H D I q => h pins s σ H D I (k D σ H q)
theorem PA.imp {X : Cx} {e : List Expr} {t t' : TA} (h : PA X e t) (k : ∀ σ H Q, t' σ H Q → t σ H Q) : PA X e t' := fun pos pins s σ H Q I q => h pos pins s σ H Q I (k σ H Q q)
def tDT (X : Cx) (run : Run) : TT := fun σ H Q => tD X run σ H fun v H' => ∃ b, v = .bl b ∧ Q b H'
section
variable {X : Cx}
def rVar (i : Nat) : Run := fun Γ st => match Γ[i]? with
 | some (some w) => .ok w st
 | _ => .stuck
theorem pd_var {i : Nat} {x : Str} {pos : Pos} (hN : X.N[i]? = some x) (hv : Vis X.env.scope x) (hd : (x == ("__debug__" : Str)) = false) (hcd : (x == ("__classdict__" : Str)) = false) : PD X (.Name x pos) (rVar i) := by
 refine PE.imp (pe_var hN hv hd hcd) fun σ H Q h => ?_
 obtain ⟨ι, G, st, Γ, en, sr, q⟩ := h
 unfold rVar at q
 cases e : Γ[i]? with
 | none => rw [e] at q; exact q.elim
 | some o =>
  cases o with
  | none => rw [e] at q; exact q.elim
  | some w =>
   rw [e] at q
   obtain ⟨v, h1, h2⟩ := en.get i w e
   exact ⟨v, h1, q v ι G H (Ext.refl _ _ _) sr h2⟩
def rCon (w : W) : Run := fun _ st => .ok w st
theorem pd_con {e : Expr} {v : V} {w : W} (h : PE X e (tC v)) (r : ∀ ι N G, RelW X.K ι N G v w) : PD X e (rCon w) := by
 refine PE.imp h fun σ H Q h => ?_
 obtain ⟨ι, G, st, Γ, en, sr, q⟩ := h
 exact q v ι G H (Ext.refl _ _ _) sr (r _ _ _)
abbrev Op2 := W → W → S → R W
def OpW (X : Cx) (f : Value → Value → Sem Value) (op : Op2) : Prop :=
 ∀ (pins : List (Addr × Obj)) (s : Shared) (σ : St) (H : Hp) (ι : Nat → Addr) (G : Hp) (st : S) (x y : V) (w1 w2 : W) (v u : Value) (Q : VK), Inv X pins σ H s → SR X.K ι st G H → RelV x v → RelV y u → RelW X.K ι st.nxt G x w1 → RelW X.K ι st.nxt G y w2 →
  wpW X ι st.nxt G (op w1 w2 st) Q → wpAny (model X.prog X.w) X.A (f v u) (EP X pins σ Q) X.xe s
def rOp (X : Cx) (op : Op2) : R2 := fun x y H Q => ∃ ι G st w1 w2, SR X.K ι st G H ∧ RelW X.K ι st.nxt G x w1 ∧ RelW X.K ι st.nxt G y w2 ∧ wpW X ι st.nxt G (op w1 w2 st) Q
theorem OpW.r {f : Value → Value → Sem Value} {op : Op2} (h : OpW X f op) : OpR X f (rOp X op) :=
 fun pins s σ H x y v u Q I rx ry ⟨ι, G, st, w1, w2, sr, r1, r2, q⟩ => h pins s σ H ι G st x y w1 w2 v u Q I sr rx ry r1 r2 q
def run2 (ra rb : Run) (op : Op2) : Run := fun Γ st => (ra Γ st).bind fun w1 st1 => (rb Γ st1).bind fun w2 st2 => op w1 w2 st2
theorem tD_op {ra rb : Run} {op : Op2} {σ : St} {H : Hp} {Q : VK} (h : tD X (run2 ra rb op) σ H Q) : tOp (rOp X op) (tD X ra) (tD X rb) σ H Q := by
 obtain ⟨ι, G, st, Γ, en, sr, q⟩ := h
 refine ⟨ι, G, st, Γ, en, sr, wpW.bind q fun w1 st1 v1 ι1 G1 H1 _ e1 sr1 r1 q1 => ?_⟩
 refine ⟨ι1, G1, st1, Γ, en.mono e1, sr1, wpW.bind q1 fun w2 st2 v2 ι2 G2 H2 _ e2 sr2 r2 q2 => ?_⟩
 exact ⟨ι2, G2, st2, w1, w2, sr2, r1.mono e2, r2, q2⟩
theorem pd_op {a b : Expr} {op : Operator} {pos : Pos} {ra rb : Run} {o : Op2} (ho : OpW X (binaryOp op) o) (ha : PD X a ra) (hb : PD X b rb) : PD X (.BinOp a op b pos) (run2 ra rb o) :=
 PE.imp (pe_op ho.r ha hb) fun _ _ _ h => tD_op h
theorem pd_cmp {a b : Expr} {op : CmpOp} {pos : Pos} {ra rb : Run} {o : Op2} (ho : OpW X (compareOp op) o) (ha : PD X a ra) (hb : PD X b rb) (hm : behindInMarks op b = false) : PD X (.Compare a [op] [b] pos) (run2 ra rb o) :=
 PE.imp (pe_cmpR ho.r ha hb hm) fun _ _ _ h => tD_op h
theorem pdt_cmp {a b : Expr} {op : CmpOp} {pos : Pos} {ra rb : Run} {o : Op2} (ho : OpW X (compareOp op) o) (ha : PD X a ra) (hb : PD X b rb) (hm : behindInMarks op b = false) : PT X (.Compare a [op] [b] pos) (tDT X (run2 ra rb o)) :=
 PT.imp (pt_cmpR ho.r ha hb hm) fun _ _ _ h => tD_op h
def runC (ra rb rc : Run) (o o' : Op2) : Run := fun Γ st => (ra Γ st).bind fun w1 st1 => (rb Γ st1).bind fun w2 st2 => (o w1 w2 st2).bind fun w st3 => match w with
 | .bl true => (rc Γ st3).bind fun w3 st4 => o' w2 w3 st4
 | .bl false => .ok (.bl false) st3
 | _ => .stuck
theorem tD_chain {ra rb rc : Run} {o o' : Op2} {σ : St} {H : Hp} {Q : VK} (h : tD X (runC ra rb rc o o') σ H Q) : tChain (rOp X o) (rOp X o') (tD X ra) (tD X rb) (tD X rc) σ H Q := by
 obtain ⟨ι, G, st, Γ, en, sr, q⟩ := h
 refine ⟨ι, G, st, Γ, en, sr, wpW.bind q fun w1 st1 v1 ι1 G1 H1 _ e1 sr1 r1 q1 => ?_⟩
 refine ⟨ι1, G1, st1, Γ, en.mono e1, sr1, wpW.bind q1 fun w2 st2 v2 ι2 G2 H2 _ e2 sr2 r2 q2 => ?_⟩
 refine ⟨ι2, G2, st2, w1, w2, sr2, r1.mono e2, r2, wpW.bind q2 fun w st3 v ι3 G3 H3 _ e3 sr3 r3 q3 => ?_⟩
 cases w with
 | bl b =>
  cases r3
  refine ⟨b, rfl, ?_⟩
  cases b with
  | false => rw [if_neg Bool.false_ne_true]; exact q3 _ ι3 G3 H3 (Ext.refl _ _ _) sr3 (.bl false)
  | true =>
   rw [if_pos rfl]
   refine ⟨ι3, G3, st3, Γ, ((en.mono e1).mono e2).mono e3, sr3, wpW.bind q3 fun w3 st4 v3 ι4 G4 H4 _ e4 sr4 r4 q4 => ?_⟩
   exact ⟨ι4, G4, st4, w2, w3, sr4, (r2.mono e3).mono e4, r4, q4⟩
 | _ => exact (show False from q3).elim
theorem pd_chain {a b c : Expr} {op op' : CmpOp} {pos : Pos} {ra rb rc : Run} {o o' : Op2} (ho : OpW X (compareOp op) o) (ho' : OpW X (compareOp op') o') (ha : PD X a ra) (hb : PD X b rb) (hc : PD X c rc) (hm : lastMarks [op, op'] [b, c] = false) :
  PD X (.Compare a [op, op'] [b, c] pos) (runC ra rb rc o o') := PE.imp (pe_chain ho.r ho'.r ha hb hc hm) fun _ _ _ h => tD_chain h
theorem pdt_chain {a b c : Expr} {op op' : CmpOp} {pos : Pos} {ra rb rc : Run} {o o' : Op2} (ho : OpW X (compareOp op) o) (ho' : OpW X (compareOp op') o') (ha : PD X a ra) (hb : PD X b rb) (hc : PD X c rc) (hm : lastMarks [op, op'] [b, c] = false) :
  PT X (.Compare a [op, op'] [b, c] pos) (tDT X (runC ra rb rc o o')) := PT.imp (pt_chain ho.r ho'.r ha hb hc hm) fun _ _ _ h => tD_chain h
def runAnd (ra rb : Run) : Run := fun Γ st => (ra Γ st).bind fun w st1 => match w with
 | .bl true => rb Γ st1
 | .bl false => .ok (.bl false) st1
 | _ => .stuck
def runOr (ra rb : Run) : Run := fun Γ st => (ra Γ st).bind fun w st1 => match w with
 | .bl true => .ok (.bl true) st1
 | .bl false => rb Γ st1
 | _ => .stuck
def runNot (ra : Run) : Run := fun Γ st => (ra Γ st).bind fun w st1 => match w with
 | .bl b => .ok (.bl (!b)) st1
 | _ => .stuck
def runIf (rc ra rb : Run) : Run := fun Γ st => (rc Γ st).bind fun w st1 => match w with
 | .bl true => ra Γ st1
 | .bl false => rb Γ st1
 | _ => .stuck
theorem pd_one {a : Expr} {op : BoolOp} {pos : Pos} {ra : Run} (ha : PD X a ra) : PD X (.BoolOp op [a] pos) ra := pe_one ha
theorem pd_and {a b : Expr} {rest : List Expr} {pos : Pos} {ra rb : Run} (ha : PD X a ra) (hb : PD X (.BoolOp .And (b :: rest) pos) rb) : PD X (.BoolOp .And (a :: b :: rest) pos) (runAnd ra rb) := by
 refine PE.imp (pe_and ha hb) fun σ H Q h => ?_
 obtain ⟨ι, G, st, Γ, en, sr, q⟩ := h
 refine ⟨ι, G, st, Γ, en, sr, wpW.bind q fun w st1 v ι1 G1 H1 _ e1 sr1 r1 q1 => ?_⟩
 cases w with
 | bl b =>
  cases r1
  refine ⟨b, rfl, ?_⟩
  cases b with
  | false => rw [if_neg Bool.false_ne_true]; exact q1 _ ι1 G1 H1 (Ext.refl _ _ _) sr1 (.bl false)
  | true => rw [if_pos rfl]; exact ⟨ι1, G1, st1, Γ, en.mono e1, sr1, q1⟩
 | _ => exact (show False from q1).elim
theorem pd_or {a b : Expr} {rest : List Expr} {pos : Pos} {ra rb : Run} (ha : PD X a ra) (hb : PD X (.BoolOp .Or (b :: rest) pos) rb) : PD X (.BoolOp .Or (a :: b :: rest) pos) (runOr ra rb) := by
 refine PE.imp (pe_or ha hb) fun σ H Q h => ?_
 obtain ⟨ι, G, st, Γ, en, sr, q⟩ := h
 refine ⟨ι, G, st, Γ, en, sr, wpW.bind q fun w st1 v ι1 G1 H1 _ e1 sr1 r1 q1 => ?_⟩
 cases w with
 | bl b =>
  cases r1
  refine ⟨b, rfl, ?_⟩
  cases b with
  | true => rw [if_pos rfl]; exact q1 _ ι1 G1 H1 (Ext.refl _ _ _) sr1 (.bl true)
  | false => rw [if_neg Bool.false_ne_true]; exact ⟨ι1, G1, st1, Γ, en.mono e1, sr1, q1⟩
 | _ => exact (show False from q1).elim
theorem pd_not {a : Expr} {pos : Pos} {ra : Run} (ha : PD X a ra) : PD X (.UnaryOp .Not a pos) (runNot ra) := by
 refine PE.imp (pe_not ha) fun σ H Q h => ?_
 obtain ⟨ι, G, st, Γ, en, sr, q⟩ := h
 refine ⟨ι, G, st, Γ, en, sr, wpW.bind q fun w st1 v ι1 G1 H1 _ e1 sr1 r1 q1 => ?_⟩
 cases w with
 | bl b => cases r1; exact ⟨b, rfl, q1 _ ι1 G1 H1 (Ext.refl _ _ _) sr1 (.bl _)⟩
 | _ => exact (show False from q1).elim
theorem pdt_not {a : Expr} {pos : Pos} {ra : Run} (ha : PT X a (tDT X ra)) : PT X (.UnaryOp .Not a pos) (tDT X (runNot ra)) := by
 refine PT.imp (pt_not ha) fun σ H Q h => ?_
 obtain ⟨ι, G, st, Γ, en, sr, q⟩ := h
 refine ⟨ι, G, st, Γ, en, sr, wpW.bind q fun w st1 v ι1 G1 H1 _ e1 sr1 r1 q1 => ?_⟩
 cases w with
 | bl b =>
  cases r1
  obtain ⟨b', e, q'⟩ := q1 _ ι1 G1 H1 (Ext.refl _ _ _) sr1 (.bl _)
  cases e
  exact ⟨b, rfl, q'⟩
 | _ => exact (show False from q1).elim
theorem pwt_one {a : Expr} {op : BoolOp} {pos : Pos} {ra : Run} (ha : PT X a (tDT X ra)) : PW X (.BoolOp op [a] pos) (tDT X ra) := by
 cases op with
 | And => exact pw_and1 ha
 | Or => exact pw_or1 ha
theorem PW.imp {e : Expr} {t t' : TT} (h : PW X e t) (k : ∀ σ H Q, t' σ H Q → t σ H Q) : PW X e t' := fun whole pins s σ H Q I q => h whole pins s σ H Q I (k σ H Q q)
theorem pwt_and {a b : Expr} {rest : List Expr} {pos : Pos} {ra rb : Run} (ha : PT X a (tDT X ra)) (hb : PW X (.BoolOp .And (b :: rest) pos) (tDT X rb)) : PW X (.BoolOp .And (a :: b :: rest) pos) (tDT X (runAnd ra rb)) := by
 refine PW.imp (pw_and ha hb) fun σ H Q h => ?_
 obtain ⟨ι, G, st, Γ, en, sr, q⟩ := h
 refine ⟨ι, G, st, Γ, en, sr, wpW.bind q fun w st1 v ι1 G1 H1 _ e1 sr1 r1 q1 => ?_⟩
 cases w with
 | bl b =>
  cases r1
  refine ⟨b, rfl, ?_⟩
  cases b with
  | false =>
   rw [if_neg Bool.false_ne_true]
   obtain ⟨b', e, q'⟩ := q1 _ ι1 G1 H1 (Ext.refl _ _ _) sr1 (.bl false)
   cases e; exact q'
  | true => rw [if_pos rfl]; exact ⟨ι1, G1, st1, Γ, en.mono e1, sr1, q1⟩
 | _ => exact (show False from q1).elim
theorem pwt_or {a b : Expr} {rest : List Expr} {pos : Pos} {ra rb : Run} (ha : PT X a (tDT X ra)) (hb : PW X (.BoolOp .Or (b :: rest) pos) (tDT X rb)) : PW X (.BoolOp .Or (a :: b :: rest) pos) (tDT X (runOr ra rb)) := by
 refine PW.imp (pw_or ha hb) fun σ H Q h => ?_
 obtain ⟨ι, G, st, Γ, en, sr, q⟩ := h
 refine ⟨ι, G, st, Γ, en, sr, wpW.bind q fun w st1 v ι1 G1 H1 _ e1 sr1 r1 q1 => ?_⟩
 cases w with
 | bl b =>
  cases r1
  refine ⟨b, rfl, ?_⟩
  cases b with
  | true =>
   rw [if_pos rfl]
   obtain ⟨b', e, q'⟩ := q1 _ ι1 G1 H1 (Ext.refl _ _ _) sr1 (.bl true)
   cases e; exact q'
  | false => rw [if_neg Bool.false_ne_true]; exact ⟨ι1, G1, st1, Γ, en.mono e1, sr1, q1⟩
 | _ => exact (show False from q1).elim
theorem pd_if {c a b : Expr} {pos : Pos} {rc ra rb : Run} (hc : PT X c (tDT X rc)) (ha : PD X a ra) (hb : PD X b rb) : PD X (.IfExp c a b pos) (runIf rc ra rb) := by
 refine PE.imp (pe_ifExp hc ha hb) fun σ H Q h => ?_
 obtain ⟨ι, G, st, Γ, en, sr, q⟩ := h
 refine ⟨ι, G, st, Γ, en, sr, wpW.bind q fun w st1 v ι1 G1 H1 _ e1 sr1 r1 q1 => ?_⟩
 cases w with
 | bl b =>
  cases r1
  refine ⟨b, rfl, ?_⟩
  cases b with
  | true => rw [if_pos rfl]; exact ⟨ι1, G1, st1, Γ, en.mono e1, sr1, q1⟩
  | false => rw [if_neg Bool.false_ne_true]; exact ⟨ι1, G1, st1, Γ, en.mono e1, sr1, q1⟩
 | _ => exact (show False from q1).elim
theorem pdt_val {e : Expr} {r : Run} (h : PD X e r) (he : ∀ whole, isTrue e X.env whole = (do let v ← whole; standAt e.pos; holding [v] (truthy v))) : PT X e (tDT X r) := pt_val h he
abbrev Runs := Ga → S → R (List W)
def tDA (X : Cx) (run : Runs) : TA := fun σ H Q => ∃ ι G st Γ, EnvR X.K ι st.nxt G σ Γ ∧ SR X.K ι st G H ∧ (match run Γ st with
 | .ok ws st' => ∀ vs ι' G' H', Ext ι st.nxt G ι' st'.nxt G' → SR X.K ι' st' G' H' → RelWs X.K ι' st'.nxt G' vs ws → Q vs H'
 | .ex c st' => XW X ι st.nxt G c st'
 | .stuck => False)
abbrev PDA (X : Cx) (es : List Expr) (run : Runs) : Prop := PA X es (tDA X run)
def runsNil : Runs := fun _ st => .ok [] st
def runsCons (ra : Run) (rr : Runs) : Runs := fun Γ st => (ra Γ st).bind fun w st1 => (rr Γ st1).bind fun ws st2 => .ok (w :: ws) st2
theorem pda_nil : PDA X [] runsNil := by
 refine PA.imp pa_nil fun σ H Q h => ?_
 obtain ⟨ι, G, st, Γ, en, sr, q⟩ := h
 exact q [] ι G H (Ext.refl _ _ _) sr .nil
theorem pda_cons {e : Expr} {es : List Expr} {ra : Run} {rr : Runs} (ha : PD X e ra) (hr : PDA X es rr) (hs : starEach (e :: es) X.env = (false, eval e X.env) :: starEach es X.env) : PDA X (e :: es) (runsCons ra rr) := by
 refine PA.imp (pa_cons ha hr hs) fun σ H Q h => ?_
 obtain ⟨ι, G, st, Γ, en, sr, q⟩ := h
 refine ⟨ι, G, st, Γ, en, sr, ?_⟩
 unfold runsCons at q
 cases e1 : ra Γ st with
 | stuck => rw [e1] at q; exact q
 | ex c s => rw [e1] at q; exact q
 | ok w st1 =>
  rw [e1] at q
  intro v ι1 G1 H1 x1 sr1 r1
  refine ⟨ι1, G1, st1, Γ, en.mono x1, sr1, ?_⟩
  have q' : match (rr Γ st1).bind fun ws st2 => R.ok (w :: ws) st2 with
   | .ok ws st' => ∀ vs ι' G' H', Ext ι st.nxt G ι' st'.nxt G' → SR X.K ι' st' G' H' → RelWs X.K ι' st'.nxt G' vs ws → Q vs H'
   | .ex c st' => XW X ι st.nxt G c st'
   | .stuck => False := q
  cases e2 : rr Γ st1 with
  | stuck => rw [e2] at q'; exact q'
  | ex c s => rw [e2] at q'; exact XW.mono x1 q'
  | ok ws st2 =>
   rw [e2] at q'
   exact fun vs ι2 G2 H2 x2 sr2 r2 => q' (v :: vs) ι2 G2 H2 (x1.trans x2) sr2 (.cons (r1.mono x2) r2)
abbrev OpN := List W → S → R W
def runN (rr : Runs) (op : OpN) : Run := fun Γ st => (rr Γ st).bind op
theorem tD_args {rr : Runs} {op : OpN} {σ : St} {H : Hp} {Q : VK} {Q' : List V → Hp → Prop} (h : tD X (runN rr op) σ H Q)
  (k : ∀ ws st' vs ι' G' H', SR X.K ι' st' G' H' → RelWs X.K ι' st'.nxt G' vs ws → wpW X ι' st'.nxt G' (op ws st') Q → Q' vs H') : tDA X rr σ H Q' := by
 obtain ⟨ι, G, st, Γ, en, sr, q⟩ := h
 refine ⟨ι, G, st, Γ, en, sr, ?_⟩
 unfold runN at q
 cases e1 : rr Γ st with
 | stuck => rw [e1] at q; exact q
 | ex c s => rw [e1] at q; exact q
 | ok ws st1 =>
  rw [e1] at q
  intro vs ι1 G1 H1 x1 sr1 r1
  exact k ws st1 vs ι1 G1 H1 sr1 r1 (wpW.later x1 (show wpW X ι st.nxt G (op ws st1) Q from q))
def CallW (X : Cx) (f : Value) (op : OpN) : Prop :=
 ∀ (pins : List (Addr × Obj)) (s : Shared) (σ : St) (H : Hp) (ι : Nat → Addr) (G : Hp) (st : S) (xs : List V) (ws : List W) (us : List Value) (Q : VK), Inv X pins σ H s → SR X.K ι st G H → Vals xs us → RelWs X.K ι st.nxt G xs ws →
  wpW X ι st.nxt G (op ws st) Q → wpAny (model X.prog X.w) X.A (call f us) (EP X pins σ Q) X.xe s
def rCall (X : Cx) (op : OpN) : List V → Hp → VK → Prop := fun xs H Q => ∃ ι G st ws, SR X.K ι st G H ∧ RelWs X.K ι st.nxt G xs ws ∧ wpW X ι st.nxt G (op ws st) Q
theorem CallW.r {f : Value} {op : OpN} (h : CallW X f op) : CallR X f (rCall X op) := fun pins s σ H xs us Q I r ⟨ι, G, st, ws, sr, r1, q⟩ => h pins s σ H ι G st xs ws us Q I sr r r1 q
theorem tD_callB {rr : Runs} {op : OpN} {σ : St} {H : Hp} {Q : VK} (h : tD X (runN rr op) σ H Q) : tCB (rCall X op) (tDA X rr) σ H Q :=
 tD_args h fun ws st' vs ι' G' H' sr r q => ⟨ι', G', st', ws, sr, r, q⟩
def opTup : OpN := fun ws st => if ws.length ≤ sizeLine then .ok (.tup ws) st else .stuck
def opLst : OpN := fun ws st => if ws.length ≤ sizeLine then .ok (.lst ws) st else .stuck
def opNewL : OpN := fun ws st => if ws.length ≤ sizeLine then .ok (.ref st.nxt) (st.new (.lst ws)) else .stuck
theorem tup_laid {ι : Nat → Addr} {G H : Hp} {st : S} {xs : List V} {ws : List W} {Q : VK} (sr : SR X.K ι st G H) (r : RelWs X.K ι st.nxt G xs ws) (q : wpW X ι st.nxt G (opTup ws st) Q) : xs.length ≤ sizeLine ∧ ∀ p, H p = none → Q (.ref p) (upd H p (.tup xs)) := by
 unfold opTup at q
 by_cases hl : ws.length ≤ sizeLine
 ·rw [if_pos hl] at q
  refine ⟨by rw [r.length]; exact hl, fun p hp => ?_⟩
  obtain ⟨s2, e2⟩ := sr.laid (o := .tup xs) hp
  exact q _ ι _ _ e2 s2 (.tup (.inl (.inl upd_same)) (r.mono e2))
 ·rw [if_neg hl] at q; exact q.elim
theorem lst_laid {ι : Nat → Addr} {G H : Hp} {st : S} {xs : List V} {ws : List W} {Q : VK} (sr : SR X.K ι st G H) (r : RelWs X.K ι st.nxt G xs ws) (q : wpW X ι st.nxt G (opLst ws st) Q) : xs.length ≤ sizeLine ∧ ∀ p, H p = none → Q (.ref p) (upd H p (.lst xs)) := by
 unfold opLst at q
 by_cases hl : ws.length ≤ sizeLine
 ·rw [if_pos hl] at q
  refine ⟨by rw [r.length]; exact hl, fun p hp => ?_⟩
  obtain ⟨s2, e2⟩ := sr.laid (o := .lst xs) hp
  exact q _ ι _ _ e2 s2 (.lst (.inl (.inl upd_same)) (r.mono e2))
 ·rw [if_neg hl] at q; exact q.elim
theorem newL_laid {ι : Nat → Addr} {G H : Hp} {st : S} {xs : List V} {ws : List W} {Q : VK} (sr : SR X.K ι st G H) (r : RelWs X.K ι st.nxt G xs ws) (q : wpW X ι st.nxt G (opNewL ws st) Q) : xs.length ≤ sizeLine ∧ ∀ p, H p = none → Q (.ref p) (upd H p (.lst xs)) := by
 unfold opNewL at q
 by_cases hl : ws.length ≤ sizeLine
 ·rw [if_pos hl] at q
  refine ⟨by rw [r.length]; exact hl, fun p hp => ?_⟩
  obtain ⟨ι', e2, s2, ep⟩ := sr.newL hp r
  have q' := q (.ref p) ι' G (upd H p (.lst xs)) e2 s2
  rw [← ep] at q' ⊢
  exact q' (.ref (Nat.lt_succ_self _))
 ·rw [if_neg hl] at q; exact q.elim
theorem pd_tup {es : List Expr} {k : Nat} {pos : Pos} {rr : Runs} (h : PDA X es rr) : PD X (.Tuple es k pos) (runN rr opTup) :=
 PE.imp (pe_tup h) fun _ _ _ h => tD_args h fun _ _ _ _ _ _ sr r q => tup_laid sr r q
theorem pd_lst {es : List Expr} {pos : Pos} {rr : Runs} (h : PDA X es rr) : PD X (.List es pos) (runN rr opLst) :=
 PE.imp (pe_lst h) fun _ _ _ h => tD_args h fun _ _ _ _ _ _ sr r q => lst_laid sr r q
theorem pd_newL {es : List Expr} {pos : Pos} {rr : Runs} (h : PDA X es rr) : PD X (.List es pos) (runN rr opNewL) :=
 PE.imp (pe_lst h) fun _ _ _ h => tD_args h fun _ _ _ _ _ _ sr r q => newL_laid sr r q
end
end DL
namespace DL
open PySem PySem.Spec PyProof.Rows L2
section
variable {X : Cx}
def MO.items : Option MO → Option (List W)
 | some (.lst xs) => some xs
 | _ => none
def catO (a b : Option (List W)) (st : S) : R W := match a, b with
 | some xs, some ys => if xs.length + ys.length ≤ sizeLine then .ok (.lst (xs ++ ys)) st else .stuck
 | _, _ => .stuck
def opAdd : Op2 := fun a b st => match a, b with
 | .int i, .int j => .ok (.int (i + j)) st
 | .str x, .str y => if x.length + y.length ≤ sizeLine then .ok (.str (x ++ y)) st else .stuck
 | .lst xs, .lst ys => catO (some xs) (some ys) st
 | .lst xs, .ref m => catO (some xs) (MO.items (st.mu m)) st
 | .ref n, .lst ys => catO (MO.items (st.mu n)) (some ys) st
 | .ref n, .ref m => catO (MO.items (st.mu n)) (MO.items (st.mu m)) st
 | .tup xs, .tup ys => if xs ≠ [] ∧ xs.length + ys.length ≤ sizeLine then .ok (.tup (xs ++ ys)) st else .stuck
 | _, _ => .stuck
def opSub : Op2 := fun a b st => match a, b with
 | .int i, .int j => .ok (.int (i - j)) st
 | _, _ => .stuck
instance (i j : Int) : Decidable (CMul i j) := by unfold CMul; infer_instance
instance (i j : Int) : Decidable (CDiv i j) := by unfold CDiv; infer_instance
instance (i j : Int) : Decidable (CPow i j) := by unfold CPow; infer_instance
def opMulI : Op2 := fun a b st => match a, b with
 | .int i, .int j => if CMul i j then .ok (.int (i * j)) st else .stuck
 | _, _ => .stuck
def repO (a : Option (List W)) (k : Int) (st : S) : R W := match a with
 | some xs => if (-(2 ^ 63) ≤ k ∧ k < 2 ^ 63) ∧ xs.length * k.toNat ≤ sizeLine then .ok (.lst (List.replicate k.toNat xs).flatten) st else .stuck
 | none => .stuck
def opMul : Op2 := fun a b st => match a, b with
 | .lst xs, .int k => repO (some xs) k st
 | .ref n, .int k => repO (MO.items (st.mu n)) k st
 | a, b => opMulI a b st
def opDiv : Op2 := fun a b st => match a, b with
 | .int i, .int j => if CDiv i j then .ok (.int (i / j)) st else .stuck
 | _, _ => .stuck
def opMod : Op2 := fun a b st => match a, b with
 | .int i, .int j => if 0 < j then .ok (.int (i % j)) st else .stuck
 | _, _ => .stuck
def opPow : Op2 := fun a b st => match a, b with
 | .int i, .int j => if CPow i j then .ok (.int (i ^ j.toNat)) st else .stuck
 | _, _ => .stuck
theorem op_catL : OpR X (binaryOp .Add) (fun x y H Q => ∃ l b xs zs, x = .ref l ∧ y = .ref b ∧ SqL X.K H l xs ∧ SqL X.K H b zs ∧ xs.length + zs.length ≤ sizeLine ∧ ∀ p, H p = none → Q (.ref p) (upd H p (.lst (xs ++ zs)))) := by
 intro pins s σ H x y v u Q I rx ry h
 obtain ⟨l, b, xs, zs, rfl, rfl, hH, hB, hz, q⟩ := h
 cases rx
 cases ry
 obtain ⟨its, r, pl, z⟩ := I.list hH
 obtain ⟨its2, r2, pl2, z2⟩ := I.list hB
 have hl := r.length
 have hl2 := r2.length
 obtain ⟨⟨cls, dd, data, sl⟩, n, e, ec, ed, es⟩ := pl
 obtain ⟨⟨cls2, dd2, data2, sl2⟩, n2, e2, ec2, ed2, es2⟩ := pl2
 simp only at ec es ec2 es2
 subst ec es ec2 es2
 have ea : its.toArray ++ its2.toArray = (its ++ its2).toArray := by simp
 refine concat_meets ⟨_, e, rfl⟩ ⟨_, e2, rfl⟩ noFill_list_add seq_list_add PySem.F.slot_list_add PySem.F.entry_list_add (PySem.F.args_list_add_2 _ _) (list_addW l b its.toArray its2.toArray n n2 dd dd2 sl sl2 (by rw [List.size_toArray, List.size_toArray]; omega)) ⟨e, e2, ?_⟩
 rw [ea]
 exact ⟨.ref _, _, I.lnew (t' := s.toks) (r.append r2) (by rw [List.length_append]; omega), rfl, q _ I.fresh⟩
theorem items_live {K : PySem.W.Frag} {ι : Nat → Addr} {st : S} {G H : Hp} {n : Nat} {ws : List W} (sr : SR K ι st G H) (h : MO.items (st.mu n) = some ws) : ∃ xs, SqL K H (ι n) xs ∧ RelWs K ι st.nxt G xs ws := by
 cases e : st.mu n with
 | none => rw [e] at h; cases h
 | some o =>
  obtain ⟨_, _, h3⟩ := sr.live n o e
  cases o with
  | lst zs =>
   rw [e] at h
   cases h
   obtain ⟨vs, q, r⟩ := h3
   exact ⟨vs, SqL.of q, r⟩
  | dct ks vs => rw [e] at h; cases h
theorem opw_add : OpW X (binaryOp .Add) opAdd := by
 intro pins s σ H ι G st x y w1 w2 v u Q I sr rx ry r1 r2 q
 have cat : ∀ {a b : Addr} {xs ys : List V} {ws ws' : List W}, RelV (.ref a) v → RelV (.ref b) u → SqL X.K H a xs → SqL X.K H b ys → RelWs X.K ι st.nxt G xs ws → RelWs X.K ι st.nxt G ys ws' → wpW X ι st.nxt G (catO (some ws) (some ws') st) Q →
   wpAny (model X.prog X.w) X.A (binaryOp .Add v u) (EP X pins σ Q) X.xe s := by
  intro a b xs ys ws ws' rx ry s1 s2 t1 t2 q
  have q' : wpW X ι st.nxt G (if ws.length + ws'.length ≤ sizeLine then .ok (.lst (ws ++ ws')) st else .stuck) Q := q
  by_cases hl : ws.length + ws'.length ≤ sizeLine
  ·rw [if_pos hl] at q'
   refine op_catL pins s σ H _ _ v u Q I rx ry ⟨_, _, _, _, rfl, rfl, s1, s2, by rw [t1.length, t2.length]; exact hl, fun p hp => ?_⟩
   obtain ⟨sr2, e2⟩ := sr.laid (o := .lst _) hp
   exact q' _ ι _ _ e2 sr2 (.lst (.inl (.inl upd_same)) ((t1.append t2).mono e2))
  ·rw [if_neg hl] at q'; exact q'.elim
 cases w1 with
 | int i =>
  cases w2 with
  | int j => cases r1; cases r2; exact op_add pins s σ H _ _ v u Q I rx ry ⟨i, j, rfl, rfl, q _ ι G H (Ext.refl _ _ _) sr (.int _)⟩
  | _ => exact (show False from q).elim
 | str i =>
  cases w2 with
  | str j =>
   cases r1; cases r2
   have q' : wpW X ι st.nxt G (if i.length + j.length ≤ sizeLine then .ok (.str (i ++ j)) st else .stuck) Q := q
   by_cases hl : i.length + j.length ≤ sizeLine
   ·rw [if_pos hl] at q'
    exact op_add_str pins s σ H _ _ v u Q I rx ry ⟨i, j, rfl, rfl, hl, q' _ ι G H (Ext.refl _ _ _) sr (.str _)⟩
   ·rw [if_neg hl] at q'; exact q'.elim
  | _ => exact (show False from q).elim
 | lst xs =>
  cases w2 with
  | lst ys =>
   cases r1 with
   | lst s1 t1 =>
    cases r2 with
    | lst s2 t2 => exact cat rx ry (sr.sub.seq s1) (sr.sub.seq s2) t1 t2 q
  | ref m =>
   cases r1 with
   | lst s1 t1 =>
    have q' : wpW X ι st.nxt G (catO (some xs) (MO.items (st.mu m)) st) Q := q
    cases hm : MO.items (st.mu m) with
    | none => rw [hm] at q'; exact (show False from q').elim
    | some ys =>
     rw [hm] at q'
     cases r2 with
     | ref hn =>
      obtain ⟨vs, h1, h2⟩ := items_live sr hm
      exact cat rx ry (sr.sub.seq s1) h1 t1 h2 q'
  | _ => exact (show False from q).elim
 | ref n =>
  cases w2 with
  | lst ys =>
   cases r2 with
   | lst s2 t2 =>
    have q' : wpW X ι st.nxt G (catO (MO.items (st.mu n)) (some ys) st) Q := q
    cases hm : MO.items (st.mu n) with
    | none => rw [hm] at q'; exact (show False from q').elim
    | some xs =>
     rw [hm] at q'
     cases r1 with
     | ref hn =>
      obtain ⟨vs, h1, h2⟩ := items_live sr hm
      exact cat rx ry h1 (sr.sub.seq s2) h2 t2 q'
  | ref m =>
   have q' : wpW X ι st.nxt G (catO (MO.items (st.mu n)) (MO.items (st.mu m)) st) Q := q
   cases hm : MO.items (st.mu n) with
   | none => rw [hm] at q'; exact (show False from q').elim
   | some xs =>
    cases hk : MO.items (st.mu m) with
    | none => rw [hm, hk] at q'; exact (show False from q').elim
    | some ys =>
     rw [hm, hk] at q'
     cases r1 with
     | ref hn =>
      cases r2 with
      | ref hn' =>
       obtain ⟨vs, h1, h2⟩ := items_live sr hm
       obtain ⟨vs', h3, h4⟩ := items_live sr hk
       exact cat rx ry h1 h3 h2 h4 q'
  | _ => exact (show False from q).elim
 | tup xs =>
  cases w2 with
  | tup ys =>
   cases r1 with
   | tup s1 t1 =>
    cases r2 with
    | tup s2 t2 =>
     have q' : wpW X ι st.nxt G (if xs ≠ [] ∧ xs.length + ys.length ≤ sizeLine then .ok (.tup (xs ++ ys)) st else .stuck) Q := q
     by_cases hl : xs ≠ [] ∧ xs.length + ys.length ≤ sizeLine
     ·rw [if_pos hl] at q'
      refine op_catT pins s σ H _ _ v u Q I rx ry ⟨_, _, _, _, rfl, rfl, sqT_same sr.sub s1, sqT_same sr.sub s2, fun z => hl.1 ?_, by rw [t1.length, t2.length]; exact hl.2, fun z => ?_, fun z p hp => ?_⟩
      ·subst z; cases t1; rfl
      ·subst z
       cases t2
       refine q' _ ι G H (Ext.refl _ _ _) sr (.tup s1 ?_)
       rw [List.append_nil]; exact t1
      ·obtain ⟨sr2, e2⟩ := sr.laid (o := .tup _) hp
       exact q' _ ι _ _ e2 sr2 (.tup (.inl (.inl upd_same)) ((t1.append t2).mono e2))
     ·rw [if_neg hl] at q'; exact q'.elim
  | _ => exact (show False from q).elim
 | _ => exact (show False from q).elim
theorem opw_sub : OpW X (binaryOp .Sub) opSub := by
 intro pins s σ H ι G st x y w1 w2 v u Q I sr rx ry r1 r2 q
 cases w1 with
 | int i =>
  cases w2 with
  | int j => cases r1; cases r2; exact op_sub pins s σ H _ _ v u Q I rx ry ⟨i, j, rfl, rfl, q _ ι G H (Ext.refl _ _ _) sr (.int _)⟩
  | _ => exact (show False from q).elim
 | _ => exact (show False from q).elim
theorem opw_I {f : Value → Value → Sem Value} {C : Int → Int → Prop} [∀ i j, Decidable (C i j)] {g : Int → Int → Int} {op : Op2} (h : OpR X f (rI C fun i j => .int (g i j)))
  (hi : ∀ i j st, op (.int i) (.int j) st = if C i j then .ok (.int (g i j)) st else .stuck) (ho : ∀ a b st, (∀ i j, ¬ (a = .int i ∧ b = .int j)) → op a b st = .stuck) : OpW X f op := by
 intro pins s σ H ι G st x y w1 w2 v u Q I sr rx ry r1 r2 q
 by_cases hw : ∃ i j, w1 = .int i ∧ w2 = .int j
 ·obtain ⟨i, j, rfl, rfl⟩ := hw
  cases r1; cases r2
  rw [hi] at q
  by_cases hc : C i j
  ·rw [if_pos hc] at q
   exact h pins s σ H _ _ v u Q I rx ry ⟨i, j, rfl, rfl, hc, q _ ι G H (Ext.refl _ _ _) sr (.int _)⟩
  ·rw [if_neg hc] at q; exact (show False from q).elim
 ·rw [ho _ _ _ fun i j z => hw ⟨i, j, z.1, z.2⟩] at q
  exact (show False from q).elim
theorem list_mulW (l : Addr) (items : Array Value) (n : Nat) (x : Int) (u : Tok) (dd : Option Addr) (sl : Array (Option Value)) (hc0 : ¬(!Builtin.List.listFitsIndex x) = true) (hc1 : ¬items.size * x.toNat > (2 ^ 63 - 1) / 8) (hc2 : ¬Builtin.List.listTooLong (items.size * x.toNat) = true) :
  Meets (Builtin.«list.__mul__» ⟨[.ref l, .int x u], []⟩) (fun _ R s => s.heap.get? l = some { cls := .type "list", dict := dd, data := .seq items n, slots := sl } ∧ R (.ok (.ret (Value.ref s.heap.objs.size))) { s with heap := s.heap.push { cls := Value.type "list", data := Data.seq (List.foldl (fun x1 x2 => x1 ++ x2) #[] (List.replicate (if items.isEmpty = true then 0 else x.toNat) items)) }, toks := s.toks }) :=
 .of_wp fun prog w A R s h => by
  obtain ⟨hp, g, d, tk, os⟩ := s
  obtain ⟨hl, h⟩ := h
  have hsz := AutoListH.joined_fits hc2
  wp_walk
  refine wpAny_ite_false (decide_eq_false (Nat.not_lt.mpr hsz)) ?_
  wp_walk
  exact ⟨_, rfl, h⟩
theorem int_rmulW (a : Int) (t : Tok) (l : Addr) (items : Array Value) (n : Nat) (dd : Option Addr) (sl : Array (Option Value)) :
  Meets (Builtin.«int.__rmul__» ⟨[.int a t, .ref l], []⟩) (fun _ R s => s.heap.get? l = some { cls := .type "list", dict := dd, data := .seq items n, slots := sl } ∧ R (.ok (.ret Value.notImplemented)) s) :=
 .of_wp fun prog w A R s h => by
  obtain ⟨hp, g, d, tk, os⟩ := s
  obtain ⟨hl, h⟩ := h
  wp_walk
  exact ⟨_, rfl, h⟩
theorem op_repL : OpR X (binaryOp .Mult) (fun x y H Q => ∃ l k xs, x = .ref l ∧ y = .int k ∧ SqL X.K H l xs ∧ -(2 ^ 63) ≤ k ∧ k < 2 ^ 63 ∧ xs.length * k.toNat ≤ sizeLine ∧ ∀ p, H p = none → Q (.ref p) (upd H p (.lst (List.replicate k.toNat xs).flatten))) := by
 intro pins s σ H x y v u Q I rx ry h
 obtain ⟨l, k, xs, rfl, rfl, hH, h1, h2, hz, q⟩ := h
 cases rx
 obtain ⟨t, rfl⟩ := ry
 obtain ⟨its, r, pl, z⟩ := I.list hH
 have hl := r.length
 obtain ⟨⟨cls, dd, data, sl⟩, n, e, ec, ed, es⟩ := pl
 simp only at ec es
 subst ec es
 have hlen : its.toArray.size * k.toNat ≤ sizeLine := by rw [List.size_toArray, ← hl]; exact hz
 have hcap : ¬ its.toArray.size * k.toNat > (2 ^ 63 - 1) / 8 := by
  have : (sizeLine : Nat) ≤ (2 ^ 63 - 1) / 8 := by decide
  omega
 have hfit : ¬ (!Builtin.List.listFitsIndex k) = true := by rw [fitsIndex_both h1 h2]; exact Bool.false_ne_true
 have hlong : ¬ Builtin.List.listTooLong (its.toArray.size * k.toNat) = true := by rw [notLongL hlen]; exact Bool.false_ne_true
 have f0 : ∀ m : Nat, List.foldl (fun x1 x2 => x1 ++ x2) #[] (List.replicate m its.toArray) = (List.replicate m its).flatten.toArray := fun m => by have := foldl_rep its m []; rw [List.nil_append] at this; exact this
 have hnew : List.foldl (fun x1 x2 => x1 ++ x2) #[] (List.replicate (if its.toArray.isEmpty = true then 0 else k.toNat) its.toArray) = (List.replicate k.toNat its).flatten.toArray := by
  rw [f0]
  cases its with
  | nil => simp
  | cons a r' => rw [if_neg (by simp)]
 refine wpAny_binaryOp_repeat_ref (T := "list") (U := "int") (by decide) ⟨_, e, rfl⟩ (fun s' => typeIs_int s' k t) noFill_list_mul F.fills_int_mul F.slot_int_rmul repeat_list F.slot_int_index.lookup
  (call_meets F.slot_int_rmul (typeIs_int s k t) F.entry_int_rmul (F.args_int_rmul_2 _ _) (int_rmulW k t l its.toArray n dd sl) ⟨e, rfl, ⟨_, e, rfl⟩, call_meets F.slot_list_mul ⟨_, e, rfl⟩ F.entry_list_mul (F.args_list_mul_2 _ _) (list_mulW l its.toArray n k t dd sl hfit hcap hlong) ⟨e, ?_⟩⟩)
 rw [hnew]
 exact ⟨.ref _, _, I.lnew (t' := s.toks) (r.rep k.toNat) (by rw [len_rep, Nat.mul_comm]; exact hz), rfl, q _ I.fresh⟩
theorem RelWs.rep {K : PySem.W.Frag} {ι : Nat → Addr} {N : Nat} {G : Hp} {vs : List V} {ws : List W} (r : RelWs K ι N G vs ws) : ∀ k : Nat, RelWs K ι N G (List.replicate k vs).flatten (List.replicate k ws).flatten
 | 0 => .nil
 | k + 1 => by rw [List.replicate_succ, List.replicate_succ, List.flatten_cons, List.flatten_cons]; exact r.append (RelWs.rep r k)
theorem opw_mulI : OpW X (binaryOp .Mult) opMulI := opw_I op_mul (fun _ _ _ => rfl) fun a b st h => by
 cases a <;> cases b <;> first | rfl | exact absurd ⟨rfl, rfl⟩ (h _ _)
theorem opw_mul : OpW X (binaryOp .Mult) opMul := by
 intro pins s σ H ι G st x y w1 w2 v u Q I sr rx ry r1 r2 q
 have rep : ∀ {a : Addr} {k : Int} {xs : List V} {ws : List W}, RelV (.ref a) v → RelV (.int k) u → SqL X.K H a xs → RelWs X.K ι st.nxt G xs ws → wpW X ι st.nxt G (repO (some ws) k st) Q → wpAny (model X.prog X.w) X.A (binaryOp .Mult v u) (EP X pins σ Q) X.xe s := by
  intro a k xs ws rx ry s1 t1 q
  have q' : wpW X ι st.nxt G (if (-(2 ^ 63) ≤ k ∧ k < 2 ^ 63) ∧ ws.length * k.toNat ≤ sizeLine then .ok (.lst (List.replicate k.toNat ws).flatten) st else .stuck) Q := q
  by_cases hl : (-(2 ^ 63) ≤ k ∧ k < 2 ^ 63) ∧ ws.length * k.toNat ≤ sizeLine
  ·rw [if_pos hl] at q'
   refine op_repL pins s σ H _ _ v u Q I rx ry ⟨_, _, _, rfl, rfl, s1, hl.1.1, hl.1.2, by rw [t1.length]; exact hl.2, fun p hp => ?_⟩
   obtain ⟨sr2, e2⟩ := sr.laid (o := .lst _) hp
   exact q' _ ι _ _ e2 sr2 (.lst (.inl (.inl upd_same)) ((t1.rep _).mono e2))
  ·rw [if_neg hl] at q'; exact q'.elim
 unfold opMul at q
 split at q
 ·cases r1 with
  | lst s1 t1 => cases r2; exact rep rx ry (sr.sub.seq s1) t1 q
 ·rename_i n k
  cases r1 with
  | ref hn =>
   cases r2
   cases hm : MO.items (st.mu n) with
   | none => rw [hm] at q; exact (show False from q).elim
   | some xs =>
    rw [hm] at q
    obtain ⟨vs, h1, h2⟩ := items_live sr hm
    exact rep rx ry h1 h2 q
 ·exact opw_mulI pins s σ H ι G st x y w1 w2 v u Q I sr rx ry r1 r2 q
theorem opw_div : OpW X (binaryOp .FloorDiv) opDiv := opw_I op_fdiv (fun _ _ _ => rfl) fun a b st h => by
 cases a <;> cases b <;> first | rfl | exact absurd ⟨rfl, rfl⟩ (h _ _)
theorem opw_mod : OpW X (binaryOp .Mod) opMod := opw_I op_mod (fun _ _ _ => rfl) fun a b st h => by
 cases a <;> cases b <;> first | rfl | exact absurd ⟨rfl, rfl⟩ (h _ _)
theorem opw_pow : OpW X (binaryOp .Pow) opPow := opw_I op_pow (fun _ _ _ => rfl) fun a b st h => by
 cases a <;> cases b <;> first | rfl | exact absurd ⟨rfl, rfl⟩ (h _ _)
def opNeg : W → S → R W := fun a st => match a with
 | .int i => .ok (.int (-i)) st
 | _ => .stuck
def run1 (ra : Run) (op : W → S → R W) : Run := fun Γ st => (ra Γ st).bind op
theorem pd_neg {a : Expr} {pos : Pos} {ra : Run} (ha : PD X a ra) : PD X (.UnaryOp .USub a pos) (run1 ra opNeg) := by
 refine PE.imp (pe_un un_neg ha) fun σ H Q h => ?_
 obtain ⟨ι, G, st, Γ, en, sr, q⟩ := h
 refine ⟨ι, G, st, Γ, en, sr, wpW.bind q fun w st1 v ι1 G1 H1 _ e1 sr1 r1 q1 => ?_⟩
 cases w with
 | int i => cases r1; exact ⟨i, rfl, q1 _ ι1 G1 H1 (Ext.refl _ _ _) sr1 (.int _)⟩
 | _ => exact (show False from q1).elim
def opLt : Op2 := fun a b st => match a, b with
 | .int i, .int j => .ok (.bl (decide (i < j))) st
 | .str x, .str y => .ok (.bl (decide (x.cps.toList < y.cps.toList))) st
 | _, _ => .stuck
def opLe : Op2 := fun a b st => match a, b with
 | .int i, .int j => .ok (.bl (decide (i ≤ j))) st
 | _, _ => .stuck
def opGt : Op2 := fun a b st => match a, b with
 | .int i, .int j => .ok (.bl (decide (j < i))) st
 | _, _ => .stuck
def opGe : Op2 := fun a b st => match a, b with
 | .int i, .int j => .ok (.bl (decide (j ≤ i))) st
 | _, _ => .stuck
theorem opw_B {f : Value → Value → Sem Value} {g : Int → Int → Bool} {op : Op2} (h : OpR X f (rI0 fun i j => .bl (g i j)))
  (hi : ∀ i j st, op (.int i) (.int j) st = .ok (.bl (g i j)) st) (ho : ∀ a b st, (∀ i j, ¬ (a = .int i ∧ b = .int j)) → op a b st = .stuck) : OpW X f op := by
 intro pins s σ H ι G st x y w1 w2 v u Q I sr rx ry r1 r2 q
 by_cases hw : ∃ i j, w1 = .int i ∧ w2 = .int j
 ·obtain ⟨i, j, rfl, rfl⟩ := hw
  cases r1; cases r2
  rw [hi] at q
  exact h pins s σ H _ _ v u Q I rx ry ⟨i, j, rfl, rfl, q _ ι G H (Ext.refl _ _ _) sr (.bl _)⟩
 ·rw [ho _ _ _ fun i j z => hw ⟨i, j, z.1, z.2⟩] at q
  exact (show False from q).elim
theorem opw_le : OpW X (compareOp .LtE) opLe := opw_B op_le (fun _ _ _ => rfl) fun a b st h => by
 cases a <;> cases b <;> first | rfl | exact absurd ⟨rfl, rfl⟩ (h _ _)
theorem opw_gt : OpW X (compareOp .Gt) opGt := opw_B op_gt (fun _ _ _ => rfl) fun a b st h => by
 cases a <;> cases b <;> first | rfl | exact absurd ⟨rfl, rfl⟩ (h _ _)
theorem opw_ge : OpW X (compareOp .GtE) opGe := opw_B op_ge (fun _ _ _ => rfl) fun a b st h => by
 cases a <;> cases b <;> first | rfl | exact absurd ⟨rfl, rfl⟩ (h _ _)
theorem opw_lt : OpW X (compareOp .Lt) opLt := by
 intro pins s σ H ι G st x y w1 w2 v u Q I sr rx ry r1 r2 q
 cases w1 with
 | int i =>
  cases w2 with
  | int j => cases r1; cases r2; exact op_lt pins s σ H _ _ v u Q I rx ry ⟨i, j, rfl, rfl, q _ ι G H (Ext.refl _ _ _) sr (.bl _)⟩
  | _ => exact (show False from q).elim
 | str i =>
  cases w2 with
  | str j => cases r1; cases r2; exact op_lt_str pins s σ H _ _ v u Q I rx ry ⟨i, j, rfl, rfl, q _ ι G H (Ext.refl _ _ _) sr (.bl _)⟩
  | _ => exact (show False from q).elim
 | _ => exact (show False from q).elim
def flatW : W → Option V
 | .non => some .non
 | .bl b => some (.bl b)
 | .int i => some (.int i)
 | .str x => some (.str x)
 | _ => none
def isSeq : W → Bool
 | .tup _ => true
 | .lst _ => true
 | _ => false
def eqItems (f : W → W → Option Bool) : List W → List W → Option Bool
 | x :: xs, y :: ys => match f x y, eqItems f xs ys with
  | some a, some b => some (a && b)
  | _, _ => none
 | _, _ => some true
def eqD : Nat → W → W → Option Bool
 | 0, _, _ => none
 | n + 1, a, b => match flatW a, flatW b with
  | some x, some y => some (eqV x y)
  | some _, none => if isSeq b then some false else none
  | none, some _ => if isSeq a then some false else none
  | none, none => match a, b with
   | .tup xs, .tup ys => (eqItems (eqD n) xs ys).map fun r => r && xs.length == ys.length
   | .lst xs, .lst ys => if xs.length = ys.length then eqItems (eqD n) xs ys else some false
   | .tup _, .lst _ => some false
   | .lst _, .tup _ => some false
   | _, _ => none
theorem eqItems_e {f : W → W → Option Bool} : ∀ {xs ys : List W} {r : Bool}, eqItems f xs ys = some r →
  ∃ e : Nat → Bool, (∀ (j : Nat) x y, xs[j]? = some x → ys[j]? = some y → f x y = some (e j)) ∧ (List.range (min xs.length ys.length)).all e = r
 | [], ys, r, h => by
  refine ⟨fun _ => true, fun j x y hx _ => by simp at hx, ?_⟩
  cases h
  simp
 | x :: xs, [], r, h => by
  refine ⟨fun _ => true, fun j x y _ hy => by simp at hy, ?_⟩
  cases h
  simp
 | x :: xs, y :: ys, r, h => by
  unfold eqItems at h
  cases e1 : f x y with
  | none => rw [e1] at h; cases h
  | some a =>
   cases e2 : eqItems f xs ys with
   | none => rw [e1, e2] at h; cases h
   | some b =>
    rw [e1, e2] at h
    obtain ⟨e, h1, h2⟩ := eqItems_e e2
    refine ⟨fun j => match j with | 0 => a | j + 1 => e j, fun j x' y' hx hy => ?_, ?_⟩
    ·cases j with
     | zero => simp at hx hy; subst hx hy; exact e1
     | succ j => exact h1 j x' y' (by simpa using hx) (by simpa using hy)
    ·have em : min (x :: xs).length (y :: ys).length = min xs.length ys.length + 1 := by simp only [List.length_cons]; omega
     rw [em, List.range_succ_eq_map, List.all_cons, List.all_map]
     cases h
     show (a && (List.range (min xs.length ys.length)).all e) = (a && b)
     rw [h2]
theorem flatW_rel {K : PySem.W.Frag} {ι : Nat → Addr} {N : Nat} {G : Hp} {v x : V} {w : W} (r : RelW K ι N G v w) (h : flatW w = some x) : v = x ∧ flatV x = true := by
 cases r <;> first | (cases h; exact ⟨rfl, rfl⟩) | cases h
theorem eqD_same {K : PySem.W.Frag} {ι : Nat → Addr} {N : Nat} {G : Hp} (inT : ∀ a xs ys, SqT K G a xs → SqT K G a ys → xs = ys) (inL : ∀ a xs ys, SqL K G a xs → SqL K G a ys → xs = ys) (ntl : ∀ a xs ys, SqT K G a xs → SqL K G a ys → False) :
  ∀ (n : Nat) {v : V} {w1 w2 : W} {b : Bool}, RelW K ι N G v w1 → RelW K ι N G v w2 → eqD n w1 w2 = some b → b = true
 | 0, _, _, _, _, _, _, h => by cases h
 | n + 1, v, w1, w2, b, r1, r2, h => by
  have items : ∀ {xs : List V} {ws1 ws2 : List W} {r : Bool}, RelWs K ι N G xs ws1 → RelWs K ι N G xs ws2 → eqItems (eqD n) ws1 ws2 = some r → r = true := by
   intro xs
   induction xs with
   | nil => intro ws1 ws2 r t1 t2 e; cases t1; cases t2; cases e; rfl
   | cons x xs ih =>
    intro ws1 ws2 r t1 t2 e
    cases t1 with
    | @cons _ w _ wt1 a1 t1 =>
     cases t2 with
     | @cons _ w' _ wt2 a2 t2 =>
      unfold eqItems at e
      cases e1 : eqD n w w' with
      | none => rw [e1] at e; cases e
      | some p =>
       cases e2 : eqItems (eqD n) wt1 wt2 with
       | none => rw [e1, e2] at e; cases e
       | some q =>
        rw [e1, e2] at e
        cases e
        rw [eqD_same inT inL ntl n a1 a2 e1, ih t1 t2 e2]; rfl
  unfold eqD at h
  cases f1 : flatW w1 with
  | some x =>
   obtain ⟨ex, fx⟩ := flatW_rel r1 f1
   cases f2 : flatW w2 with
   | some y =>
    obtain ⟨ey, fy⟩ := flatW_rel r2 f2
    rw [f1, f2] at h
    have h' : some (eqV x y) = some b := h
    cases h'
    rw [← ex, ← ey]
    exact eqV_refl (by rw [ex]; exact fx)
   | none =>
    rw [f1, f2] at h
    cases r2 <;> first | (cases f2; done) | (subst ex; cases fx; done)
  | none =>
   cases f2 : flatW w2 with
   | some y =>
    obtain ⟨ey, fy⟩ := flatW_rel r2 f2
    cases r1 <;> first | (cases f1; done) | (subst ey; cases fy; done)
   | none =>
    rw [f1, f2] at h
    cases r1 with
    | tup s1 t1 =>
     rename_i a xs ws1
     cases w2 with
     | tup ws2 =>
      cases r2 with
      | tup s2 t2 =>
       cases inT _ _ _ s1 s2
       have h' : (eqItems (eqD n) ws1 ws2).map (fun r => r && ws1.length == ws2.length) = some b := h
       cases e : eqItems (eqD n) ws1 ws2 with
       | none => rw [e] at h'; cases h'
       | some r =>
        rw [e] at h'
        cases h'
        rw [items t1 t2 e, ← t1.length, ← t2.length]
        simp
     | lst ws2 =>
      cases r2 with
      | lst s2 t2 => exact (ntl _ _ _ s1 s2).elim
     | _ => cases h
    | lst s1 t1 =>
     rename_i a xs ws1
     cases w2 with
     | lst ws2 =>
      cases r2 with
      | lst s2 t2 =>
       cases inL _ _ _ s1 s2
       have h' : (if ws1.length = ws2.length then eqItems (eqD n) ws1 ws2 else some false) = some b := h
       rw [if_pos (by rw [← t1.length, ← t2.length])] at h'
       exact items t1 t2 h'
     | tup ws2 =>
      cases r2 with
      | tup s2 t2 => exact (ntl _ _ _ s2 s1).elim
     | _ => cases h
    | _ => first | (cases f1; done) | (cases w2 <;> cases h)
end
end DL
namespace DL
open PySem PySem.Spec PyProof.Rows L2
section
variable {X : Cx}
def EqB (A : Around) (s : Shared) (u v : Value) (b : Bool) : Prop := SeqAt.EqAt A s u v b ∧ SeqAt.RcAt A s u v b ∧ SeqAt.RcNeAt A s u v (!b)
theorem eqB_V {A : Around} {s : Shared} {y x : V} {u v : Value} (ry : RelV y u) (rx : RelV x v) (fy : flatV y = true) (fx : flatV x = true) : EqB A s u v (eqV y x) := by
 refine ⟨eqAt_V ry rx fy fx, ?_⟩
 cases y with
 | non =>
  cases ry
  cases x with
  | non => cases rx; exact ⟨SeqAt.RcAt.none_none, SeqAt.RcNeAt.none_none⟩
  | bl b => cases rx; exact ⟨SeqAt.RcAt.none_bool b, SeqAt.RcNeAt.none_bool b⟩
  | int b => obtain ⟨t, rfl⟩ := rx; exact ⟨SeqAt.RcAt.none_int b t, SeqAt.RcNeAt.none_int b t⟩
  | str b => obtain ⟨t, rfl⟩ := rx; exact ⟨SeqAt.RcAt.none_str b t, SeqAt.RcNeAt.none_str b t⟩
  | _ => exact absurd (show false = true from fx) Bool.false_ne_true
 | bl a =>
  cases ry
  cases x with
  | non => cases rx; exact ⟨SeqAt.RcAt.bool_none a, SeqAt.RcNeAt.bool_none a⟩
  | bl b => cases rx; exact ⟨SeqAt.RcAt.bool_bool a b, SeqAt.RcNeAt.bool_bool a b⟩
  | int b => obtain ⟨t, rfl⟩ := rx; exact ⟨SeqAt.RcAt.bool_int a b t, SeqAt.RcNeAt.bool_int a b t⟩
  | str b => obtain ⟨t, rfl⟩ := rx; exact ⟨SeqAt.RcAt.bool_str a b t, SeqAt.RcNeAt.bool_str a b t⟩
  | _ => exact absurd (show false = true from fx) Bool.false_ne_true
 | int a =>
  obtain ⟨t', rfl⟩ := ry
  cases x with
  | non => cases rx; exact ⟨SeqAt.RcAt.int_none a t', SeqAt.RcNeAt.int_none a t'⟩
  | bl b => cases rx; exact ⟨SeqAt.RcAt.int_bool a t' b, SeqAt.RcNeAt.int_bool a t' b⟩
  | int b => obtain ⟨t, rfl⟩ := rx; exact ⟨SeqAt.RcAt.int_int a t' b t, SeqAt.RcNeAt.int_int a t' b t⟩
  | str b => obtain ⟨t, rfl⟩ := rx; exact ⟨SeqAt.RcAt.int_str a t' b t, SeqAt.RcNeAt.int_str a t' b t⟩
  | _ => exact absurd (show false = true from fx) Bool.false_ne_true
 | str a =>
  obtain ⟨t', rfl⟩ := ry
  cases x with
  | non => cases rx; exact ⟨SeqAt.RcAt.str_none a t', SeqAt.RcNeAt.str_none a t'⟩
  | bl b => cases rx; exact ⟨SeqAt.RcAt.str_bool a t' b, SeqAt.RcNeAt.str_bool a t' b⟩
  | int b => obtain ⟨t, rfl⟩ := rx; exact ⟨SeqAt.RcAt.str_int a t' b t, SeqAt.RcNeAt.str_int a t' b t⟩
  | str b => obtain ⟨t, rfl⟩ := rx; exact ⟨SeqAt.RcAt.str_str a t' b t, SeqAt.RcNeAt.str_str a t' b t⟩
  | _ => exact absurd (show false = true from fx) Bool.false_ne_true
 | _ => exact absurd (show false = true from fy) Bool.false_ne_true
section
variable {A : Around} {s : Shared} {y : V} {u : Value} {l : Addr} {items : Array Value}
theorem eqB_flat_list (ry : RelV y u) (fy : flatV y = true) (hl : s.heap.IsList l items) (hu : A.units < cLine) : EqB A s u (.ref l) false := by
 cases y with
 | non => cases ry; exact ⟨SeqAt.EqAt.none_list hl hu, SeqAt.RcAt.none_list hl hu, SeqAt.RcNeAt.none_list hl hu⟩
 | bl b => cases ry; exact ⟨SeqAt.EqAt.bool_list b hl hu, SeqAt.RcAt.bool_list b hl hu, SeqAt.RcNeAt.bool_list b hl hu⟩
 | int b => obtain ⟨t, rfl⟩ := ry; exact ⟨SeqAt.EqAt.int_list b t hl hu, SeqAt.RcAt.int_list b t hl hu, SeqAt.RcNeAt.int_list b t hl hu⟩
 | str b => obtain ⟨t, rfl⟩ := ry; exact ⟨SeqAt.EqAt.str_list b t hl hu, SeqAt.RcAt.str_list b t hl hu, SeqAt.RcNeAt.str_list b t hl hu⟩
 | _ => exact absurd (show false = true from fy) Bool.false_ne_true
theorem eqB_list_flat (ry : RelV y u) (fy : flatV y = true) (hl : s.heap.IsList l items) (hu : A.units < cLine) : EqB A s (.ref l) u false := by
 cases y with
 | non => cases ry; exact ⟨SeqAt.EqAt.list_none hl hu, SeqAt.RcAt.list_none hl hu, SeqAt.RcNeAt.list_none hl hu⟩
 | bl b => cases ry; exact ⟨SeqAt.EqAt.list_bool b hl hu, SeqAt.RcAt.list_bool b hl hu, SeqAt.RcNeAt.list_bool b hl hu⟩
 | int b => obtain ⟨t, rfl⟩ := ry; exact ⟨SeqAt.EqAt.list_int b t hl hu, SeqAt.RcAt.list_int b t hl hu, SeqAt.RcNeAt.list_int b t hl hu⟩
 | str b => obtain ⟨t, rfl⟩ := ry; exact ⟨SeqAt.EqAt.list_str b t hl hu, SeqAt.RcAt.list_str b t hl hu, SeqAt.RcNeAt.list_str b t hl hu⟩
 | _ => exact absurd (show false = true from fy) Bool.false_ne_true
theorem eqB_flat_tuple (ry : RelV y u) (fy : flatV y = true) (hl : s.heap.IsTuple l items) (hu : A.units < cLine) : EqB A s u (.ref l) false := by
 cases y with
 | non => cases ry; exact ⟨SeqAt.EqAt.none_tuple hl hu, SeqAt.RcAt.none_tuple hl hu, SeqAt.RcNeAt.none_tuple hl hu⟩
 | bl b => cases ry; exact ⟨SeqAt.EqAt.bool_tuple b hl hu, SeqAt.RcAt.bool_tuple b hl hu, SeqAt.RcNeAt.bool_tuple b hl hu⟩
 | int b => obtain ⟨t, rfl⟩ := ry; exact ⟨SeqAt.EqAt.int_tuple b t hl hu, SeqAt.RcAt.int_tuple b t hl hu, SeqAt.RcNeAt.int_tuple b t hl hu⟩
 | str b => obtain ⟨t, rfl⟩ := ry; exact ⟨SeqAt.EqAt.str_tuple b t hl hu, SeqAt.RcAt.str_tuple b t hl hu, SeqAt.RcNeAt.str_tuple b t hl hu⟩
 | _ => exact absurd (show false = true from fy) Bool.false_ne_true
theorem eqB_tuple_flat (ry : RelV y u) (fy : flatV y = true) (hl : s.heap.IsTuple l items) (hu : A.units < cLine) : EqB A s (.ref l) u false := by
 cases y with
 | non => cases ry; exact ⟨SeqAt.EqAt.tuple_none hl hu, SeqAt.RcAt.tuple_none hl hu, SeqAt.RcNeAt.tuple_none hl hu⟩
 | bl b => cases ry; exact ⟨SeqAt.EqAt.tuple_bool b hl hu, SeqAt.RcAt.tuple_bool b hl hu, SeqAt.RcNeAt.tuple_bool b hl hu⟩
 | int b => obtain ⟨t, rfl⟩ := ry; exact ⟨SeqAt.EqAt.tuple_int b t hl hu, SeqAt.RcAt.tuple_int b t hl hu, SeqAt.RcNeAt.tuple_int b t hl hu⟩
 | str b => obtain ⟨t, rfl⟩ := ry; exact ⟨SeqAt.EqAt.tuple_str b t hl hu, SeqAt.RcAt.tuple_str b t hl hu, SeqAt.RcNeAt.tuple_str b t hl hu⟩
 | _ => exact absurd (show false = true from fy) Bool.false_ne_true
end
section
variable {pins : List (Addr × Obj)} {σ : St} {H : Hp} {s : Shared} {ι : Nat → Addr} {N : Nat}
theorem list_inj (I : Inv X pins σ H s) {a : Addr} {xs ys : List V} (h1 : SqL X.K H a xs) (h2 : SqL X.K H a ys) : xs = ys := by
 obtain ⟨its, r, pl, _⟩ := I.list h1
 obtain ⟨its2, r2, pl2, _⟩ := I.list h2
 obtain ⟨o, n, e, _, _, d⟩ := pl
 obtain ⟨o2, n2, e2, _, _, d2⟩ := pl2
 rw [e] at e2; cases e2
 rw [d] at d2; cases d2
 exact r.inj r2
theorem not_both (I : Inv X pins σ H s) {a : Addr} {xs ys : List V} (h1 : SqT X.K H a xs) (h2 : SqL X.K H a ys) : False := by
 obtain ⟨its, r, pl, _⟩ := I.tuple h1
 obtain ⟨its2, r2, pl2, _⟩ := I.list h2
 obtain ⟨o, e, c, _⟩ := pl
 obtain ⟨o2, n2, e2, c2, _, _⟩ := pl2
 rw [e] at e2; cases e2
 rw [c] at c2
 injection c2 with h
 exact absurd h (by decide)
theorem eqD_at (I : Inv X pins σ H s) : ∀ (n : Nat) {w1 w2 : W} {b : Bool} {v1 v2 : V} {u1 u2 : Value} {A : Around}, eqD n w1 w2 = some b → RelW X.K ι N H v1 w1 → RelW X.K ι N H v2 w2 → RelV v1 u1 → RelV v2 u2 → A.units + n < cLine → EqB A s u1 u2 b
 | 0, _, _, _, _, _, _, _, _, h, _, _, _, _, _ => by cases h
 | n + 1, w1, w2, b, v1, v2, u1, u2, A, h, r1, r2, q1, q2, hA => by
  have hA1 : A.units < cLine := by omega
  have its_at : ∀ {xs ys : List V} {ws1 ws2 : List W} {its its2 : List Value} {e : Nat → Bool}, RelWs X.K ι N H xs ws1 → RelWs X.K ι N H ys ws2 → Vals xs its → Vals ys its2 → (∀ (j : Nat) x y, ws1[j]? = some x → ws2[j]? = some y → eqD n x y = some (e j)) →
    ∀ j (h1 : j < its.toArray.size) (h2 : j < its2.toArray.size), SeqAt.EqAt A.in1 s its.toArray[j] its2.toArray[j] (e j) := by
   intro xs ys ws1 ws2 its its2 e t1 t2 p1 p2 he j h1 h2
   have h1' : j < its.length := by simpa using h1
   have h2' : j < its2.length := by simpa using h2
   obtain ⟨x', ex, rx⟩ := p1.at h1'
   obtain ⟨y', ey, ry⟩ := p2.at h2'
   obtain ⟨w, ew, rw1⟩ := t1.get' ex
   obtain ⟨w', ew', rw2⟩ := t2.get' ey
   have z1 : its.toArray[j] = its[j] := by simp
   have z2 : its2.toArray[j] = its2[j] := by simp
   rw [z1, z2]
   exact (eqD_at I n (A := A.in1) (he j w w' ew ew') rw1 rw2 rx ry (by show A.units + 1 + n < cLine; omega)).1
  have keep := h
  unfold eqD at h
  cases f1 : flatW w1 with
  | some x =>
   obtain ⟨ex, fx⟩ := flatW_rel r1 f1
   subst ex
   cases f2 : flatW w2 with
   | some y =>
    obtain ⟨ey, fy⟩ := flatW_rel r2 f2
    subst ey
    rw [f1, f2] at h
    have h' : some (eqV v1 v2) = some b := h
    cases h'
    exact eqB_V q1 q2 fx fy
   | none =>
    rw [f1, f2] at h
    have h' : (if isSeq w2 then some false else none) = some b := h
    cases r2 with
    | tup s2 t2 =>
     cases h'
     cases q2
     obtain ⟨its, _, pl, _⟩ := I.tuple s2
     exact eqB_flat_tuple q1 fx pl hA1
    | lst s2 t2 =>
     cases h'
     cases q2
     obtain ⟨its, _, pl, _⟩ := I.list s2
     exact eqB_flat_list q1 fx pl.isList hA1
    | _ => first | (cases f2; done) | (cases h'; done)
  | none =>
   cases f2 : flatW w2 with
   | some y =>
    obtain ⟨ey, fy⟩ := flatW_rel r2 f2
    subst ey
    rw [f1, f2] at h
    have h' : (if isSeq w1 then some false else none) = some b := h
    cases r1 with
    | tup s1 t1 =>
     cases h'
     cases q1
     obtain ⟨its, _, pl, _⟩ := I.tuple s1
     exact eqB_tuple_flat q2 fy pl hA1
    | lst s1 t1 =>
     cases h'
     cases q1
     obtain ⟨its, _, pl, _⟩ := I.list s1
     exact eqB_list_flat q2 fy pl.isList hA1
    | _ => first | (cases f1; done) | (cases h'; done)
   | none =>
    rw [f1, f2] at h
    cases r1 with
    | tup s1 t1 =>
     rename_i a xs ws1
     cases q1
     obtain ⟨its, p1, pl1, _⟩ := I.tuple s1
     cases w2 with
     | tup ws2 =>
      cases r2 with
      | tup s2 t2 =>
       rename_i a2 ys
       cases q2
       obtain ⟨its2, p2, pl2, _⟩ := I.tuple s2
       have h' : (eqItems (eqD n) ws1 ws2).map (fun r => r && ws1.length == ws2.length) = some b := h
       cases e : eqItems (eqD n) ws1 ws2 with
       | none => rw [e] at h'; cases h'
       | some r =>
        rw [e] at h'
        obtain ⟨ef, he1, he2⟩ := eqItems_e e
        have l1 : ws1.length = its.toArray.size := by rw [List.size_toArray, ← p1.length, t1.length]
        have l2 : ws2.length = its2.toArray.size := by rw [List.size_toArray, ← p2.length, t2.length]
        have eb : b = ((List.range (min its.toArray.size its2.toArray.size)).all ef && its.toArray.size == its2.toArray.size) := by
         cases h'
         rw [← l1, ← l2, he2]
        have at1 := its_at t1 t2 p1 p2 he1
        have rc : SeqAt.RcAt A s (.ref a) (.ref a2) b := by
         rw [eb]
         exact SeqAt.RcAt.tuples (e := ef) pl1 pl2 hA1 at1
        refine ⟨?_, rc, ?_⟩
        ·by_cases ha : a = a2
         ·subst ha
          have ht : b = true := eqD_same (fun a xs ys h1 h2 => I.tuple_inj h1 h2) (fun a xs ys h1 h2 => list_inj I h1 h2) (fun a xs ys h1 h2 => not_both I h1 h2) (n + 1) (.tup s1 t1) (.tup s2 t2) keep
          rw [ht]; exact SeqAt.EqAt.same _
         ·exact SeqAt.EqAt.of_refs ha rc
        ·rw [eb]
         exact SeqAt.RcNeAt.tuples (e := ef) pl1 pl2 hA1 at1
     | lst ws2 =>
      cases r2 with
      | lst s2 t2 =>
       cases q2
       cases h
       obtain ⟨its2, p2, pl2, _⟩ := I.list s2
       exact ⟨SeqAt.EqAt.tuple_list pl1 pl2.isList hA1, SeqAt.RcAt.tuple_list pl1 pl2.isList hA1, SeqAt.RcNeAt.tuple_list pl1 pl2.isList hA1⟩
     | _ => cases h
    | lst s1 t1 =>
     rename_i a xs ws1
     cases q1
     obtain ⟨its, p1, pl1, _⟩ := I.list s1
     cases w2 with
     | lst ws2 =>
      cases r2 with
      | lst s2 t2 =>
       rename_i a2 ys
       cases q2
       obtain ⟨its2, p2, pl2, _⟩ := I.list s2
       have l1 : ws1.length = its.toArray.size := by rw [List.size_toArray, ← p1.length, t1.length]
       have l2 : ws2.length = its2.toArray.size := by rw [List.size_toArray, ← p2.length, t2.length]
       have h' : (if ws1.length = ws2.length then eqItems (eqD n) ws1 ws2 else some false) = some b := h
       by_cases hl : ws1.length = ws2.length
       ·rw [if_pos hl] at h'
        obtain ⟨ef, he1, he2⟩ := eqItems_e h'
        have hsz : its.toArray.size = its2.toArray.size := by rw [← l1, ← l2, hl]
        have eb : b = (List.range its.toArray.size).all ef := by
         rw [← he2, ← l1, ← hl, Nat.min_self]
        have at1 := its_at t1 t2 p1 p2 he1
        have rc : SeqAt.RcAt A s (.ref a) (.ref a2) b := by
         rw [eb]
         exact SeqAt.RcAt.lists (e := ef) pl1.isList pl2.isList hsz hA1 at1
        refine ⟨?_, rc, ?_⟩
        ·by_cases ha : a = a2
         ·subst ha
          have ht : b = true := eqD_same (fun a xs ys h1 h2 => I.tuple_inj h1 h2) (fun a xs ys h1 h2 => list_inj I h1 h2) (fun a xs ys h1 h2 => not_both I h1 h2) (n + 1) (.lst s1 t1) (.lst s2 t2) keep
          rw [ht]; exact SeqAt.EqAt.same _
         ·exact SeqAt.EqAt.of_refs ha rc
        ·rw [eb]
         exact SeqAt.RcNeAt.lists (e := ef) pl1.isList pl2.isList hsz hA1 at1
       ·rw [if_neg hl] at h'
        cases h'
        have hsz : (its.toArray.size != its2.toArray.size) = true := by
         rw [← l1, ← l2]; simpa using hl
        have rc : SeqAt.RcAt A s (.ref a) (.ref a2) false := SeqAt.RcAt.lists_lengths pl1.isList pl2.isList hsz hA1
        refine ⟨SeqAt.EqAt.of_refs (fun ha => ?_) rc, rc, SeqAt.RcNeAt.lists_lengths pl1.isList pl2.isList hsz hA1⟩
        subst ha
        have := list_inj I s1 s2
        subst this
        exact hl (by rw [← t1.length, ← t2.length])
     | tup ws2 =>
      cases r2 with
      | tup s2 t2 =>
       cases q2
       cases h
       obtain ⟨its2, p2, pl2, _⟩ := I.tuple s2
       exact ⟨SeqAt.EqAt.list_tuple pl1.isList pl2 hA1, SeqAt.RcAt.list_tuple pl1.isList pl2 hA1, SeqAt.RcNeAt.list_tuple pl1.isList pl2 hA1⟩
     | _ => cases h
    | _ => first | (cases f1; done) | (cases w2 <;> cases h)
end
theorem SR.look {K : PySem.W.Frag} {ι : Nat → Addr} {st : S} {G H : Hp} (h : SR K ι st G H) : Ext ι st.nxt G ι st.nxt H := ⟨Nat.le_refl _, fun _ _ => rfl, h.sub⟩
def opEq : Op2 := fun a b st => match eqD 12 a b with
 | some r => .ok (.bl r) st
 | none => .stuck
def opNe : Op2 := fun a b st => match eqD 12 a b with
 | some r => .ok (.bl (!r)) st
 | none => .stuck
theorem opw_eq (hu : X.A.units + 64 < cLine) : OpW X (compareOp .Eq) opEq := by
 intro pins s σ H ι G st x y w1 w2 v u Q I sr rx ry r1 r2 q
 unfold opEq at q
 cases e : eqD 12 w1 w2 with
 | none => rw [e] at q; exact (show False from q).elim
 | some b =>
  rw [e] at q
  exact (eqD_at I 12 (A := X.A) e (r1.mono sr.look) (r2.mono sr.look) rx ry (by omega)).2.1 _ _ _ _ ⟨.bl b, H, I, rfl, q _ ι G H (Ext.refl _ _ _) sr (.bl _)⟩
theorem opw_ne (hu : X.A.units + 64 < cLine) : OpW X (compareOp .NotEq) opNe := by
 intro pins s σ H ι G st x y w1 w2 v u Q I sr rx ry r1 r2 q
 unfold opNe at q
 cases e : eqD 12 w1 w2 with
 | none => rw [e] at q; exact (show False from q).elim
 | some b =>
  rw [e] at q
  exact (eqD_at I 12 (A := X.A) e (r1.mono sr.look) (r2.mono sr.look) rx ry (by omega)).2.2 _ _ _ _ ⟨.bl (!b), H, I, rfl, q _ ι G H (Ext.refl _ _ _) sr (.bl _)⟩
def inStr (i j : Str) : Bool := !(Builtin.Str.occurrences j i 0 j.length 1).isEmpty
def inD (x : W) : List W → Option Bool
 | [] => some false
 | y :: ys => match eqD 12 y x, inD x ys with
  | some a, some b => some (a || b)
  | _, _ => none
def itemsOf (st : S) : W → Option (List W)
 | .lst xs => some xs
 | .tup xs => some xs
 | .ref n => MO.items (st.mu n)
 | _ => none
def inW (st : S) (a b : W) : Option Bool := match a, b with
 | .str i, .str j => some (inStr i j)
 | x, y => match itemsOf st y with
  | some ys => inD x ys
  | none => none
def opIn0 : Op2 := fun a b st => match inW st a b with
 | some r => .ok (.bl r) st
 | none => .stuck
def opNotIn0 : Op2 := fun a b st => match inW st a b with
 | some r => .ok (.bl (!r)) st
 | none => .stuck
theorem items_rel {K : PySem.W.Frag} {ι : Nat → Addr} {st : S} {G H : Hp} {v : V} {w : W} {ws : List W} (sr : SR K ι st G H) (r : RelW K ι st.nxt G v w) (h : itemsOf st w = some ws) : ∃ a xs, v = .ref a ∧ (SqL K H a xs ∨ SqT K H a xs) ∧ RelWs K ι st.nxt G xs ws := by
 cases r with
 | tup s1 t1 => cases h; exact ⟨_, _, rfl, .inr (sqT_same sr.sub s1), t1⟩
 | lst s1 t1 => cases h; exact ⟨_, _, rfl, .inl (sr.sub.seq s1), t1⟩
 | ref hn =>
  rename_i n
  have h : MO.items (st.mu n) = some ws := h
  cases e : st.mu n with
  | none => rw [e] at h; cases h
  | some o =>
   obtain ⟨_, _, h3⟩ := sr.live n o e
   cases o with
   | lst xs =>
    rw [e] at h
    cases h
    obtain ⟨vs, q, r⟩ := h3
    exact ⟨_, vs, rfl, .inl (SqL.of q), r⟩
   | dct ks vs => rw [e] at h; cases h
 | _ => cases h
theorem eqD_det {K : PySem.W.Frag} {ι : Nat → Addr} {N : Nat} {G : Hp} (inT : ∀ a xs ys, SqT K G a xs → SqT K G a ys → xs = ys) (inL : ∀ a xs ys, SqL K G a xs → SqL K G a ys → xs = ys) (ntl : ∀ a xs ys, SqT K G a xs → SqL K G a ys → False) :
  ∀ (n : Nat) {v : V} {w w' x : W} {c c' : Bool}, RelW K ι N G v w → RelW K ι N G v w' → eqD n w x = some c → eqD n w' x = some c' → c = c'
 | 0, _, _, _, _, _, _, _, _, h, _ => by cases h
 | n + 1, v, w, w', x, c, c', r1, r2, h1, h2 => by
  have items : ∀ {vs : List V} {ws1 ws2 ys : List W} {r r' : Bool}, RelWs K ι N G vs ws1 → RelWs K ι N G vs ws2 → eqItems (eqD n) ws1 ys = some r → eqItems (eqD n) ws2 ys = some r' → r = r' := by
   intro vs
   induction vs with
   | nil => intro ws1 ws2 ys r r' t1 t2 e e'; cases t1; cases t2; rw [e] at e'; exact Option.some.inj e'
   | cons x xs ih =>
    intro ws1 ws2 ys r r' t1 t2 e e'
    cases t1 with
    | @cons _ w1 _ wt1 a1 t1 =>
     cases t2 with
     | @cons _ w2 _ wt2 a2 t2 =>
      cases ys with
      | nil => cases e; cases e'; rfl
      | cons y ys =>
       unfold eqItems at e e'
       cases e1 : eqD n w1 y with
       | none => rw [e1] at e; cases e
       | some p =>
        cases e2 : eqItems (eqD n) wt1 ys with
        | none => rw [e1, e2] at e; cases e
        | some q =>
         cases e3 : eqD n w2 y with
         | none => rw [e3] at e'; cases e'
         | some p' =>
          cases e4 : eqItems (eqD n) wt2 ys with
          | none => rw [e3, e4] at e'; cases e'
          | some q' =>
           rw [e1, e2] at e
           rw [e3, e4] at e'
           cases e; cases e'
           rw [eqD_det inT inL ntl n a1 a2 e1 e3, ih t1 t2 e2 e4]
  unfold eqD at h1 h2
  cases f1 : flatW w with
  | some y =>
   obtain ⟨ey, fy⟩ := flatW_rel r1 f1
   cases f2 : flatW w' with
   | some z =>
    obtain ⟨ez, fz⟩ := flatW_rel r2 f2
    have : y = z := by rw [← ey, ← ez]
    subst this
    cases f3 : flatW x with
    | some z =>
     rw [f1, f3] at h1; rw [f2, f3] at h2
     have g1 : some (eqV y z) = some c := h1
     have g2 : some (eqV y z) = some c' := h2
     rw [g1] at g2; exact Option.some.inj g2
    | none =>
     rw [f1, f3] at h1; rw [f2, f3] at h2
     have g1 : (if isSeq x then some false else none) = some c := h1
     have g2 : (if isSeq x then some false else none) = some c' := h2
     rw [g1] at g2; exact Option.some.inj g2
   | none => cases r2 <;> first | (cases f2; done) | (subst ey; cases fy; done)
  | none =>
   cases f2 : flatW w' with
   | some z =>
    obtain ⟨ez, fz⟩ := flatW_rel r2 f2
    cases r1 <;> first | (cases f1; done) | (subst ez; cases fz; done)
   | none =>
    rw [f1] at h1; rw [f2] at h2
    cases r1 with
    | tup s1 t1 =>
     rename_i a xs ws1
     cases w' with
     | tup ws2 =>
      cases r2 with
      | tup s2 t2 =>
       cases inT _ _ _ s1 s2
       cases f3 : flatW x with
       | some z => rw [f3] at h1 h2; cases h1; cases h2; rfl
       | none =>
        rw [f3] at h1 h2
        cases x with
        | tup ys =>
         have g1 : (eqItems (eqD n) ws1 ys).map (fun r => r && ws1.length == ys.length) = some c := h1
         have g2 : (eqItems (eqD n) ws2 ys).map (fun r => r && ws2.length == ys.length) = some c' := h2
         cases e1 : eqItems (eqD n) ws1 ys with
         | none => rw [e1] at g1; cases g1
         | some p =>
          cases e2 : eqItems (eqD n) ws2 ys with
          | none => rw [e2] at g2; cases g2
          | some q =>
           rw [e1] at g1; rw [e2] at g2
           cases g1; cases g2
           rw [items t1 t2 e1 e2, ← t1.length, ← t2.length]
        | lst ys => cases h1; cases h2; rfl
        | _ => cases h1
     | lst ws2 => cases r2 with | lst s2 t2 => exact (ntl _ _ _ s1 s2).elim
     | _ => first | (cases f2; done) | (cases f3 : flatW x <;> rw [f3] at h2 <;> first | (cases h2; done) | (cases x <;> cases h2))
    | lst s1 t1 =>
     rename_i a xs ws1
     cases w' with
     | lst ws2 =>
      cases r2 with
      | lst s2 t2 =>
       cases inL _ _ _ s1 s2
       cases f3 : flatW x with
       | some z => rw [f3] at h1 h2; cases h1; cases h2; rfl
       | none =>
        rw [f3] at h1 h2
        cases x with
        | lst ys =>
         have g1 : (if ws1.length = ys.length then eqItems (eqD n) ws1 ys else some false) = some c := h1
         have g2 : (if ws2.length = ys.length then eqItems (eqD n) ws2 ys else some false) = some c' := h2
         have hl : ws1.length = ws2.length := by rw [← t1.length, ← t2.length]
         rw [← hl] at g2
         by_cases hy : ws1.length = ys.length
         ·rw [if_pos hy] at g1 g2
          exact items t1 t2 g1 g2
         ·rw [if_neg hy] at g1 g2
          cases g1; cases g2; rfl
        | tup ys => cases h1; cases h2; rfl
        | _ => cases h1
     | tup ws2 => cases r2 with | tup s2 t2 => exact (ntl _ _ _ s2 s1).elim
     | _ => first | (cases f2; done) | (cases f3 : flatW x <;> rw [f3] at h2 <;> first | (cases h2; done) | (cases x <;> cases h2))
    | _ => first | (cases f1; done) | (cases f3 : flatW x <;> rw [f3] at h1 <;> first | (cases h1; done) | (cases x <;> cases h1))
theorem mem_fun {pins : List (Addr × Obj)} {σ : St} {H : Hp} {s : Shared} {ι : Nat → Addr} {N : Nat} {A : Around} {x : W} {vx : V} {ux : Value} (I : Inv X pins σ H s) (rx : RelW X.K ι N H vx x) (qx : RelV vx ux) (hA : A.units + 12 < cLine) :
  ∀ {ws : List W} {vs : List V} {us : List Value} {b : Bool}, inD x ws = some b → RelWs X.K ι N H vs ws → Vals vs us →
   ∃ e : Value → Bool, (∀ u ∈ us, SeqAt.EqAt A s u ux (e u)) ∧ us.any e = b ∧ ∀ (j : Nat) v u w, vs[j]? = some v → us[j]? = some u → ws[j]? = some w → eqD 12 w x = some (e u) := by
 intro ws
 induction ws with
 | nil => intro vs us b h t q; cases t; cases q; cases h; exact ⟨fun _ => false, fun u hu => (by cases hu), rfl, fun j v u w hv => (by simp at hv)⟩
 | cons w ws ih =>
  intro vs us b h t q
  cases t with
  | cons r t =>
   cases q with
   | cons qv q =>
    rename_i v vs u us
    unfold inD at h
    cases e1 : eqD 12 w x with
    | none => rw [e1] at h; cases h
    | some a =>
     cases e2 : inD x ws with
     | none => rw [e1, e2] at h; cases h
     | some c =>
      rw [e1, e2] at h
      obtain ⟨e, h1, h2, h3⟩ := ih e2 t q
      have at1 := (eqD_at I 12 (A := A) e1 r rx qv qx hA).1
      have keep : ∀ u' ∈ us, u' = u → e u' = a := fun u' hu hue => by
       obtain ⟨j, hj, ej⟩ := List.mem_iff_getElem.mp hu
       have g1 : us[j]? = some u' := by rw [List.getElem?_eq_getElem hj, ej]
       obtain ⟨v', gv, rv'⟩ := Vals.at q hj
       obtain ⟨w', gw, rw'⟩ := t.get' gv
       have d := h3 j v' u' w' gv g1 gw
       rw [ej, hue] at rv'
       have ev : v' = v := rv'.inj qv
       subst ev
       exact eqD_det (fun a xs ys h1 h2 => I.tuple_inj h1 h2) (fun a xs ys h1 h2 => list_inj I h1 h2) (fun a xs ys h1 h2 => not_both I h1 h2) 12 rw' r d e1
      refine ⟨fun z => if z = u then a else e z, fun z hz => ?_, ?_, fun j v' u' w' hv hu hw => ?_⟩
      ·by_cases hzu : z = u
       ·(try dsimp only); rw [if_pos hzu, hzu]; exact at1
       ·(try dsimp only); rw [if_neg hzu]
        rcases List.mem_cons.mp hz with hz | hz
        ·exact absurd hz hzu
        ·exact h1 z hz
      ·rw [List.any_cons, if_pos rfl]
       have e3 : us.any (fun z => if z = u then a else e z) = us.any e := by
        rw [Bool.eq_iff_iff, List.any_eq_true, List.any_eq_true]
        constructor
        ·rintro ⟨z, hz, hq⟩
         refine ⟨z, hz, ?_⟩
         by_cases hzu : z = u
         ·rw [if_pos hzu] at hq; rw [keep z hz hzu]; exact hq
         ·rw [if_neg hzu] at hq; exact hq
        ·rintro ⟨z, hz, hq⟩
         refine ⟨z, hz, ?_⟩
         by_cases hzu : z = u
         ·rw [if_pos hzu, ← keep z hz hzu]; exact hq
         ·rw [if_neg hzu]; exact hq
       rw [e3, h2]
       cases h; rfl
      ·cases j with
       | zero =>
        simp at hv hu hw
        subst hv hu hw
        (try dsimp only); rw [if_pos rfl]; exact e1
       | succ j =>
        have hv' : vs[j]? = some v' := by simpa using hv
        have hu' : us[j]? = some u' := by simpa using hu
        have hw' : ws[j]? = some w' := by simpa using hw
        have d := h3 j v' u' w' hv' hu' hw'
        dsimp only
        by_cases hzu : u' = u
        ·rw [if_pos hzu, ← keep u' (List.mem_of_getElem? hu') hzu]; exact d
        ·rw [if_neg hzu]; exact d
theorem opw_inG {neg : Bool} {op : CmpOp} {o : Op2} (ho : o = fun a b st => match inW st a b with | some r => .ok (.bl (if neg then !r else r)) st | none => .stuck)
  (hs : OpR X (compareOp op) (fun x y H Q => ∃ i j, x = .str i ∧ y = .str j ∧ Q (.bl (if neg then !(!(Builtin.Str.occurrences j i 0 j.length 1).isEmpty) else (!(Builtin.Str.occurrences j i 0 j.length 1).isEmpty))) H))
  (hl : ∀ {s : Shared} {l : Addr} {items : Array Value} {x : Value} {Q : Value → Shared → Prop} (e : Value → Bool), s.heap.IsList l items → (∀ y, y ∈ items → SeqAt.EqAt X.A.in1 s y x (e y)) → Q (.bool (if neg then !items.any e else items.any e)) s → wpAny (model X.prog X.w) X.A (compareOp op x (.ref l)) Q X.xe s)
  (ht : ∀ {s : Shared} {l : Addr} {items : Array Value} {x : Value} {Q : Value → Shared → Prop} (e : Value → Bool), s.heap.IsTuple l items → (∀ y, y ∈ items → SeqAt.EqAt X.A.in1 s y x (e y)) → Q (.bool (if neg then !items.any e else items.any e)) s → wpAny (model X.prog X.w) X.A (compareOp op x (.ref l)) Q X.xe s)
  (hu : X.A.units + 64 < cLine) : OpW X (compareOp op) o := by
 subst ho
 intro pins s σ H ι G st x y w1 w2 v u Q I sr rx ry r1 r2 q
 dsimp only at q
 cases e : inW st w1 w2 with
 | none => rw [e] at q; exact (show False from q).elim
 | some b =>
  rw [e] at q
  have qq : ∀ (H' : Hp), H' = H → Q (.bl (if neg then !b else b)) H' := fun H' hh => by rw [hh]; exact q _ ι G H (Ext.refl _ _ _) sr (.bl _)
  have seq : ∀ {ys : List W}, itemsOf st w2 = some ys → inD w1 ys = some b → wpAny (model X.prog X.w) X.A (compareOp op v u) (EP X pins σ Q) X.xe s := by
   intro ys hi hd
   obtain ⟨a, xs, ea, hq, t⟩ := items_rel sr r2 hi
   subst ea
   cases ry
   rcases hq with hq | hq
   ·obtain ⟨its, r, pl, hz⟩ := I.list hq
    obtain ⟨f, h1, h2, _⟩ := mem_fun (A := X.A.in1) I (r1.mono sr.look) rx (by show X.A.units + 1 + 12 < cLine; omega) hd (t.mono sr.look) r
    refine hl f pl.isList (fun w hw => h1 w (by simpa using hw)) ⟨.bl (if neg then !b else b), H, I, ?_, qq H rfl⟩
    rw [show its.toArray.any f = its.any f by simp, h2]; rfl
   ·obtain ⟨its, r, pl, hz⟩ := I.tuple hq
    obtain ⟨f, h1, h2, _⟩ := mem_fun (A := X.A.in1) I (r1.mono sr.look) rx (by show X.A.units + 1 + 12 < cLine; omega) hd (t.mono sr.look) r
    refine ht f pl (fun w hw => h1 w (by simpa using hw)) ⟨.bl (if neg then !b else b), H, I, ?_, qq H rfl⟩
    rw [show its.toArray.any f = its.any f by simp, h2]; rfl
  by_cases hb : ∃ i j, w1 = .str i ∧ w2 = .str j
  ·obtain ⟨i, j, rfl, rfl⟩ := hb
   cases r1; cases r2
   have e' : some (inStr i j) = some b := e
   cases e'
   exact hs pins s σ H _ _ v u Q I rx ry ⟨i, j, rfl, rfl, qq H rfl⟩
  ·have e' : (match itemsOf st w2 with | some ys => inD w1 ys | none => none) = some b := by
    rw [← e]
    unfold inW
    cases w1 <;> cases w2 <;> first | rfl | exact absurd ⟨_, _, rfl, rfl⟩ hb
   cases hi : itemsOf st w2 with
   | none => rw [hi] at e'; cases e'
   | some ys => rw [hi] at e'; exact seq hi e'
theorem opw_in0 (hu : X.A.units + 64 < cLine) : OpW X (compareOp .In) opIn0 := opw_inG (neg := false) rfl op_in_str (fun e h1 h2 h3 => SeqAt.in_listAt e h1 h2 h3) (fun e h1 h2 h3 => SeqAt.in_tupleAt e h1 h2 h3) hu
theorem opw_notIn0 (hu : X.A.units + 64 < cLine) : OpW X (compareOp .NotIn) opNotIn0 := opw_inG (neg := true) rfl op_notIn_str (fun e h1 h2 h3 => SeqAt.notIn_listAt e h1 h2 h3) (fun e h1 h2 h3 => SeqAt.notIn_tupleAt e h1 h2 h3) hu
end
end DL
namespace DL
open PySem PySem.Spec PyProof.Rows L2
section
variable {X : Cx}
def opIdx0 : Op2 := fun a b st => match b with
 | .int i => match a with
  | .str z => if z.length ≤ sizeLine then (match atI z.cps.toList i with | some c => .ok (.str ⟨#[c]⟩) st | none => .stuck) else .stuck
  | a => match itemsOf st a with
   | some ws => (match atI ws i with | some w => .ok w st | none => .stuck)
   | none => .stuck
 | _ => .stuck
theorem atI_rel {K : PySem.W.Frag} {ι : Nat → Addr} {N : Nat} {G : Hp} {xs : List V} {ws : List W} {i : Int} {w : W} (t : RelWs K ι N G xs ws) (h : atI ws i = some w) : ∃ v, atI xs i = some v ∧ RelW K ι N G v w := by
 unfold atI at h ⊢
 rw [t.length]
 cases e : ixN ws.length i with
 | none => rw [e] at h; cases h
 | some j =>
  rw [e] at h
  exact t.get (show ws[j]? = some w from h)
theorem ix_w : IxR X (rOp X opIdx0) := by
 intro value slice pins s σ H x y v u Q I rx ry h hs
 obtain ⟨ι, G, st, w1, w2, sr, r1, r2, q⟩ := h
 cases w2 with
 | int i =>
  cases r2
  have seq : ∀ {ws : List W}, itemsOf st w1 = some ws → wpW X ι st.nxt G (match atI ws i with | some w => .ok w st | none => .stuck) Q → wpAny (model X.prog X.w) X.A (subscriptTail value slice v u) (EP X pins σ Q) X.xe s := by
   intro ws hi q
   cases e : atI ws i with
   | none => rw [e] at q; exact (show False from q).elim
   | some w =>
    rw [e] at q
    obtain ⟨a, xs, ea, hq, t⟩ := items_rel sr r1 hi
    subst ea
    obtain ⟨z, hz, rz⟩ := atI_rel t e
    have fin := q z ι G H (Ext.refl _ _ _) sr rz
    rcases hq with hq | hq
    ·exact ix_list value slice pins s σ H _ _ v u Q I rx ry ⟨a, xs, i, z, rfl, rfl, hq, hz, fin⟩ hs
    ·exact ix_tup value slice pins s σ H _ _ v u Q I rx ry ⟨a, xs, i, z, rfl, rfl, hq, hz, fin⟩ hs
  cases w1 with
  | str z =>
   cases r1
   have q' : wpW X ι st.nxt G (if z.length ≤ sizeLine then (match atI z.cps.toList i with | some c => .ok (.str ⟨#[c]⟩) st | none => .stuck) else .stuck) Q := q
   by_cases hl : z.length ≤ sizeLine
   ·rw [if_pos hl] at q'
    cases e : atI z.cps.toList i with
    | none => rw [e] at q'; exact (show False from q').elim
    | some c =>
     rw [e] at q'
     exact ix_str value slice pins s σ H _ _ v u Q I rx ry ⟨z, i, c, rfl, rfl, hl, e, q' _ ι G H (Ext.refl _ _ _) sr (.str _)⟩ hs
   ·rw [if_neg hl] at q'; exact (show False from q').elim
  | tup ws => exact seq (ws := ws) rfl q
  | lst ws => exact seq (ws := ws) rfl q
  | ref n =>
   cases hi : itemsOf st (.ref n) with
   | none =>
    have q' : wpW X ι st.nxt G (match itemsOf st (.ref n) with | some ws => (match atI ws i with | some w => .ok w st | none => .stuck) | none => .stuck) Q := q
    rw [hi] at q'; exact (show False from q').elim
   | some ws =>
    have q' : wpW X ι st.nxt G (match itemsOf st (.ref n) with | some ws => (match atI ws i with | some w => .ok w st | none => .stuck) | none => .stuck) Q := q
    rw [hi] at q'; exact seq hi q'
  | _ => exact (show False from q).elim
 | _ => exact (show False from q).elim
theorem pd_ix0 {a b : Expr} {pos : Pos} {ra rb : Run} (ha : PD X a ra) (hb : PD X b rb) (hs : PlainIx b) : PD X (.Subscript a b pos) (run2 ra rb opIdx0) :=
 PE.imp (pe_ix ix_w ha hb hs) fun _ _ _ h => tD_op h
def cutW (xs : List W) (lo hi : Option Int) : List W := (xs.drop (HT.sIx xs.length 0 lo)).take (HT.sIx xs.length xs.length hi - HT.sIx xs.length 0 lo)
def opSl (m : Bool) (lo hi : Option Int) (a : W) (st : S) : R W := match a with
 | .str z => if z.length ≤ sizeLine then .ok (.str (Txt.slice z lo hi)) st else .stuck
 | .tup ws => .ok (.tup (cutW ws lo hi)) st
 | a => match itemsOf st a with
  | some ws => if m then opNewL (cutW ws lo hi) st else opLst (cutW ws lo hi) st
  | none => .stuck
theorem cut_rel {K : PySem.W.Frag} {ι : Nat → Addr} {N : Nat} {G : Hp} {xs : List V} {ws : List W} (t : RelWs K ι N G xs ws) (lo hi : Option Int) : RelWs K ι N G (cutV xs lo hi) (cutW ws lo hi) := by
 unfold cutV cutW
 rw [t.length]
 exact (t.drop _).take _
theorem tupleIsExact_ {prog : Program} {w : World} {A : Around} {E : Value → Shared → Prop} {s : Shared} {t : Addr} {items : Array Value} {Q : Bool → Shared → Prop} (ht : IsTup s.heap t items) (h : Q true s) : wpAny (model prog w) A (Builtin.Tuple.tupleIsExact (.ref t)) Q E s := by
 unfold Builtin.Tuple.tupleIsExact
 refine wpAny_bind (wpAny_typeOf ht.typeIs (wpAny_pure ?_))
 exact h
theorem getItem_tuple_whole {prog : Program} {w : World} {A : Around} {E : Value → Shared → Prop} {s : Shared} {t sl : Addr} {items : Array Value} {vl vu : Value} {lo hi : Option Int} {Q : Value → Shared → Prop} (ht : IsTup s.heap t items) (hs : s.heap.IsSliceOf sl vl vu .none) (pl : IsPart vl lo) (pu : IsPart vu hi)
  (h0 : HT.sIx items.size 0 lo = 0) (h1 : HT.sIx items.size items.size hi = items.size) (h : Q (.ref t) s) : wpAny (model prog w) A (getItem (.ref t) (.ref sl)) Q E s := by
 obtain ⟨os, hos, hcs, hds⟩ := id hs
 have hTs : s.TypeIs (.ref sl) "slice" := ⟨os, hos, hcs⟩
 unfold getItem
 try with_reducible refine wpAny_holding ?_
 first | refine wpAny_bind (wpAny_pure ?_) | skip
 refine wpAny_bind (wpAny_sequenceKey ht.typeIs (by decide) ?_)
 refine wpAny_bind (wpAny_callSpecial?_slot (name := Str.ofString "__getitem__") ht.typeIs PyProof.Rows.slot_tuple_getitem
  (wpAny_call_entry PyProof.Rows.slot_tuple_getitem ht.typeIs entry_tuple_getitem ?_ (args_tuple_getitem _ _)))
 show wpAny _ _ (Builtin.Tuple.tupleItemsOf (.ref t) >>= _) _ _ s
 refine wpAny_bind (tupleItemsOf_ ht ?_)
 refine wpAny_bind (wpAny_typeOf hTs ?_)
 rw [if_pos (by decide)]
 refine wpAny_bind (HT.sliceApplied_gen hs pl pu ?_)
 show wpAny _ _ (if (((HT.sIx items.size 0 lo : Nat) : Int) == 0 && (1 : Int) == 1 && (HT.sIx items.size items.size hi - HT.sIx items.size 0 lo) == items.size) = true then _ else _) _ _ s
 rw [h0, h1, if_pos (by simp)]
 refine wpAny_bind (tupleIsExact_ ht ?_)
 rw [if_pos rfl]
 refine wpAny_bind (wpAny_rule ?_)
 exact wpAny_pure ⟨_, rfl, wpAny_pure h⟩
theorem sl_tupAll : SlR X (fun x lo hi H Q => ∃ a xs, x = .ref a ∧ SqT X.K H a xs ∧ HT.sIx xs.length 0 lo = 0 ∧ HT.sIx xs.length xs.length hi = xs.length ∧ Q (.ref a) H) := by
 intro pins s σ H x v vl vu lo hi sl Q I rx hs pl pu h
 obtain ⟨a, xs, rfl, hx, h0, h1, q⟩ := h
 cases rx
 obtain ⟨its, r, ht, hz⟩ := I.tuple hx
 have hlen : its.toArray.size = xs.length := by rw [List.size_toArray]; exact r.length.symm
 refine ⟨"tuple", _, PyProof.Rows.slot_tuple_getitem.lookup, ht.typeIs, ?_⟩
 exact getItem_tuple_whole ht hs pl pu (by rw [hlen]; exact h0) (by rw [hlen]; exact h1) ⟨.ref a, H, I, rfl, q⟩
def rSlW (X : Cx) (m : Bool) : V → Option Int → Option Int → Hp → VK → Prop := fun x lo hi H Q => ∃ ι G st w, SR X.K ι st G H ∧ RelW X.K ι st.nxt G x w ∧ wpW X ι st.nxt G (opSl m lo hi w st) Q
theorem sl_w {m : Bool} : SlR X (rSlW X m) := by
 intro pins s σ H x v vl vu lo hi sl Q I rx hs pl pu h
 obtain ⟨ι, G, st, w, sr, r1, q⟩ := h
 have seq : ∀ {a : Addr} {xs : List V} {ws : List W}, v = .ref a → x = .ref a → SqL X.K H a xs → RelWs X.K ι st.nxt G xs ws → wpW X ι st.nxt G (if m then opNewL (cutW ws lo hi) st else opLst (cutW ws lo hi) st) Q →
   ∃ T id, typeLookup (.type T) "__getitem__" = pure (some (.builtin id)) ∧ s.TypeIs v T ∧ wpAny (model X.prog X.w) X.A (getItem v (.ref sl)) (EP X pins σ Q) X.xe s := by
  intro a xs ws ev ex hq t q
  refine sl_list pins s σ H x v vl vu lo hi sl Q I rx hs pl pu ⟨a, xs, ex, hq, ?_⟩
  cases m with
  | true => rw [if_pos rfl] at q; exact (newL_laid sr (cut_rel t lo hi) q).2
  | false => rw [if_neg Bool.false_ne_true] at q; exact (lst_laid sr (cut_rel t lo hi) q).2
 cases r1 with
 | str z =>
  have q' : wpW X ι st.nxt G (if z.length ≤ sizeLine then .ok (.str (Txt.slice z lo hi)) st else .stuck) Q := q
  by_cases hl : z.length ≤ sizeLine
  ·rw [if_pos hl] at q'
   exact sl_str pins s σ H _ v vl vu lo hi sl Q I rx hs pl pu ⟨z, rfl, hl, q' _ ι G H (Ext.refl _ _ _) sr (.str _)⟩
  ·rw [if_neg hl] at q'; exact (show False from q').elim
 | tup s1 t1 =>
  rename_i a xs ws
  have hq := sqT_same sr.sub s1
  by_cases hw : HT.sIx xs.length 0 lo = 0 ∧ HT.sIx xs.length xs.length hi = xs.length
  ·refine sl_tupAll pins s σ H _ v vl vu lo hi sl Q I rx hs pl pu ⟨a, xs, rfl, hq, hw.1, hw.2, q _ ι G H (Ext.refl _ _ _) sr (.tup s1 ?_)⟩
   have ec : cutW ws lo hi = ws := by
    unfold cutW
    rw [← t1.length, hw.1, hw.2, List.drop_zero, Nat.sub_zero, t1.length, List.take_length]
   rw [ec]; exact t1
  ·refine sl_tup pins s σ H _ v vl vu lo hi sl Q I rx hs pl pu ⟨a, xs, rfl, hq, hw, fun p hp => ?_⟩
   obtain ⟨sr2, e2⟩ := sr.laid (o := .tup (cutV xs lo hi)) hp
   exact q _ ι _ _ e2 sr2 (.tup (.inl (.inl upd_same)) ((cut_rel t1 lo hi).mono e2))
 | lst s1 t1 => exact seq rx rfl (sr.sub.seq s1) t1 q
 | ref hn =>
  rename_i n
  have q' : wpW X ι st.nxt G (match itemsOf st (.ref n) with | some ws => if m then opNewL (cutW ws lo hi) st else opLst (cutW ws lo hi) st | none => .stuck) Q := q
  cases hi' : itemsOf st (.ref n) with
  | none => rw [hi'] at q'; exact (show False from q').elim
  | some ws =>
   rw [hi'] at q'
   obtain ⟨a, xs, ea, hq, t⟩ := items_rel sr (.ref hn) hi'
   rcases hq with hq | hq
   ·exact seq (by cases ea; exact rx) ea hq t q'
   ·exfalso
    have hi2 := hi'
    have hi2 : MO.items (st.mu n) = some ws := hi2
    cases e : st.mu n with
    | none => rw [e] at hi2; cases hi2
    | some o =>
     obtain ⟨_, _, h3⟩ := sr.live n o e
     cases o with
     | lst zs =>
      obtain ⟨vs, qv, _⟩ := h3
      cases ea
      exact not_both I hq (SqL.of qv)
     | dct ks vs => rw [e] at hi2; cases hi2
 | _ => exact (show False from q).elim
def runSlNN (m : Bool) (ra : Run) : Run := fun Γ st => (ra Γ st).bind fun w st1 => opSl m none none w st1
def runSlSN (m : Bool) (ra rl : Run) : Run := fun Γ st => (ra Γ st).bind fun w st1 => (rl Γ st1).bind fun l st2 => (match l with | .int i => opSl m (some i) none w st2 | _ => .stuck)
def runSlNS (m : Bool) (ra rh : Run) : Run := fun Γ st => (ra Γ st).bind fun w st1 => (rh Γ st1).bind fun h st2 => (match h with | .int i => opSl m none (some i) w st2 | _ => .stuck)
def runSlSS (m : Bool) (ra rl rh : Run) : Run := fun Γ st => (ra Γ st).bind fun w st1 => (rl Γ st1).bind fun l st2 => (match l with | .int i => (rh Γ st2).bind fun h st3 => (match h with | .int j => opSl m (some i) (some j) w st3 | _ => .stuck) | _ => .stuck)
section
variable {e lo hi : Expr} {pos p2 : Pos} {ra rl rh : Run} {m : Bool}
theorem pd_slNN (ha : PD X e ra) : PD X (.Subscript e (.Slice none none none p2) pos) (runSlNN m ra) := by
 refine PE.imp (pe_slice (sl_w (m := m)) ha po_none po_none) fun σ H Q h => ?_
 obtain ⟨ι, G, st, Γ, en, sr, q⟩ := h
 exact ⟨ι, G, st, Γ, en, sr, wpW.bind q fun w st1 v ι1 G1 H1 _ e1 sr1 r1 q1 => ⟨ι1, G1, st1, w, sr1, r1, q1⟩⟩
theorem pd_slSN (ha : PD X e ra) (hl : PD X lo rl) : PD X (.Subscript e (.Slice (some lo) none none p2) pos) (runSlSN m ra rl) := by
 refine PE.imp (pe_slice (sl_w (m := m)) ha (po_some hl) po_none) fun σ H Q h => ?_
 obtain ⟨ι, G, st, Γ, en, sr, q⟩ := h
 refine ⟨ι, G, st, Γ, en, sr, wpW.bind q fun w st1 v ι1 G1 H1 _ e1 sr1 r1 q1 => ?_⟩
 refine ⟨ι1, G1, st1, Γ, en.mono e1, sr1, wpW.bind q1 fun l st2 v2 ι2 G2 H2 _ e2 sr2 r2 q2 => ?_⟩
 cases l with
 | int i => cases r2; exact ⟨i, rfl, ι2, G2, st2, w, sr2, r1.mono e2, q2⟩
 | _ => exact (show False from q2).elim
theorem pd_slNS (ha : PD X e ra) (hh : PD X hi rh) : PD X (.Subscript e (.Slice none (some hi) none p2) pos) (runSlNS m ra rh) := by
 refine PE.imp (pe_slice (sl_w (m := m)) ha po_none (po_some hh)) fun σ H Q h => ?_
 obtain ⟨ι, G, st, Γ, en, sr, q⟩ := h
 refine ⟨ι, G, st, Γ, en, sr, wpW.bind q fun w st1 v ι1 G1 H1 _ e1 sr1 r1 q1 => ?_⟩
 refine ⟨ι1, G1, st1, Γ, en.mono e1, sr1, wpW.bind q1 fun l st2 v2 ι2 G2 H2 _ e2 sr2 r2 q2 => ?_⟩
 cases l with
 | int i => cases r2; exact ⟨i, rfl, ι2, G2, st2, w, sr2, r1.mono e2, q2⟩
 | _ => exact (show False from q2).elim
theorem pd_slSS (ha : PD X e ra) (hl : PD X lo rl) (hh : PD X hi rh) : PD X (.Subscript e (.Slice (some lo) (some hi) none p2) pos) (runSlSS m ra rl rh) := by
 refine PE.imp (pe_slice (sl_w (m := m)) ha (po_some hl) (po_some hh)) fun σ H Q h => ?_
 obtain ⟨ι, G, st, Γ, en, sr, q⟩ := h
 refine ⟨ι, G, st, Γ, en, sr, wpW.bind q fun w st1 v ι1 G1 H1 _ e1 sr1 r1 q1 => ?_⟩
 refine ⟨ι1, G1, st1, Γ, en.mono e1, sr1, wpW.bind q1 fun l st2 v2 ι2 G2 H2 _ e2 sr2 r2 q2 => ?_⟩
 cases l with
 | int i =>
  cases r2
  refine ⟨i, rfl, ι2, G2, st2, Γ, (en.mono e1).mono e2, sr2, wpW.bind q2 fun h st3 v3 ι3 G3 H3 _ e3 sr3 r3 q3 => ?_⟩
  cases h with
  | int j => cases r3; exact ⟨j, rfl, ι3, G3, st3, w, sr3, (r1.mono e2).mono e3, q3⟩
  | _ => exact (show False from q3).elim
 | _ => exact (show False from q2).elim
end
def opLen : OpN := fun ws st => match ws with
 | [.str z] => if z.length ≤ sizeLine then .ok (.int z.length) st else .stuck
 | [w] => match itemsOf st w with
  | some xs => .ok (.int xs.length) st
  | none => .stuck
 | _ => .stuck
def bools : List W → Option (List Bool)
 | [] => some []
 | .bl b :: ws => (bools ws).map (b :: ·)
 | _ :: _ => none
def opAll : OpN := fun ws st => match ws with
 | [.lst xs] => (match bools xs with | some bs => .ok (.bl (bs.all id)) st | none => .stuck)
 | _ => .stuck
def opAny : OpN := fun ws st => match ws with
 | [.lst xs] => (match bools xs with | some bs => .ok (.bl (bs.any id)) st | none => .stuck)
 | _ => .stuck
def opTuple : OpN := fun ws st => match ws with
 | [.tup xs] => .ok (.tup xs) st
 | [w] => match itemsOf st w with
  | some xs => opTup xs st
  | none => .stuck
 | _ => .stuck
def opList (m : Bool) : OpN := fun ws st => match ws with
 | [w] => match itemsOf st w with
  | some xs => if m then opNewL xs st else opLst xs st
  | none => .stuck
 | _ => .stuck
def opAbs : OpN := fun ws st => match ws with
 | [.int i] => .ok (.int (if i < 0 then -i else i)) st
 | _ => .stuck
def opInt : OpN := fun ws st => match ws with
 | [.int i] => .ok (.int i) st
 | [.bl b] => .ok (.int (if b then 1 else 0)) st
 | _ => .stuck
def opMax : OpN := fun ws st => match ws with
 | [.int i, .int j] => .ok (.int (if j > i then j else i)) st
 | _ => .stuck
theorem bools_map : ∀ {ws : List W} {bs : List Bool}, bools ws = some bs → ws = bs.map W.bl
 | [], bs, h => by cases h; rfl
 | w :: ws, bs, h => by
  cases w with
  | bl b =>
   have h' : (bools ws).map (b :: ·) = some bs := h
   cases e : bools ws with
   | none => rw [e] at h'; cases h'
   | some cs => rw [e] at h'; cases h'; rw [List.map_cons, ← bools_map e]
  | _ => cases h
theorem rel1 {K : PySem.W.Frag} {ι : Nat → Addr} {N : Nat} {G : Hp} {xs : List V} {w : W} (t : RelWs K ι N G xs [w]) : ∃ v, xs = [v] ∧ RelW K ι N G v w := by
 cases t with
 | cons r t => cases t; exact ⟨_, rfl, r⟩
theorem rel2 {K : PySem.W.Frag} {ι : Nat → Addr} {N : Nat} {G : Hp} {xs : List V} {w w' : W} (t : RelWs K ι N G xs [w, w']) : ∃ v v', xs = [v, v'] ∧ RelW K ι N G v w ∧ RelW K ι N G v' w' := by
 cases t with
 | cons r t => obtain ⟨v, rfl, r'⟩ := rel1 t; exact ⟨_, _, rfl, r, r'⟩
theorem cw_len : CallW X (.builtin "len") opLen := by
 intro pins s σ H ι G st xs ws us Q I sr rv t q
 match ws, t, q with
 | [w], t, q =>
  obtain ⟨v, rfl, r⟩ := rel1 t
  have seq : ∀ {zs : List W}, itemsOf st w = some zs → wpW X ι st.nxt G (.ok (.int zs.length) st) Q → wpAny (model X.prog X.w) X.A (call (.builtin "len") us) (EP X pins σ Q) X.xe s := by
   intro zs hi q
   obtain ⟨a, ys, ea, hq, t2⟩ := items_rel sr r hi
   subst ea
   refine call_len_seq pins s σ H _ us Q I rv ⟨a, ys, rfl, hq, ?_⟩
   rw [t2.length]
   exact q _ ι G H (Ext.refl _ _ _) sr (.int _)
  cases w with
  | str z =>
   cases r
   have q' : wpW X ι st.nxt G (if z.length ≤ sizeLine then .ok (.int z.length) st else .stuck) Q := q
   by_cases hl : z.length ≤ sizeLine
   ·rw [if_pos hl] at q'
    exact call_len_str pins s σ H _ us Q I rv ⟨z, rfl, hl, q' _ ι G H (Ext.refl _ _ _) sr (.int _)⟩
   ·rw [if_neg hl] at q'; exact (show False from q').elim
  | tup zs => exact seq rfl q
  | lst zs => exact seq rfl q
  | ref n =>
   have q' : wpW X ι st.nxt G (match itemsOf st (.ref n) with | some xs => .ok (.int xs.length) st | none => .stuck) Q := q
   cases hi : itemsOf st (.ref n) with
   | none => rw [hi] at q'; exact (show False from q').elim
   | some zs => rw [hi] at q'; exact seq hi q'
  | _ => exact (show False from q).elim
 | [], _, q => exact (show False from q).elim
 | w :: w' :: ws, _, q => exact (show False from (by cases w <;> exact q)).elim
theorem cw_all (hc : X.calm = true) : CallW X (.builtin "all") opAll := by
 intro pins s σ H ι G st xs ws us Q I sr rv t q
 unfold opAll at q
 split at q
 ·rename_i zs
  cases e : bools zs with
  | none => rw [e] at q; exact (show False from q).elim
  | some bs =>
   rw [e] at q
   obtain ⟨v, rfl, r⟩ := rel1 t
   cases r with
   | lst s1 t1 =>
    rw [bools_map e] at t1
    have e2 := t1.bls
    subst e2
    exact call_allB hc pins s σ H _ us Q I rv ⟨_, bs, rfl, sr.sub.seq s1, q _ ι G H (Ext.refl _ _ _) sr (.bl _)⟩
 ·exact (show False from q).elim
theorem cw_any (hc : X.calm = true) : CallW X (.builtin "any") opAny := by
 intro pins s σ H ι G st xs ws us Q I sr rv t q
 unfold opAny at q
 split at q
 ·rename_i zs
  cases e : bools zs with
  | none => rw [e] at q; exact (show False from q).elim
  | some bs =>
   rw [e] at q
   obtain ⟨v, rfl, r⟩ := rel1 t
   cases r with
   | lst s1 t1 =>
    rw [bools_map e] at t1
    have e2 := t1.bls
    subst e2
    exact call_anyB hc pins s σ H _ us Q I rv ⟨_, bs, rfl, sr.sub.seq s1, q _ ι G H (Ext.refl _ _ _) sr (.bl _)⟩
 ·exact (show False from q).elim
theorem cw_list {m : Bool} : CallW X (.type "list") (opList m) := by
 intro pins s σ H ι G st xs ws us Q I sr rv t q
 unfold opList at q
 split at q
 ·rename_i w
  cases hi : itemsOf st w with
  | none => rw [hi] at q; exact (show False from q).elim
  | some zs =>
   rw [hi] at q
   obtain ⟨v, rfl, r⟩ := rel1 t
   obtain ⟨a, ys, ea, hq, t2⟩ := items_rel sr r hi
   subst ea
   refine call_list_of pins s σ H _ us Q I rv ⟨a, ys, rfl, hq, ?_⟩
   cases m with
   | true => exact (newL_laid sr t2 q).2
   | false => exact (lst_laid sr t2 q).2
 ·exact (show False from q).elim
theorem cw_tuple : CallW X (.type "tuple") opTuple := by
 intro pins s σ H ι G st xs ws us Q I sr rv t q
 unfold opTuple at q
 split at q
 ·rename_i zs
  obtain ⟨v, rfl, r⟩ := rel1 t
  cases r with
  | tup s1 t1 => exact call_tuple_of pins s σ H _ us Q I rv ⟨_, _, rfl, .inr ⟨sqT_same sr.sub s1, q _ ι G H (Ext.refl _ _ _) sr (.tup s1 t1)⟩⟩
 ·rename_i w hne
  cases hi : itemsOf st w with
  | none => rw [hi] at q; exact (show False from q).elim
  | some zs =>
   rw [hi] at q
   obtain ⟨v, rfl, r⟩ := rel1 t
   obtain ⟨a, ys, ea, hq, t2⟩ := items_rel sr r hi
   subst ea
   rcases hq with hq | hq
   ·exact call_tuple_of pins s σ H _ us Q I rv ⟨a, ys, rfl, .inl ⟨hq, (tup_laid sr t2 q).2⟩⟩
   ·exfalso
    cases r with
    | tup s1 t1 => exact hne _ rfl
    | lst s1 t1 => exact not_both I hq (sr.sub.seq s1)
    | @ref n hn =>
     have hi : MO.items (st.mu n) = some zs := hi
     cases e : st.mu n with
     | none => rw [e] at hi; cases hi
     | some o =>
      obtain ⟨_, _, h3⟩ := sr.live n o e
      cases o with
      | lst zs => obtain ⟨vs, qv, _⟩ := h3; exact not_both I hq (SqL.of qv)
      | dct ks vs => rw [e] at hi; cases hi
    | _ => cases hi
 ·exact (show False from q).elim
theorem cw_abs : CallW X (.builtin "abs") opAbs := by
 intro pins s σ H ι G st xs ws us Q I sr rv t q
 unfold opAbs at q
 split at q
 ·obtain ⟨v, rfl, r⟩ := rel1 t
  cases r
  exact call_abs pins s σ H _ us Q I rv ⟨_, rfl, q _ ι G H (Ext.refl _ _ _) sr (.int _)⟩
 ·exact (show False from q).elim
theorem cw_int : CallW X (.type "int") opInt := by
 intro pins s σ H ι G st xs ws us Q I sr rv t q
 unfold opInt at q
 split at q
 ·obtain ⟨v, rfl, r⟩ := rel1 t
  cases r
  exact call_int1 pins s σ H _ us Q I rv (.inl ⟨_, rfl, q _ ι G H (Ext.refl _ _ _) sr (.int _)⟩)
 ·obtain ⟨v, rfl, r⟩ := rel1 t
  cases r
  exact call_int1 pins s σ H _ us Q I rv (.inr ⟨_, rfl, q _ ι G H (Ext.refl _ _ _) sr (.int _)⟩)
 ·exact (show False from q).elim
theorem cw_max (hc : X.calm = true) : CallW X (.builtin "max") opMax := by
 intro pins s σ H ι G st xs ws us Q I sr rv t q
 unfold opMax at q
 split at q
 ·obtain ⟨v, v', rfl, r, r'⟩ := rel2 t
  cases r; cases r'
  exact call_max2 hc pins s σ H _ us Q I rv ⟨_, _, rfl, q _ ι G H (Ext.refl _ _ _) sr (.int _)⟩
 ·exact (show False from q).elim
def MO.kind : Option MO → Option String
 | some (.lst _) => some "list"
 | some (.dct _ _) => some "dict"
 | none => none
def kindW (st : S) : W → Option String
 | .non => some "NoneType"
 | .bl _ => some "bool"
 | .int _ => some "int"
 | .str _ => some "str"
 | .tup _ => some "tuple"
 | .lst _ => some "list"
 | .dct _ _ => some "dict"
 | .ref n => MO.kind (st.mu n)
 | .ty _ => none
 | .exn _ => none
def isKind (k T : String) : Bool := k == T || (k == "bool" && T == "int")
def kinds : List String := ["NoneType", "bool", "int", "str", "tuple", "list", "dict"]
def opIsi : OpN := fun ws st => match ws with
 | [w, .ty T] => if kinds.contains T then (match kindW st w with | some k => .ok (.bl (isKind k T)) st | none => .stuck) else .stuck
 | _ => .stuck
end
end DL
namespace DL
open PySem PySem.Spec PyProof.Rows L2
section
variable {X : Cx}
structure SrcR (K : PySem.W.Frag) (J : It) (items : List W) (ι : Nat → Addr) (N : Nat) (G : Hp) : Prop where
 go : ∀ (i : Nat) (w : W) (ι' : Nat → Addr) (N' : Nat) (G' H' : Hp), items[i]? = some w → Ext ι N G ι' N' G' → Same G' H' → J.go i H' ∧ ∀ v H'', J.yld i H' v H'' → H'' = H' ∧ RelW K ι' N' G' v w
 stop : ∀ (G' H' : Hp), Same G G' → Same G' H' → J.stop items.length H'
abbrev Src := Ga → S → R (List W)
def tDI (X : Cx) (src : Src) : TI := fun σ H Rr => ∃ ι G st Γ, EnvR X.K ι st.nxt G σ Γ ∧ SR X.K ι st G H ∧ (match src Γ st with
 | .ok items st' => ∀ J ι' G' H', Ext ι st.nxt G ι' st'.nxt G' → SR X.K ι' st' G' H' → SrcR X.K J items ι' st'.nxt G' → Rr J H'
 | .ex c st' => XW X ι st.nxt G c st'
 | .stuck => False)
abbrev PDI (X : Cx) (tg iter : Expr) (src : Src) : Prop := PI X tg iter (tDI X src)
theorem PI.imp {tg e : Expr} {t t' : TI} (h : PI X tg e t) (k : ∀ σ H Q, t' σ H Q → t σ H Q) : PI X tg e t' := fun pins s σ H Q I q => h pins s σ H Q I (k σ H Q q)
def iSeq (K : PySem.W.Frag) (tl : TE) : TI := fun σ H R => tl σ H fun x H1 => (∃ a, x = .ref a ∧ (∃ xs, SqL K H1 a xs) ∧ R (Itl K a) H1) ∨ (∃ a, x = .ref a ∧ (∃ xs, SqT K H1 a xs) ∧ R (Itt K a) H1) ∨ ∃ z, x = .str z ∧ R (Its z) H1
theorem pi_seq {y : Str} {py : Pos} {l : Expr} {tl : TE} (hl : PE X l tl) : PI X (.Name y py) l (iSeq X.K tl) := by
 intro pins s σ H R I h
 refine thn (hl pins s σ H _ I h) fun v s1 ⟨x, H1, I1, r1, q1⟩ => ?_
 rcases q1 with ⟨a, e, ⟨xs, hq⟩, q⟩ | ⟨a, e, ⟨xs, hq⟩, q⟩ | ⟨z, e, q⟩
 ·subst e
  cases r1
  obtain ⟨its, rv, p, hz⟩ := I1.list hq
  refine wpAny_pyIter_list p.isList ?_
  refine ⟨s1.heap.objs.size, [s1.heap.objs.size], _, _, H1, rfl, I1.kept (t' := s1.toks) fun b o e => Heap.get?_push_of_some _ e, turn_list a _, ⟨_, Heap.get?_push_size _ rfl, rfl, rfl⟩, fun b hb => ?_, q⟩
  have e : b = s1.heap.objs.size := by simpa using hb
  subst e
  exact I1.fpOk (Nat.le_refl _) (I1.hok.fresh (Nat.le_refl _))
 ·subst e
  cases r1
  obtain ⟨its, rv, p, hz⟩ := I1.tuple hq
  refine wpAny_pyIter_tuple (show s1.heap.IsTuple a its.toArray from p) ?_
  refine ⟨s1.heap.objs.size, [s1.heap.objs.size], _, _, H1, rfl, I1.kept (t' := s1.toks) fun b o e => Heap.get?_push_of_some _ e, turn_tuple a _, ⟨_, Heap.get?_push_size _ rfl, rfl, rfl⟩, fun b hb => ?_, q⟩
  have e : b = s1.heap.objs.size := by simpa using hb
  subst e
  exact I1.fpOk (Nat.le_refl _) (I1.hok.fresh (Nat.le_refl _))
 ·subst e
  obtain ⟨t, rfl⟩ := r1
  have fp : ∀ b ∈ [s1.heap.objs.size], FpOk X pins H1 b := fun b hb => by
   have e : b = s1.heap.objs.size := by simpa using hb
   subst e
   exact I1.fpOk (Nat.le_refl _) (I1.hok.fresh (Nat.le_refl _))
  cases ha : z.cps.all (· < 128)
  ·refine wpAny_pyIter_wide ha ?_
   exact ⟨s1.heap.objs.size, [s1.heap.objs.size], _, _, H1, rfl, I1.kept (t' := s1.toks) fun b o e => Heap.get?_push_of_some _ e,
    turn_str (fun A' hA => Walks.strWide hA _ z t) (fun i h st => by obtain ⟨o, e, c, d⟩ := st; exact ⟨o, e, fun v z => by rw [d] at z; cases z⟩) (fun _ _ _ _ _ st h => wpAny_pyIter_striter_wide st h),
    ⟨Nat.zero_le _, ⟨_, Heap.get?_push_size _ rfl, rfl, rfl⟩⟩, fp, q⟩
  ·refine wpAny_pyIter_ascii ha ?_
   exact ⟨s1.heap.objs.size, [s1.heap.objs.size], _, _, H1, rfl, I1.kept (t' := s1.toks) fun b o e => Heap.get?_push_of_some _ e,
    turn_str (fun A' hA => Walks.strAscii hA _ z t) (fun i h st => by obtain ⟨o, e, c, d⟩ := st; exact ⟨o, e, fun v z => by rw [d] at z; cases z⟩) (fun _ _ _ _ _ st h => wpAny_pyIter_striter_ascii st h),
    ⟨Nat.zero_le _, ⟨_, Heap.get?_push_size _ rfl, rfl, rfl⟩⟩, fp, q⟩
def signs (z : Str) : List W := z.cps.toList.map fun c => W.str ⟨#[c]⟩
def srcOf : W → Option (List W)
 | .lst xs => some xs
 | .tup xs => some xs
 | .str z => some (signs z)
 | _ => none
def runSrc (r : Run) : Src := fun Γ st => (r Γ st).bind fun w st1 => match srcOf w with
 | some xs => .ok xs st1
 | none => .stuck
theorem src_list {K : PySem.W.Frag} {ι : Nat → Addr} {N : Nat} {G : Hp} {a : Addr} {xs : List V} {ws : List W} (h : SqL K G a xs) (t : RelWs K ι N G xs ws) : SrcR K (Itl K a) ws ι N G where
 go := fun i w ι' N' G' H' hw e sm => by
  obtain ⟨v, hv, rv⟩ := (t.mono e).get hw
  have hq : SqL K H' a xs := sm.seq (e.sm.seq h)
  refine ⟨⟨xs, v, hq, hv⟩, fun v' H'' ⟨e1, y⟩ => ⟨e1, ?_⟩⟩
  have := y xs hq
  rw [hv] at this
  cases this
  exact rv
 stop := fun G' H' sm sm' => ⟨xs, sm'.seq (sm.seq h), by rw [t.length]; exact Nat.le_refl _⟩
theorem src_tup {K : PySem.W.Frag} {ι : Nat → Addr} {N : Nat} {G : Hp} {a : Addr} {xs : List V} {ws : List W} (h : SqT K G a xs) (t : RelWs K ι N G xs ws) : SrcR K (Itt K a) ws ι N G where
 go := fun i w ι' N' G' H' hw e sm => by
  obtain ⟨v, hv, rv⟩ := (t.mono e).get hw
  have hq : SqT K H' a xs := sqT_same sm (sqT_same e.sm h)
  refine ⟨⟨xs, v, hq, hv⟩, fun v' H'' ⟨e1, y⟩ => ⟨e1, ?_⟩⟩
  have := y xs hq
  rw [hv] at this
  cases this
  exact rv
 stop := fun G' H' sm sm' => ⟨xs, sqT_same sm' (sqT_same sm h), by rw [t.length]; exact Nat.le_refl _⟩
theorem src_str {K : PySem.W.Frag} {ι : Nat → Addr} {N : Nat} {G : Hp} (z : Str) : SrcR K (Its z) (signs z) ι N G where
 go := fun i w ι' N' G' H' hw e sm => by
  unfold signs at hw
  rw [List.getElem?_map] at hw
  cases hc : z.cps.toList[i]? with
  | none => rw [hc] at hw; cases hw
  | some c =>
   rw [hc] at hw
   cases hw
   have hc' : z.cps[i]? = some c := by simpa using hc
   have hi : i < z.cps.size := (Array.getElem?_eq_some_iff.mp hc').1
   refine ⟨hi, fun v' H'' ⟨e1, c', h1, h2⟩ => ⟨e1, ?_⟩⟩
   rw [hc'] at h1
   cases h1
   rw [h2]
   exact .str _
 stop := fun G' H' sm sm' => by
  show z.cps.size ≤ (signs z).length
  unfold signs
  simp
def rangeW (lo : Int) (n : Nat) : List W := (List.range n).map fun (i : Nat) => W.int (lo + i)
theorem src_range {K : PySem.W.Frag} {ι : Nat → Addr} {N : Nat} {G : Hp} (lo : Int) (n : Nat) : SrcR K (Itr lo n) (rangeW lo n) ι N G where
 go := fun i w ι' N' G' H' hw e sm => by
  unfold rangeW at hw
  rw [List.getElem?_map] at hw
  by_cases hi : i < n
  ·rw [List.getElem?_range hi] at hw
   cases hw
   refine ⟨hi, fun v' H'' ⟨e1, h2⟩ => ⟨e1, ?_⟩⟩
   rw [h2]
   exact .int _
  ·rw [List.getElem?_eq_none (by simp; omega)] at hw; cases hw
 stop := fun G' H' sm sm' => by
  show n ≤ (rangeW lo n).length
  unfold rangeW
  simp
theorem pdi_val {y : Str} {py : Pos} {l : Expr} {r : Run} (h : PD X l r) : PDI X (.Name y py) l (runSrc r) := by
 refine PI.imp (pi_seq h) fun σ H Q hq => ?_
 obtain ⟨ι, G, st, Γ, en, sr, q⟩ := hq
 refine ⟨ι, G, st, Γ, en, sr, ?_⟩
 unfold runSrc at q
 cases e1 : r Γ st with
 | stuck => rw [e1] at q; exact q
 | ex c s => rw [e1] at q; exact q
 | ok w st1 =>
  rw [e1] at q
  intro v ι1 G1 H1 x1 sr1 r1
  have q' : match (match srcOf w with | some xs => R.ok xs st1 | none => R.stuck) with
   | .ok items st' => ∀ J ι' G' H', Ext ι st.nxt G ι' st'.nxt G' → SR X.K ι' st' G' H' → SrcR X.K J items ι' st'.nxt G' → Q J H'
   | .ex c st' => XW X ι st.nxt G c st'
   | .stuck => False := q
  cases r1 with
  | tup s1 t1 => exact .inr (.inl ⟨_, rfl, ⟨_, sqT_same sr1.sub s1⟩, q' _ ι1 G1 H1 x1 sr1 (src_tup s1 t1)⟩)
  | lst s1 t1 => exact .inl ⟨_, rfl, ⟨_, sr1.sub.seq s1⟩, q' _ ι1 G1 H1 x1 sr1 (src_list s1 t1)⟩
  | str z => exact .inr (.inr ⟨z, rfl, q' _ ι1 G1 H1 x1 sr1 (src_str z)⟩)
  | _ => exact q'.elim
def inRange (j : Int) : Prop := -(2 ^ 62) ≤ j ∧ j < 2 ^ 62
instance (j : Int) : Decidable (inRange j) := by unfold inRange; infer_instance
def runRng1 (r : Run) : Src := fun Γ st => (r Γ st).bind fun w st1 => match w with
 | .int j => if inRange j then .ok (rangeW 0 j.toNat) st1 else .stuck
 | _ => .stuck
def runRng2 (r r' : Run) : Src := fun Γ st => (r Γ st).bind fun w st1 => (r' Γ st1).bind fun w' st2 => match w, w' with
 | .int i, .int j => if inRange i ∧ inRange j then .ok (rangeW i (j - i).toNat) st2 else .stuck
 | _, _ => .stuck
theorem pdi_range1 {tg a : Expr} {p pos : Pos} {ra : Run} (hg : Gl X "range") (hm : X.mg "range" = none) (ha : PD X a ra) (hs : starEach [a] X.env = [(false, eval a X.env)]) : PDI X tg (.Call (.Name "range" p) [a] [] pos) (runRng1 ra) := by
 refine PI.imp (pi_range1 hg hm (pda_cons ha pda_nil hs) hs) fun σ H Q hq => ?_
 obtain ⟨ι, G, st, Γ, en, sr, q⟩ := hq
 refine ⟨ι, G, st, Γ, en, sr, ?_⟩
 unfold runRng1 at q
 unfold runsCons runsNil
 cases e1 : ra Γ st with
 | stuck => rw [e1] at q; exact q
 | ex c s => rw [e1] at q; exact q
 | ok w st1 =>
  rw [e1] at q
  intro vs ι1 G1 H1 x1 sr1 r1
  obtain ⟨v, rfl, r2⟩ := rel1 r1
  cases r2 with
  | int j =>
   by_cases hr : inRange j
   ·have q' : match (if inRange j then R.ok (rangeW 0 j.toNat) st1 else R.stuck) with
     | .ok items st' => ∀ J ι' G' H', Ext ι st.nxt G ι' st'.nxt G' → SR X.K ι' st' G' H' → SrcR X.K J items ι' st'.nxt G' → Q J H'
     | .ex c st' => XW X ι st.nxt G c st'
     | .stuck => False := q
    rw [if_pos hr] at q'
    exact ⟨j, rfl, hr.1, hr.2, q' _ ι1 G1 H1 x1 sr1 (src_range 0 _)⟩
   ·have q' : match (if inRange j then R.ok (rangeW 0 j.toNat) st1 else R.stuck) with
     | .ok items st' => ∀ J ι' G' H', Ext ι st.nxt G ι' st'.nxt G' → SR X.K ι' st' G' H' → SrcR X.K J items ι' st'.nxt G' → Q J H'
     | .ex c st' => XW X ι st.nxt G c st'
     | .stuck => False := q
    rw [if_neg hr] at q'
    exact q'.elim
  | _ => exact (show False from q).elim
def R.calm {α : Type} : R α → R α
 | .ok a s => .ok a s
 | _ => .stuck
def wp0 (K : PySem.W.Frag) (ι : Nat → Addr) (N : Nat) (G : Hp) (r : R W) (Q : VK) : Prop := match r with
 | .ok w st' => ∀ v ι' G' H', Ext ι N G ι' st'.nxt G' → SR K ι' st' G' H' → RelW K ι' st'.nxt G' v w → Q v H'
 | _ => False
def tD0 (K : PySem.W.Frag) (run : Run) : TE := fun σ H Q => ∃ ι G st Γ, EnvR K ι st.nxt G σ Γ ∧ SR K ι st G H ∧ wp0 K ι st.nxt G (run Γ st) Q
def tT0 (K : PySem.W.Frag) (run : Run) : TT := fun σ H Q => tD0 K run σ H fun v H' => ∃ b, v = .bl b ∧ Q b H'
theorem tD0_tD {run : Run} {σ : St} {H : Hp} {Q : VK} (h : tD0 X.K run σ H Q) : tD X run σ H Q := by
 obtain ⟨ι, G, st, Γ, en, sr, q⟩ := h
 refine ⟨ι, G, st, Γ, en, sr, ?_⟩
 cases e : run Γ st with
 | ok w st' => rw [e] at q; exact q
 | ex c s => rw [e] at q; exact q.elim
 | stuck => rw [e] at q; exact q
theorem PD.calm {e : Expr} {run : Run} (h : PD X e run) : PE X e (tD0 X.K run) := PE.imp h fun _ _ _ q => tD0_tD q
theorem PT.calm {e : Expr} {run : Run} (h : PT X e (tDT X run)) : PT X e (tT0 X.K run) := PT.imp h fun _ _ _ q => tD0_tD q
def compGo (rt re : Run) (Γc : Ga) : List W → List W → S → R (List W)
 | [], acc, st => .ok acc st
 | x :: xs, acc, st => (rt (some x :: Γc) st).calm.bind fun b st1 => match b with
  | .bl true => (re (some x :: Γc) st1).calm.bind fun y st2 => compGo rt re Γc xs (acc ++ [y]) st2
  | .bl false => compGo rt re Γc xs acc st1
  | _ => .stuck
def capG (cap : List Nat) (Γ : Ga) : Ga := cap.map fun j => (Γ[j]?).getD none
def opL (m : Bool) : OpN := if m then opNewL else opLst
def runComp (m : Bool) (src : Src) (cap : List Nat) (rt re : Run) : Run := fun Γ st => (src Γ st).bind fun items st1 => if items.length < sizeLine then (compGo rt re (capG cap Γ) items [] st1).bind (opL m) else .stuck
theorem cap_env {K : PySem.W.Frag} {ι : Nat → Addr} {N : Nat} {G : Hp} {σ : St} {Γ : Ga} {v : V} {w : W} (cap : List Nat) (en : EnvR K ι N G σ Γ) (r : RelW K ι N G v w) : EnvR K ι N G (capS cap σ (some v)) (some w :: capG cap Γ) := by
 refine ⟨by unfold capS capG; simp, fun i u h => ?_⟩
 cases i with
 | zero =>
  have h' : some (some w) = some (some u) := by simpa using h
  cases h'
  exact ⟨v, by unfold capS; simp, r⟩
 | succ i =>
  have h' : (capG cap Γ)[i]? = some (some u) := by simpa using h
  unfold capG at h'
  rw [List.getElem?_map] at h'
  cases hj : cap[i]? with
  | none => rw [hj] at h'; cases h'
  | some j =>
   rw [hj] at h'
   have h2 : (Γ[j]?).getD none = some u := Option.some.inj h'
   cases hg : Γ[j]? with
   | none => rw [hg] at h2; cases h2
   | some o =>
    rw [hg] at h2
    have h3 : o = some u := h2
    subst h3
    obtain ⟨z, h4, h5⟩ := en.get j u hg
    refine ⟨z, ?_, h5⟩
    unfold capS
    rw [List.getElem?_cons_succ, List.getElem?_map, hj]
    show some ((σ[j]?).getD none) = some (some z)
    rw [h4]; rfl
def wpL (X : Cx) (m : Bool) (ι : Nat → Addr) (N : Nat) (G : Hp) (r : R (List W)) (Q : VK) : Prop := match r with
 | .ok ys st => wpW X ι N G (opL m ys st) Q
 | .ex c st => XW X ι N G c st
 | .stuck => False
theorem wpL_bind {m : Bool} {ι : Nat → Addr} {N : Nat} {G : Hp} {r : R (List W)} {Q : VK} (h : wpW X ι N G (r.bind (opL m)) Q) : wpL X m ι N G r Q := by
 cases r <;> exact h
theorem wpL.later {m : Bool} {ι ι1 : Nat → Addr} {N N1 : Nat} {G G1 : Hp} {r : R (List W)} {Q : VK} (e : Ext ι N G ι1 N1 G1) (h : wpL X m ι N G r Q) : wpL X m ι1 N1 G1 r Q := by
 cases r with
 | stuck => exact h
 | ex c s => exact XW.mono e h
 | ok w st' => exact wpW.later e h
theorem wpL_step {m : Bool} {ι : Nat → Addr} {N : Nat} {G : Hp} {r : R W} {f : W → S → R (List W)} {Q : VK} {Q' : VK} {K : PySem.W.Frag} (hK : K = X.K) (h : wpL X m ι N G (r.calm.bind f) Q)
  (k : ∀ w st' v ι' G' H', Ext ι N G ι' st'.nxt G' → SR X.K ι' st' G' H' → RelW X.K ι' st'.nxt G' v w → wpL X m ι' st'.nxt G' (f w st') Q → Q' v H') : wp0 K ι N G r Q' := by
 subst hK
 cases r with
 | stuck => exact h
 | ex c s => exact (show False from h).elim
 | ok w st' => exact fun v ι' G' H' e sr rel => k w st' v ι' G' H' e sr rel (wpL.later e (show wpL X m ι N G (f w st') Q from h))
theorem pd_comp {scope : Scope} {x : Str} {px pos : Pos} {cl : List (Str × Addr)} {N : List Str} {cap : List Nat} {elt iter : Expr} {ifs : List Expr} {src : Src} {rt re : Run} {m : Bool} (hc : X.calm = true) (hi : PDI X (.Name x px) iter src) (Sc : CompSc X scope x cl N cap)
  (ht : ∀ C s H ex, PTs (cxComp X scope cl C N s H ex) ifs (tT0 X.K rt)) (he : ∀ C s H ex, PE (cxComp X scope cl C N s H ex) elt (tD0 X.K re)) (hs : ∀ z, foldedSetIterable iter X.env z = pure z) :
  PD X (.ListComp elt [⟨.Name x px, iter, ifs, 0⟩] scope pos) (runComp m src cap rt re) ∧
  (∀ {i : Nat} {y : Str} {py spos : Pos}, X.N.Nodup → X.N[i]? = some y → X.env.scope.names.lookup y = some .local → swapsWith (.ListComp elt [⟨.Name x px, iter, ifs, 0⟩] scope pos) (some (.Name y py)) spos.line X.env = pure true →
   PS X (.Assign [.Name y py] (.ListComp elt [⟨.Name x px, iter, ifs, 0⟩] scope pos) spos) (tAsg (tD X (runComp m src cap rt re)) (gName i))) := by
 have key : ∀ σ H Q, tD X (runComp m src cap rt re) σ H Q → tComp (tDI X src) cap (tT0 X.K rt) (tD0 X.K re) σ H Q := by
  intro σ H Q h
  obtain ⟨ι, G, st, Γ, en, sr, q⟩ := h
  refine ⟨ι, G, st, Γ, en, sr, ?_⟩
  unfold runComp at q
  cases e1 : src Γ st with
  | stuck => rw [e1] at q; exact q
  | ex c s => rw [e1] at q; exact q
  | ok items st1 =>
   rw [e1] at q
   intro J ι1 G1 H1 x1 sr1 sc
   have q' : wpW X ι st.nxt G (if items.length < sizeLine then (compGo rt re (capG cap Γ) items [] st1).bind (opL m) else .stuck) Q := q
   by_cases hl : items.length < sizeLine
   ·rw [if_pos hl] at q'
    have q1 := wpL.later x1 (wpL_bind q')
    have en1 := en.mono x1
    refine ⟨fun i k ys H' => k = items.length - i ∧ i ≤ items.length ∧ ys.length ≤ i ∧ ∃ ι2 G2 st2 acc, Ext ι1 st1.nxt G1 ι2 st2.nxt G2 ∧ SR X.K ι2 st2 G2 H' ∧ RelWs X.K ι2 st2.nxt G2 ys acc ∧ wpL X m ι2 st2.nxt G2 (compGo rt re (capG cap Γ) (items.drop i) acc st2) Q,
     ⟨items.length, by simp, Nat.zero_le _, Nat.zero_le _, ι1, G1, st1, [], Ext.refl _ _ _, sr1, .nil, by rw [List.drop_zero]; exact q1⟩, ?_⟩
    rintro i k ys H' ⟨rfl, hi', hy, ι2, G2, st2, acc, e2, sr2, ra, q2⟩
    refine ⟨by omega, ?_⟩
    by_cases hlt : i < items.length
    ·have hd : items.drop i = items[i] :: items.drop (i + 1) := List.drop_eq_getElem_cons hlt
     have hg : items[i]? = some items[i] := List.getElem?_eq_getElem hlt
     obtain ⟨g1, g2⟩ := sc.go i items[i] ι2 st2.nxt G2 H' hg e2 sr2.sub
     refine .inr ⟨g1, fun v H'' hy' => ?_⟩
     obtain ⟨eh, rv⟩ := g2 v H'' hy'
     subst eh
     rw [hd] at q2
     have q2' : wpL X m ι2 st2.nxt G2 ((rt (some items[i] :: capG cap Γ) st2).calm.bind fun b st3 => match b with
      | .bl true => (re (some items[i] :: capG cap Γ) st3).calm.bind fun y st4 => compGo rt re (capG cap Γ) (items.drop (i + 1)) (acc ++ [y]) st4
      | .bl false => compGo rt re (capG cap Γ) (items.drop (i + 1)) acc st3
      | _ => .stuck) Q := q2
     have en2 : EnvR X.K ι2 st2.nxt G2 (capS cap σ (some v)) (some items[i] :: capG cap Γ) := cap_env cap (en1.mono e2) rv
     refine ⟨ι2, G2, st2, some items[i] :: capG cap Γ, en2, sr2, wpL_step rfl q2' fun b st3 vb ι3 G3 H3 e3 sr3 rb q3 => ?_⟩
     cases b with
     | bl b =>
      cases rb
      refine ⟨b, rfl, ?_⟩
      cases b with
      | true =>
       rw [if_pos rfl]
       refine ⟨ι3, G3, st3, some items[i] :: capG cap Γ, en2.mono e3, sr3, wpL_step rfl q3 fun y st4 vy ι4 G4 H4 e4 sr4 ry q4 => ?_⟩
       refine ⟨items.length - (i + 1), by omega, rfl, hlt, by rw [List.length_append, List.length_singleton]; omega, ι4, G4, st4, acc ++ [y], (e2.trans e3).trans e4, sr4, ((ra.mono e3).mono e4).append (.cons ry .nil), q4⟩
      | false =>
       rw [if_neg Bool.false_ne_true]
       exact ⟨items.length - (i + 1), by omega, rfl, hlt, by omega, ι3, G3, st3, acc, e2.trans e3, sr3, ra.mono e3, q3⟩
     | _ => exact (show False from q3).elim
    ·have ei : i = items.length := by omega
     subst ei
     rw [List.drop_length] at q2
     refine .inl ⟨sc.stop G2 H' e2.sm sr2.sub, ?_⟩
     have q3 : wpW X ι2 st2.nxt G2 (opL m acc st2) Q := q2
     cases m with
     | true => exact (newL_laid sr2 ra q3).2
     | false => exact (lst_laid sr2 ra q3).2
   ·rw [if_neg hl] at q'; exact (show False from q').elim
 refine ⟨PE.imp (pe_comp hc hi Sc ht he hs) key, fun {i y py spos} hN hy hL hsw => ?_⟩
 exact PS.imp (ps_setComp hN hy hL hc hi Sc ht he hsw hs) fun D σ H h => key σ H _ h
def SpD (K : PySem.W.Frag) (n : Nat) (op : OpN) : Sp := fun vs H Q _ => vs.length = n ∧ ∃ ι G st ws, SR K ι st G H ∧ RelWs K ι st.nxt G vs ws ∧ wp0 K ι st.nxt G (op ws st) Q
def calmOp (op : OpN) : OpN := fun ws st => (op ws st).calm
theorem wp0_calm {ι : Nat → Addr} {N : Nat} {G : Hp} {r : R W} {Q : VK} (h : wpW X ι N G r.calm Q) : wp0 X.K ι N G r Q := by
 cases r with
 | ok w st => exact h
 | ex c s => exact (show False from h).elim
 | stuck => exact h
theorem pd_call {k n : Nat} {f : Addr} {fd : FuncData} {ps : List Str} {op : OpN} {x : Str} {p pos : Pos} {e : Expr} {es : List Expr} {rr : Runs} (F : FnOk X.prog X.w X.K X.mg X.base CX0 k f fd ps (SpD X.K n op)) (hr : Room k X.A) (hg : Gl X x) (hm : X.mg x = some (.ref f)) (hk : PySem.W.keepIn X.K (.ref f) = true)
  (hb : Binds X.K fd ps []) (ha : PDA X (e :: es) rr) (hn : ∀ Γ st ws st', rr Γ st = .ok ws st' → ws.length = n) (hdb : (x == ("__debug__" : Str)) = false) (he : starEach (e :: es) X.env = (false, eval e X.env) :: starEach es X.env) (hpl : (backTo pos (starEach es X.env)).any (·.1) = false) :
  PD X (.Call (.Name x p) (e :: es) [] pos) (runN rr (calmOp op)) := by
 refine PE.imp (pe_call F hr hg hm hk hb .nil pass0 ha hdb he hpl) fun σ H Q h => ?_
 obtain ⟨ι, G, st, Γ, en, sr, q⟩ := h
 refine ⟨ι, G, st, Γ, en, sr, ?_⟩
 unfold runN at q
 cases e1 : rr Γ st with
 | stuck => rw [e1] at q; exact q
 | ex c s => rw [e1] at q; exact q
 | ok ws st1 =>
  rw [e1] at q
  intro vs ι1 G1 H1 x1 sr1 r1
  rw [List.append_nil]
  exact ⟨by rw [r1.length]; exact hn Γ st ws st1 e1, ι1, G1, st1, ws, sr1, r1, wp0_calm (wpW.later x1 (show wpW X ι st.nxt G (calmOp op ws st1) Q from q))⟩
end
end DL
namespace DL
open PySem PySem.Spec PyProof.Rows L2
inductive Fl where
 | nx (Γ : Ga) | rt (w : W) | bk (Γ : Ga) | ct (Γ : Ga)
abbrev RunS := Ga → S → R Fl
section
variable {X : Cx}
def wpF (X : Cx) (ι : Nat → Addr) (N : Nat) (G : Hp) (r : R Fl) (D : Ends) : Prop := match r with
 | .ok fl st' => ∀ ι' G' H', Ext ι N G ι' st'.nxt G' → SR X.K ι' st' G' H' → (match fl with
  | .nx Γ' => ∀ σ', EnvR X.K ι' st'.nxt G' σ' Γ' → D.nx σ' H'
  | .rt w => ∀ v, RelW X.K ι' st'.nxt G' v w → D.rt v H'
  | .bk Γ' => ∀ σ', EnvR X.K ι' st'.nxt G' σ' Γ' → D.bk σ' H'
  | .ct Γ' => ∀ σ', EnvR X.K ι' st'.nxt G' σ' Γ' → D.ct σ' H')
 | .ex c st' => XW X ι N G c st'
 | .stuck => False
theorem wpF.later {ι ι1 : Nat → Addr} {N N1 : Nat} {G G1 : Hp} {r : R Fl} {D : Ends} (e : Ext ι N G ι1 N1 G1) (h : wpF X ι N G r D) : wpF X ι1 N1 G1 r D := by
 cases r with
 | stuck => exact h
 | ex c s => exact XW.mono e h
 | ok w st' => exact fun ι' G' H' e' sr => h ι' G' H' (e.trans e') sr
theorem wpF_bind {ι : Nat → Addr} {N : Nat} {G : Hp} {r : R W} {f : W → S → R Fl} {D : Ends} {Q' : VK} (h : wpF X ι N G (r.bind f) D)
  (k : ∀ w st' v ι' G' H', Ext ι N G ι' st'.nxt G' → SR X.K ι' st' G' H' → RelW X.K ι' st'.nxt G' v w → wpF X ι' st'.nxt G' (f w st') D → Q' v H') : wpW X ι N G r Q' := by
 cases r with
 | stuck => exact h
 | ex c s => exact h
 | ok w st' => exact fun v ι' G' H' e sr rel => k w st' v ι' G' H' e sr rel (wpF.later e (show wpF X ι N G (f w st') D from h))
def tDS (X : Cx) (run : RunS) : TS := fun D σ H => ∃ ι G st Γ, EnvR X.K ι st.nxt G σ Γ ∧ SR X.K ι st G H ∧ wpF X ι st.nxt G (run Γ st) D
abbrev PDS (X : Cx) (s : Stmt) (run : RunS) : Prop := PS X s (tDS X run)
abbrev PDSs (X : Cx) (s : List Stmt) (run : RunS) : Prop := PSs X s (tDS X run)
def sPass : RunS := fun Γ st => .ok (.nx Γ) st
def sBrk : RunS := fun Γ st => .ok (.bk Γ) st
def sCnt : RunS := fun Γ st => .ok (.ct Γ) st
def sRetN : RunS := fun _ st => .ok (.rt .non) st
def sRet (r : Run) : RunS := fun Γ st => (r Γ st).bind fun w st' => .ok (.rt w) st'
def sDrop (r : Run) : RunS := fun Γ st => (r Γ st).bind fun _ st' => .ok (.nx Γ) st'
def sSet (i : Nat) (r : Run) : RunS := fun Γ st => (r Γ st).bind fun w st' => .ok (.nx (Γ.set i (some w))) st'
def sIf (rc : Run) (a b : RunS) : RunS := fun Γ st => (rc Γ st).bind fun w st' => match w with
 | .bl true => a Γ st'
 | .bl false => b Γ st'
 | _ => .stuck
def sSeq (a b : RunS) : RunS := fun Γ st => (a Γ st).bind fun fl st' => match fl with
 | .nx Γ' => b Γ' st'
 | fl => .ok fl st'
theorem pds_pass {pos : Pos} : PDS X (.Pass pos) sPass := PS.imp ps_pass fun D σ H ⟨ι, G, _, _, en, sr, q⟩ => q ι G H (Ext.refl _ _ _) sr σ en
theorem pds_brk {pos : Pos} : PDS X (.Break pos) sBrk := PS.imp ps_break fun D σ H ⟨ι, G, _, _, en, sr, q⟩ => q ι G H (Ext.refl _ _ _) sr σ en
theorem pds_cnt {pos : Pos} : PDS X (.Continue pos) sCnt := PS.imp ps_continue fun D σ H ⟨ι, G, _, _, en, sr, q⟩ => q ι G H (Ext.refl _ _ _) sr σ en
theorem pds_retN {pos : Pos} : PDS X (.Return none pos) sRetN := PS.imp ps_retN fun D σ H ⟨ι, G, _, _, en, sr, q⟩ => q ι G H (Ext.refl _ _ _) sr .non .non
theorem pds_ret {e : Expr} {pos : Pos} {r : Run} (he : PD X e r) : PDS X (.Return (some e) pos) (sRet r) := by
 refine PS.imp (ps_ret he) fun D σ H ⟨ι, G, st, Γ, en, sr, q⟩ => ⟨ι, G, st, Γ, en, sr, wpF_bind q fun w st1 v ι1 G1 H1 e1 sr1 r1 q1 => ?_⟩
 exact q1 ι1 G1 H1 (Ext.refl _ _ _) sr1 v r1
theorem pds_drop {e : Expr} {pos : Pos} {r : Run} (he : PD X e r) (hs : swapsWith e none pos.line X.env = pure false) : PDS X (.Expr e pos) (sDrop r) := by
 refine PS.imp (ps_expr he hs) fun D σ H ⟨ι, G, st, Γ, en, sr, q⟩ => ⟨ι, G, st, Γ, en, sr, wpF_bind q fun w st1 v ι1 G1 H1 e1 sr1 r1 q1 => ?_⟩
 exact q1 ι1 G1 H1 (Ext.refl _ _ _) sr1 σ (en.mono e1)
theorem asg_set {r : Run} {i : Nat} {D : Ends} {σ : St} {H : Hp} (h : tDS X (sSet i r) D σ H) : tAsg (tD X r) (gName i) D σ H := by
 obtain ⟨ι, G, st, Γ, en, sr, q⟩ := h
 refine ⟨ι, G, st, Γ, en, sr, wpF_bind q fun w st1 v ι1 G1 H1 e1 sr1 r1 q1 => ?_⟩
 exact q1 ι1 G1 H1 (Ext.refl _ _ _) sr1 _ ((en.mono e1).set i r1)
theorem pds_set {i : Nat} {x : Str} {e : Expr} {pos pos' : Pos} {r : Run} (hN : X.N.Nodup) (hi : X.N[i]? = some x) (hx : Loc X.env.scope x) (he : PD X e r) (hs : swapsWith e (some (.Name x pos')) pos.line X.env = pure false) (hf : X.fn x = true ∨ X.env.scope.names.lookup x = some .local) :
  PDS X (.Assign [.Name x pos'] e pos) (sSet i r) := PS.imp (ps_set hN hi hx he hs hf) fun D σ H h => asg_set h
theorem pds_if {c : Expr} {a b : List Stmt} {pos : Pos} {rc : Run} {ra rb : RunS} (hc : PT X c (tDT X rc)) (ha : PDSs X a ra) (hb : PDSs X b rb) : PDS X (.If c a b pos) (sIf rc ra rb) := by
 refine PS.imp (ps_if hc ha hb) fun D σ H ⟨ι, G, st, Γ, en, sr, q⟩ => ⟨ι, G, st, Γ, en, sr, wpF_bind q fun w st1 v ι1 G1 H1 e1 sr1 r1 q1 => ?_⟩
 cases w with
 | bl b =>
  cases r1
  refine ⟨b, rfl, ?_⟩
  cases b with
  | true => rw [if_pos rfl]; exact ⟨ι1, G1, st1, Γ, en.mono e1, sr1, q1⟩
  | false => rw [if_neg Bool.false_ne_true]; exact ⟨ι1, G1, st1, Γ, en.mono e1, sr1, q1⟩
 | _ => exact (show False from q1).elim
theorem pdss_nil : PDSs X [] sPass := PSs.imp pss_nil fun D σ H ⟨ι, G, _, _, en, sr, q⟩ => q ι G H (Ext.refl _ _ _) sr σ en
theorem pdss_cons {s : Stmt} {ss : List Stmt} {a b : RunS} (h1 : PDS X s a) (h2 : PDSs X ss b) : PDSs X (s :: ss) (sSeq a b) := by
 refine PSs.imp (pss_cons h1 h2) fun D σ H ⟨ι, G, st, Γ, en, sr, q⟩ => ⟨ι, G, st, Γ, en, sr, ?_⟩
 unfold sSeq at q
 cases e1 : a Γ st with
 | stuck => rw [e1] at q; exact q
 | ex c s => rw [e1] at q; exact q
 | ok fl st1 =>
  rw [e1] at q
  intro ι1 G1 H1 x1 sr1
  cases fl with
  | nx Γ1 => exact fun σ1 en1 => ⟨ι1, G1, st1, Γ1, en1, sr1, wpF.later x1 (show wpF X ι st.nxt G (b Γ1 st1) D from q)⟩
  | rt w => exact q ι1 G1 H1 x1 sr1
  | bk Γ1 => exact q ι1 G1 H1 x1 sr1
  | ct Γ1 => exact q ι1 G1 H1 x1 sr1
def loopS (i : Nat) (body : RunS) : List W → Ga → S → R Fl
 | [], Γ, st => .ok (.nx Γ) st
 | x :: xs, Γ, st => (body (Γ.set i (some x)) st).bind fun fl st' => match fl with
  | .nx Γ' => loopS i body xs Γ' st'
  | .ct Γ' => loopS i body xs Γ' st'
  | .bk Γ' => .ok (.nx Γ') st'
  | .rt w => .ok (.rt w) st'
def sFor (i : Nat) (src : Src) (body : RunS) : RunS := fun Γ st => (src Γ st).bind fun items st' => loopS i body items Γ st'
theorem pds_for {i : Nat} {x : Str} {px pos : Pos} {iter : Expr} {body : List Stmt} {src : Src} {rb : RunS} (hp : PassesOwn (model X.prog X.w) X.A X.env X.xe) (hc : X.calm = true) (hi : PDI X (.Name x px) iter src) (hg : PG X (.Name x px) (gName i)) (hb : PDSs X body rb) (hs : ∀ z, foldedSetIterable iter X.env z = pure z) :
  PDS X (.For (.Name x px) iter body [] pos) (sFor i src rb) := by
 refine PS.imp (ps_for hp hc hi hg hb hs) fun D σ H ⟨ι, G, st, Γ, en, sr, q⟩ => ⟨ι, G, st, Γ, en, sr, ?_⟩
 unfold sFor at q
 cases e1 : src Γ st with
 | stuck => rw [e1] at q; exact q
 | ex c s => rw [e1] at q; exact q
 | ok items st1 =>
  rw [e1] at q
  intro J ι1 G1 H1 x1 sr1 sc
  have q1 : wpF X ι1 st1.nxt G1 (loopS i rb items Γ st1) D := wpF.later x1 (show wpF X ι st.nxt G (loopS i rb items Γ st1) D from q)
  refine ⟨fun k m σ' H' => m = items.length - k ∧ k ≤ items.length ∧ ∃ ι2 G2 st2 Γ2, Ext ι1 st1.nxt G1 ι2 st2.nxt G2 ∧ SR X.K ι2 st2 G2 H' ∧ EnvR X.K ι2 st2.nxt G2 σ' Γ2 ∧ wpF X ι2 st2.nxt G2 (loopS i rb (items.drop k) Γ2 st2) D,
   ⟨items.length, by simp, Nat.zero_le _, ι1, G1, st1, Γ, Ext.refl _ _ _, sr1, en.mono x1, by rw [List.drop_zero]; exact q1⟩, ?_⟩
  rintro k m σ' H' ⟨rfl, hk, ι2, G2, st2, Γ2, e2, sr2, en2, q2⟩
  by_cases hlt : k < items.length
  ·have hd : items.drop k = items[k] :: items.drop (k + 1) := List.drop_eq_getElem_cons hlt
   have hg' : items[k]? = some items[k] := List.getElem?_eq_getElem hlt
   obtain ⟨g1, g2⟩ := sc.go k items[k] ι2 st2.nxt G2 H' hg' e2 sr2.sub
   rw [hd] at q2
   refine .inr ⟨g1, fun σ3 H3 => ∃ ι3 G3 st3 Γ3, Ext ι1 st1.nxt G1 ι3 st3.nxt G3 ∧ SR X.K ι3 st3 G3 H3 ∧ EnvR X.K ι3 st3.nxt G3 σ3 Γ3 ∧ wpF X ι3 st3.nxt G3 (loopS i rb (items.drop (k + 1)) Γ3 st3) D,
    fun σ3 H3 h3 => ⟨items.length - (k + 1), by omega, rfl, hlt, h3⟩, fun v H'' hy => ?_⟩
   obtain ⟨eh, rv⟩ := g2 v H'' hy
   subst eh
   refine ⟨ι2, G2, st2, Γ2.set i (some items[k]), en2.set i rv, sr2, ?_⟩
   have q2' : wpF X ι2 st2.nxt G2 ((rb (Γ2.set i (some items[k])) st2).bind fun fl st' => match fl with
    | .nx Γ' => loopS i rb (items.drop (k + 1)) Γ' st'
    | .ct Γ' => loopS i rb (items.drop (k + 1)) Γ' st'
    | .bk Γ' => .ok (.nx Γ') st'
    | .rt w => .ok (.rt w) st') D := q2
   cases e3 : rb (Γ2.set i (some items[k])) st2 with
   | stuck => rw [e3] at q2'; exact q2'
   | ex c s => rw [e3] at q2'; exact q2'
   | ok fl st3 =>
    rw [e3] at q2'
    intro ι3 G3 H3 x3 sr3
    cases fl with
    | nx Γ3 => exact fun σ3 en3 => ⟨ι3, G3, st3, Γ3, e2.trans x3, sr3, en3, wpF.later x3 q2'⟩
    | ct Γ3 => exact fun σ3 en3 => ⟨ι3, G3, st3, Γ3, e2.trans x3, sr3, en3, wpF.later x3 q2'⟩
    | bk Γ3 => exact q2' ι3 G3 H3 x3 sr3
    | rt w => exact q2' ι3 G3 H3 x3 sr3
  ·have ek : k = items.length := by omega
   subst ek
   rw [List.drop_length] at q2
   exact .inl ⟨sc.stop G2 H' e2.sm sr2.sub, q2 ι2 G2 H' (Ext.refl _ _ _) sr2 σ' en2⟩
def putAt (n : Nat) (k : Int) (v : W) (st : S) : Option MO → R Unit
 | some (.lst ws) => (match ixN ws.length k with | some j => .ok () (st.put n (.lst (ws.set j v))) | none => .stuck)
 | _ => .stuck
def opSetIx : W → W → W → S → R Unit := fun o i v st => match o, i with
 | .ref n, .int k => putAt n k v st (st.mu n)
 | _, _ => .stuck
def sSetIx (ro ri rv : Run) : RunS := fun Γ st => (rv Γ st).bind fun v st1 => (ro Γ st1).bind fun o st2 => (ri Γ st2).bind fun i st3 => (opSetIx o i v st3).bind fun _ st4 => .ok (.nx Γ) st4
theorem pds_setIx {o i e : Expr} {pos tpos : Pos} {ro ri rv : Run} (ho : PD X o ro) (hi : PD X i ri) (he : PD X e rv) (hg : ∀ {t : TSet}, PSet X t → PG X (.Subscript o i tpos) (gSub (tD X ro) (tD X ri) t)) (hs : swapsWithSole [.Subscript o i tpos] e pos.line X.env = pure false) (hw : swappedStores [.Subscript o i tpos] e X.env = pure none) :
  PDS X (.Assign [.Subscript o i tpos] e pos) (sSetIx ro ri rv) := by
 refine PS.imp (ps_asg he (hg set_list) hs hw) fun D σ H ⟨ι, G, st, Γ, en, sr, q⟩ => ⟨ι, G, st, Γ, en, sr, wpF_bind q fun w st1 v ι1 G1 H1 e1 sr1 r1 q1 => ?_⟩
 refine ⟨ι1, G1, st1, Γ, en.mono e1, sr1, wpF_bind q1 fun wo st2 vo ι2 G2 H2 e2 sr2 r2 q2 => ?_⟩
 refine ⟨ι2, G2, st2, Γ, (en.mono e1).mono e2, sr2, wpF_bind q2 fun wi st3 vi ι3 G3 H3 e3 sr3 r3 q3 => ?_⟩
 have r1' := (r1.mono e2).mono e3
 have r2' := r2.mono e3
 cases wo with
 | ref n =>
  cases wi with
  | int k =>
   cases r3
   cases r2'
   have q3 : wpF X ι3 st3.nxt G3 ((putAt n k w st3 (st3.mu n)).bind fun x st4 => .ok (.nx Γ) st4) D := q3
   cases em : st3.mu n with
   | none => rw [em] at q3; exact (show False from q3).elim
   | some ob =>
    cases ob with
    | dct ks vs => rw [em] at q3; exact (show False from q3).elim
    | lst ws =>
     rw [em] at q3
     have q3 : wpF X ι3 st3.nxt G3 ((match ixN ws.length k with | some j => R.ok () (st3.put n (.lst (ws.set j w))) | none => R.stuck).bind fun x st4 => .ok (.nx Γ) st4) D := q3
     cases ej : ixN ws.length k with
     | none => rw [ej] at q3; exact (show False from q3).elim
     | some j =>
      rw [ej] at q3
      obtain ⟨_, _, xs, hx, rx⟩ := sr3.live n _ em
      refine ⟨_, xs, k, j, rfl, rfl, hx, by rw [rx.length]; exact ej, ?_⟩
      have sr4 := sr3.putL em (rx.set r1' j)
      exact q3 ι3 G3 _ (Ext.refl _ _ _) sr4 σ (((en.mono e1).mono e2).mono e3)
  | _ => exact (show False from q3).elim
 | _ => exact (show False from q3).elim
def frzs (f : W → Option W) : List W → Option (List W)
 | [] => some []
 | x :: xs => match f x, frzs f xs with
  | some y, some ys => some (y :: ys)
  | _, _ => none
def frz (N : Nat) (mu : Nat → Option MO) : Nat → W → Option W
 | 0, _ => none
 | k + 1, w => match w with
  | .ref n => if n < N then some (.ref n) else (match mu n with
   | some (.lst xs) => (frzs (frz N mu k) xs).map W.lst
   | some (.dct ks xs) => (frzs (frz N mu k) xs).map (W.dct ks)
   | none => none)
  | .tup xs => (frzs (frz N mu k) xs).map W.tup
  | .lst xs => (frzs (frz N mu k) xs).map W.lst
  | .dct ks xs => (frzs (frz N mu k) xs).map (W.dct ks)
  | w => some w
section
variable {K : PySem.W.Frag} {ι ι' : Nat → Addr} {N N' : Nat} {G G' : Hp}
theorem RelW.low {v0 : V} {w : W} (h : RelW K ι N G v0 w) : ∀ v, RelW K ι' N' G' v w → RelW K ι' N G' v w := by
 refine RelW.rec (motive_1 := fun _ w _ => ∀ v, RelW K ι' N' G' v w → RelW K ι' N G' v w) (motive_2 := fun _ ws _ => ∀ vs, RelWs K ι' N' G' vs ws → RelWs K ι' N G' vs ws) ?_ ?_ ?_ ?_ ?_ ?_ ?_ ?_ ?_ ?_ ?_ ?_ h
 ·intro v r; cases r; exact .non
 ·intro b v r; cases r; exact .bl b
 ·intro i v r; cases r; exact .int i
 ·intro x v r; cases r; exact .str x
 ·intro n v r; cases r; exact .ty n
 ·intro a xs ws _ _ ih v r; cases r with | tup s t => exact .tup s (ih _ t)
 ·intro a xs ws _ _ ih v r; cases r with | lst s t => exact .lst s (ih _ t)
 ·intro a xs ks ws _ _ _ ih v r; cases r with | dct s l t => exact .dct s l (ih _ t)
 ·intro n hn v r; cases r; exact .ref hn
 ·intro a C x _ _ v r; cases r with | exn s n => exact .exn s n
 ·intro vs r; cases r; exact .nil
 ·intro x w xs ws _ _ i1 i2 vs r; cases r with | cons r t => exact .cons (i1 _ r) (i2 _ t)
theorem RelWs.low : ∀ {vs0 : List V} {ws : List W} {vs : List V}, RelWs K ι N G vs0 ws → RelWs K ι' N' G' vs ws → RelWs K ι' N G' vs ws
 | _, _, _, .nil, .nil => .nil
 | _, _, _, .cons r0 t0, .cons r t => .cons (r0.low _ r) (RelWs.low t0 t)
theorem frzs_rel {f : W → Option W} (hf : ∀ v w w', RelW K ι N' G v w → f w = some w' → RelW K ι N G' v w') : ∀ {vs : List V} {ws ws' : List W}, RelWs K ι N' G vs ws → frzs f ws = some ws' → RelWs K ι N G' vs ws'
 | _, _, _, .nil, h => by cases h; exact .nil
 | _, w :: ws, ws', .cons r t, h => by
  unfold frzs at h
  cases e1 : f w with
  | none => rw [e1] at h; cases h
  | some y =>
   cases e2 : frzs f ws with
   | none => rw [e1, e2] at h; cases h
   | some ys =>
    rw [e1, e2] at h
    cases h
    exact .cons (hf _ _ _ r e1) (frzs_rel hf t e2)
theorem frz_rel {mu : Nat → Option MO} (sm : Same G G') (hmu : ∀ n o, N ≤ n → mu n = some o → MOR K ι N' G G' (ι n) o) : ∀ (k : Nat) (v : V) (w w' : W), RelW K ι N' G v w → frz N mu k w = some w' → RelW K ι N G' v w'
 | 0, _, _, _, _, h => by cases h
 | k + 1, v, w, w', r, h => by
  have ih := frz_rel sm hmu k
  unfold frz at h
  cases r with
  | non => cases h; exact .non
  | bl b => cases h; exact .bl b
  | int i => cases h; exact .int i
  | str x => cases h; exact .str x
  | ty n => cases h; exact .ty n
  | exn s n => cases h; exact .exn (sm _ _ s) n
  | @tup a xs ws s t =>
   have h : (frzs (frz N mu k) ws).map W.tup = some w' := h
   cases e : frzs (frz N mu k) ws with
   | none => rw [e] at h; cases h
   | some ys => rw [e] at h; cases h; exact .tup (sqT_same sm s) (frzs_rel ih t e)
  | @lst a xs ws s t =>
   have h : (frzs (frz N mu k) ws).map W.lst = some w' := h
   cases e : frzs (frz N mu k) ws with
   | none => rw [e] at h; cases h
   | some ys => rw [e] at h; cases h; exact .lst (sm.seq s) (frzs_rel ih t e)
  | @dct a xs ks ws s l t =>
   have h : (frzs (frz N mu k) ws).map (W.dct ks) = some w' := h
   cases e : frzs (frz N mu k) ws with
   | none => rw [e] at h; cases h
   | some ys => rw [e] at h; cases h; exact .dct (sm _ _ s) l (frzs_rel ih t e)
  | @ref n hn =>
   have h : (if n < N then some (W.ref n) else (match mu n with
    | some (.lst xs) => (frzs (frz N mu k) xs).map W.lst
    | some (.dct ks xs) => (frzs (frz N mu k) xs).map (W.dct ks)
    | none => none)) = some w' := h
   by_cases hl : n < N
   ·rw [if_pos hl] at h; cases h; exact .ref hl
   ·rw [if_neg hl] at h
    cases em : mu n with
    | none => rw [em] at h; cases h
    | some o =>
     rw [em] at h
     have m := hmu n o (Nat.le_of_not_lt hl) em
     cases o with
     | lst ws =>
      obtain ⟨xs, h1, t⟩ := m
      have h : (frzs (frz N mu k) ws).map W.lst = some w' := h
      cases e : frzs (frz N mu k) ws with
      | none => rw [e] at h; cases h
      | some ys => rw [e] at h; cases h; exact .lst (SqL.of h1) (frzs_rel ih t e)
     | dct ks ws =>
      obtain ⟨xs, h1, l, t⟩ := m
      have h : (frzs (frz N mu k) ws).map (W.dct ks) = some w' := h
      cases e : frzs (frz N mu k) ws with
      | none => rw [e] at h; cases h
      | some ys => rw [e] at h; cases h; exact .dct h1 l (frzs_rel ih t e)
end
theorem SR.kept {K : PySem.W.Frag} {ι ι' : Nat → Addr} {st st' : S} {G G' H H' : Hp} (sr0 : SR K ι st G H) (e : Ext ι st.nxt G ι' st'.nxt G') (sr1 : SR K ι' st' G' H') (hs : ∀ n, n < st.nxt → st'.mu n = st.mu n) :
  ∃ G'', Ext ι st.nxt G ι' st.nxt G'' ∧ SR K ι' st G'' H' ∧ ∀ (k : Nat) (v : V) (w w' : W), RelW K ι' st'.nxt G' v w → frz st.nxt st'.mu k w = some w' → RelW K ι' st.nxt G'' v w' := by
 have hold : ∀ n o, st.mu n = some o → n < st.nxt ∧ st'.mu n = some o := fun n o h => by
  have l := (sr0.live n o h).1
  exact ⟨l, by rw [hs n l]; exact h⟩
 let P : Addr → Prop := fun a => ∃ n o, st.nxt ≤ n ∧ st'.mu n = some o ∧ ι' n = a
 let G'' : Hp := fun a => @ite _ (P a) (Classical.propDecidable _) (H' a) (G' a)
 have g1 : ∀ a, P a → G'' a = H' a := fun a h => @if_pos _ (Classical.propDecidable _) h _ _ _
 have g2 : ∀ a, ¬ P a → G'' a = G' a := fun a h => @if_neg _ (Classical.propDecidable _) h _ _ _
 have sm : Same G' G'' := fun a u h => by
  by_cases p : P a
  ·obtain ⟨n, o, _, h2, h3⟩ := p
   have := (sr1.live n o h2).2.1
   rw [h3, h] at this
   cases this
  ·rw [g2 a p]; exact h
 have sub : Same G'' H' := fun a u h => by
  by_cases p : P a
  ·rw [g1 a p] at h; exact h
  ·rw [g2 a p] at h; exact sr1.sub a u h
 refine ⟨G'', ⟨Nat.le_refl _, e.ag, e.sm.trans sm⟩, ⟨sub, fun n o h => ?_, fun n m o o' h h' z => sr1.inj n m o o' (hold n o h).2 (hold m o' h').2 z⟩, ?_⟩
 ·obtain ⟨l, h'⟩ := hold n o h
  have np : ¬ P (ι' n) := fun ⟨m, o', h1, h2, h3⟩ => by
   have := sr1.inj m n o' o h2 h' h3
   omega
  obtain ⟨_, a2, a3⟩ := sr1.live n o h'
  have ex : Ext ι' st'.nxt G' ι' st'.nxt G'' := ⟨Nat.le_refl _, fun _ _ => rfl, sm⟩
  refine ⟨l, by rw [g2 _ np]; exact a2, ?_⟩
  have b3 := (sr0.live n o h).2.2
  cases o with
  | lst ws => obtain ⟨xs, q, t⟩ := a3; obtain ⟨_, _, t0⟩ := b3; exact ⟨xs, q, RelWs.low t0 (t.mono ex)⟩
  | dct ks ws => obtain ⟨xs, q, z, t⟩ := a3; obtain ⟨_, _, _, t0⟩ := b3; exact ⟨xs, q, z, RelWs.low t0 (t.mono ex)⟩
 ·refine frz_rel sm fun n o hn h => ?_
  have p : P (ι' n) := ⟨n, o, hn, h, rfl⟩
  have a3 := (sr1.live n o h).2.2
  cases o with
  | lst ws => obtain ⟨xs, q, t⟩ := a3; exact ⟨xs, by rw [g1 _ p]; exact q, t⟩
  | dct ks ws => obtain ⟨xs, q, z, t⟩ := a3; exact ⟨xs, by rw [g1 _ p]; exact q, z, t⟩
noncomputable def keep (st st' : S) (w : W) : R W := @ite _ (∀ n, n < st.nxt → st'.mu n = st.mu n) (Classical.propDecidable _) (match frz st.nxt st'.mu 12 w with
 | some w' => .ok w' st
 | none => .stuck) .stuck
theorem keep_pos {st st' : S} {w w' : W} (h : ∀ n, n < st.nxt → st'.mu n = st.mu n) (e : frz st.nxt st'.mu 12 w = some w') : keep st st' w = .ok w' st := by
 unfold keep
 rw [if_pos h, e]
theorem keep_inv {st st' : S} {w : W} (h : keep st st' w ≠ .stuck) : (∀ n, n < st.nxt → st'.mu n = st.mu n) ∧ ∃ w', frz st.nxt st'.mu 12 w = some w' ∧ keep st st' w = .ok w' st := by
 by_cases hs : ∀ n, n < st.nxt → st'.mu n = st.mu n
 ·refine ⟨hs, ?_⟩
  cases e : frz st.nxt st'.mu 12 w with
  | none => exact absurd (by unfold keep; rw [if_pos hs, e]) h
  | some w' => exact ⟨w', rfl, keep_pos hs e⟩
 ·exact absurd (by unfold keep; rw [if_neg hs]) h
noncomputable def leave (fz : Bool) (st : S) : R Fl → R W
 | .ok (.rt w) st' => if fz then keep st st' w else .ok w st'
 | .ok (.nx _) st' => if fz then keep st st' .non else .ok .non st'
 | _ => .stuck
noncomputable def callOp (n nl : Nat) (fz : Bool) (run : RunS) : OpN := fun ws st => if ws.length = n then leave fz st (run (ws.map some ++ List.replicate (nl - n) none) st) else .stuck
theorem left_ok {K : PySem.W.Frag} {ι ι1 : Nat → Addr} {st0 st1 : S} {G G1 H0 H1 : Hp} {fz : Bool} {w1 : W} {v : V} {Q : VK} (sr : SR K ι st0 G H0) (x1 : Ext ι st0.nxt G ι1 st1.nxt G1) (sr1 : SR K ι1 st1 G1 H1) (r1 : RelW K ι1 st1.nxt G1 v w1)
  (q : wp0 K ι st0.nxt G (if fz = true then keep st0 st1 w1 else .ok w1 st1) Q) : Q v H1 := by
 cases fz with
 | false => exact q v ι1 G1 H1 x1 sr1 r1
 | true =>
  have q : wp0 K ι st0.nxt G (keep st0 st1 w1) Q := q
  obtain ⟨hs, w', e, ek⟩ := keep_inv (st := st0) (st' := st1) (w := w1) (fun z => by rw [z] at q; exact q)
  rw [ek] at q
  obtain ⟨G2, e2, sr2, rel⟩ := sr.kept x1 sr1 hs
  exact q v ι1 G2 H1 e2 sr2 (rel 12 v w1 w' r1 e)
theorem start_env {K : PySem.W.Frag} {ι : Nat → Addr} {N : Nat} {G : Hp} {vs : List V} {ws : List W} {Ns : List Str} (t : RelWs K ι N G vs ws) : EnvR K ι N G (L2.start Ns vs) (ws.map some ++ List.replicate (Ns.length - ws.length) none) := by
 unfold L2.start
 rw [t.length]
 refine ⟨by simp [t.length], fun i w h => ?_⟩
 by_cases hi : i < ws.length
 ·rw [List.getElem?_append_left (by simpa using hi), List.getElem?_map] at h
  cases e : ws[i]? with
  | none => rw [e] at h; cases h
  | some u =>
   rw [e] at h
   cases h
   obtain ⟨v, h1, h2⟩ := t.get e
   refine ⟨v, ?_, h2⟩
   rw [List.getElem?_append_left (by rw [List.length_map, t.length]; exact hi), List.getElem?_map, h1]; rfl
 ·rw [List.getElem?_append_right (by simpa using hi), List.getElem?_replicate] at h
  split at h <;> cases h
theorem fn_body {P : Program} {w : World} {K : PySem.W.Frag} {mg : Str → Option Value} {base : Heap} {x qual : Str} {st : Stmt} {f : Addr} {fd : FuncData} {N ps : List Str} {k : Nat} {fz : Bool} {run : RunS} (F : Fun K x qual st f fd) (Sc : FnScope N ps (defScope st))
  (hb : ∀ (cdv : Value) (A : Around) (outer : List Env) (s : Shared) (H : Hp) (E : XK), Room k (A.deeper (envOfC qual (defScope st) s.heap.objs.size f cdv)) → PDSs (cxOf CX0 P w K mg base N qual (defScope st) f cdv A outer s H E).nox (defBody st) run) :
  FnOk P w K mg base CX0 (k + 1) f fd ps (SpD K ps.length (callOp ps.length N.length fz run)) := by
 refine Fun.ok F Sc (fun vs H Q E h => h.1) fun cdv A outer s H vs Q E hr hsp => ⟨_, hb cdv A outer s H E hr, ?_⟩
 obtain ⟨hl, ι, G, st0, ws, sr, t, q⟩ := hsp
 have hlw : ws.length = ps.length := by rw [← t.length]; exact hl
 refine ⟨ι, G, st0, ws.map some ++ List.replicate (N.length - ws.length) none, start_env t, sr, ?_⟩
 unfold callOp at q
 rw [if_pos hlw, ← hlw] at q
 cases e : run (ws.map some ++ List.replicate (N.length - ws.length) none) st0 with
 | stuck => rw [e] at q; exact q
 | ex c s => rw [e] at q; exact (show False from q).elim
 | ok fl st1 =>
  rw [e] at q
  intro ι1 G1 H1 x1 sr1
  cases fl with
  | nx Γ1 => exact fun σ1 en1 => left_ok (fz := fz) (w1 := .non) sr x1 sr1 .non q
  | rt w1 => exact fun v r1 => left_ok (fz := fz) sr x1 sr1 r1 q
  | bk Γ1 => exact (show False from q).elim
  | ct Γ1 => exact (show False from q).elim
end
end DL
namespace L2
open PySem PySem.Spec PyProof.Rows
theorem Inv.big' {X : Cx} {pins : List (Addr × Obj)} {σ : L2.St} {H : Hp} {s : Shared} (I : Inv X pins σ H s) : sysModules < s.heap.objs.size := by
 have h : mainGlobals < s.heap.objs.size := (I.mod.glob.keeps I.bk).lt
 exact Nat.lt_trans (by decide) h
theorem dk_empty' {P : Program} {w : World} {H : Hp} (h : Heap) (hb : sysModules < h.objs.size) : ObjOk P w H (h.push { cls := .type "dict", data := .dict #[] }) h.objs.size (.dK []) :=
 ⟨Nat.zero_le _, beq_eq_false_iff_ne.mpr (Ne.symm (Nat.ne_of_lt hb)), [], .nil, Heap.DictOf.new h⟩
theorem pe_dict0 {X : Cx} {pos : Pos} : PE X (.Dict [] [] pos) (fun _ H Q => ∀ p, H p = none → Q (.ref p) (upd H p (.dK []))) := fun pins s σ H Q I h =>
 wpAny_Dict_empty ⟨.ref s.heap.objs.size, _, I.laid (a := s.heap.objs.size) (o := .dK []) (t' := s.toks) (fun _ _ q => Heap.get?_push_of_some _ q) (Nat.le_refl _) (dk_empty' s.heap I.big'), rfl, h _ (I.hok.fresh (Nat.le_refl _))⟩
section
variable {X : Cx}
variable {k : Nat} {f : Addr} {fd : FuncData} {pn : Str} {sp : Sp}
end
end L2
namespace DL
open PySem PySem.Spec PyProof.Rows L2
section
variable {X : Cx}
def rDict0 : Run := fun _ st => .ok (.dct [] []) st
theorem pd_dict0 {pos : Pos} : PD X (.Dict [] [] pos) rDict0 := by
 refine PE.imp pe_dict0 fun σ H Q h => ?_
 obtain ⟨ι, G, st, Γ, en, sr, q⟩ := h
 intro p hp
 obtain ⟨sr2, e2⟩ := sr.laid (o := .dK []) hp
 exact q _ ι _ _ e2 sr2 (.dct (xs := []) upd_same rfl .nil)
section
variable {K : PySem.W.Frag} {ι : Nat → Addr} {N : Nat} {G : Hp}
end
end
end DL
namespace DL
open PySem PySem.Spec PyProof.Rows L2
noncomputable def keepX (st st' : S) (c : W) : R W := @ite _ (∀ n, n < st.nxt → st'.mu n = st.mu n) (Classical.propDecidable _) (.ex c st) .stuck
theorem keepX_pos {st st' : S} {c : W} (h : ∀ n, n < st.nxt → st'.mu n = st.mu n) : keepX st st' c = .ex c st := by
 unfold keepX; rw [if_pos h]
noncomputable def leaveX (fz : Bool) (st : S) : R Fl → R W
 | .ok (.rt w) st' => if fz then keep st st' w else .ok w st'
 | .ok (.nx _) st' => if fz then keep st st' .non else .ok .non st'
 | .ex c st' => if fz then keepX st st' c else .ex c st'
 | _ => .stuck
noncomputable def callX (n nl : Nat) (fz : Bool) (run : RunS) : OpN := fun ws st => if ws.length = n then leaveX fz st (run (ws.map some ++ List.replicate (nl - n) none) st) else .stuck
def wpX (K : PySem.W.Frag) (ι : Nat → Addr) (N : Nat) (G : Hp) (r : R W) (Q : VK) (E : XK) : Prop := match r with
 | .ok w st' => ∀ v ι' G' H', Ext ι N G ι' st'.nxt G' → SR K ι' st' G' H' → RelW K ι' st'.nxt G' v w → Q v H'
 | .ex c st' => ∀ ι' G' H' cls, Ext ι N G ι' st'.nxt G' → SR K ι' st' G' H' → ClsR K c cls → E cls none H'
 | .stuck => False
def SpX (K : PySem.W.Frag) (n : Nat) (op : OpN) : Sp := fun vs H Q E => vs.length = n ∧ ∃ ι G st ws, SR K ι st G H ∧ RelWs K ι st.nxt G vs ws ∧ wpX K ι st.nxt G (op ws st) Q E
theorem left_okX {K : PySem.W.Frag} {ι ι1 : Nat → Addr} {st0 st1 : S} {G G1 H0 H1 : Hp} {fz : Bool} {w1 : W} {v : V} {Q : VK} {E : XK} (sr : SR K ι st0 G H0) (x1 : Ext ι st0.nxt G ι1 st1.nxt G1) (sr1 : SR K ι1 st1 G1 H1) (r1 : RelW K ι1 st1.nxt G1 v w1)
  (q : wpX K ι st0.nxt G (if fz = true then keep st0 st1 w1 else .ok w1 st1) Q E) : Q v H1 := by
 cases fz with
 | false => exact q v ι1 G1 H1 x1 sr1 r1
 | true =>
  have q : wpX K ι st0.nxt G (keep st0 st1 w1) Q E := q
  obtain ⟨hs, w', e, ek⟩ := keep_inv (st := st0) (st' := st1) (w := w1) (fun z => by rw [z] at q; exact q)
  rw [ek] at q
  obtain ⟨G2, e2, sr2, rel⟩ := sr.kept x1 sr1 hs
  exact q v ι1 G2 H1 e2 sr2 (rel 12 v w1 w' r1 e)
theorem left_exX {K : PySem.W.Frag} {ι ι1 : Nat → Addr} {st0 st1 : S} {G G1 H0 H1 : Hp} {fz : Bool} {c : W} {cls : Value} {Q : VK} {E : XK} (sr : SR K ι st0 G H0) (x1 : Ext ι st0.nxt G ι1 st1.nxt G1) (sr1 : SR K ι1 st1 G1 H1) (cl : ClsR K c cls)
  (q : wpX K ι st0.nxt G (if fz = true then keepX st0 st1 c else .ex c st1) Q E) : E cls none H1 := by
 cases fz with
 | false => exact q ι1 G1 H1 cls x1 sr1 cl
 | true =>
  have q : wpX K ι st0.nxt G (keepX st0 st1 c) Q E := q
  by_cases hs : ∀ n, n < st0.nxt → st1.mu n = st0.mu n
  ·rw [keepX_pos hs] at q
   obtain ⟨G2, e2, sr2, _⟩ := sr.kept x1 sr1 hs
   exact q ι1 G2 H1 cls e2 sr2 cl
  ·unfold keepX at q
   rw [if_neg hs] at q
   exact q.elim
section
variable {X : Cx}
theorem pd_callX {b : Bool} {k n : Nat} {f : Addr} {fd : FuncData} {ps : List Str} {op : OpN} {x : Str} {p pos : Pos} {e : Expr} {es : List Expr} {rr : Runs} (F : FnX b X.prog X.w X.K X.mg X.base k f fd ps (SpX X.K n op)) (hr : RoomB b k X.A) (hg : Gl X x) (hm : X.mg x = some (.ref f)) (hk : PySem.W.keepIn X.K (.ref f) = true)
  (hb : Binds X.K fd ps []) (ha : PDA X (e :: es) rr) (hn : ∀ Γ st ws st', rr Γ st = .ok ws st' → ws.length = n) (hdb : (x == ("__debug__" : Str)) = false) (he : starEach (e :: es) X.env = (false, eval e X.env) :: starEach es X.env) (hpl : (backTo pos (starEach es X.env)).any (·.1) = false) :
  PD X (.Call (.Name x p) (e :: es) [] pos) (runN rr op) := by
 refine PE.imp (pe_callX F hr hg hm hk hb ha hdb he hpl) fun σ H Q h => ?_
 obtain ⟨ι, G, st, Γ, en, sr, q⟩ := h
 refine ⟨ι, G, st, Γ, en, sr, ?_⟩
 unfold runN at q
 cases e1 : rr Γ st with
 | stuck => rw [e1] at q; exact q
 | ex c s => rw [e1] at q; exact q
 | ok ws st1 =>
  rw [e1] at q
  intro vs ι1 G1 H1 x1 sr1 r1
  have q1 : wpW X ι1 st1.nxt G1 (op ws st1) Q := wpW.later x1 (show wpW X ι st.nxt G (op ws st1) Q from q)
  refine ⟨fun cls _ H' => ∃ ι' G' c st', op ws st1 = .ex c st' ∧ Ext ι1 st1.nxt G1 ι' st'.nxt G' ∧ SR X.K ι' st' G' H' ∧ ClsR X.K c cls, fun pins σ2 H2 s2 v s' I2 hx => ?_, by rw [r1.length]; exact hn Γ st ws st1 e1, ι1, G1, st1, ws, sr1, r1, ?_⟩
  ·obtain ⟨ea, cls, H', rfl, ei, ι', G', c, st', e2, x2, sr2, cl⟩ := ExcIn.called I2 hx
   rw [e2] at q1
   exact q1 H' ι' G' ea cls s' x2 sr2 cl ei
  ·cases e2 : op ws st1 with
   | stuck => rw [e2] at q1; exact q1
   | ok w st2 => rw [e2] at q1; exact q1
   | ex c st2 => exact fun ι' G' H' cls x2 sr2 cl => ⟨ι', G', c, st2, rfl, x2, sr2, cl⟩
theorem pd_callXc {b : Bool} {k n : Nat} {f : Addr} {fd : FuncData} {ps : List Str} {op : OpN} {x : Str} {p pos : Pos} {e : Expr} {es : List Expr} {rr : Runs} (F : FnX b X.prog X.w X.K X.mg X.base k f fd ps (SpX X.K n op)) (hr : RoomB b k X.A) (hg : Gl X x) (hm : X.mg x = some (.ref f)) (hk : PySem.W.keepIn X.K (.ref f) = true)
  (hb : Binds X.K fd ps []) (ha : PDA X (e :: es) rr) (hn : ∀ Γ st ws st', rr Γ st = .ok ws st' → ws.length = n) (hdb : (x == ("__debug__" : Str)) = false) (he : starEach (e :: es) X.env = (false, eval e X.env) :: starEach es X.env) (hpl : (backTo pos (starEach es X.env)).any (·.1) = false) :
  PD X (.Call (.Name x p) (e :: es) [] pos) (runN rr (calmOp op)) := by
 refine PE.imp (pe_callX F hr hg hm hk hb ha hdb he hpl) fun σ H Q h => ?_
 obtain ⟨ι, G, st, Γ, en, sr, q⟩ := h
 refine ⟨ι, G, st, Γ, en, sr, ?_⟩
 unfold runN at q
 cases e1 : rr Γ st with
 | stuck => rw [e1] at q; exact q
 | ex c s => rw [e1] at q; exact q
 | ok ws st1 =>
  rw [e1] at q
  intro vs ι1 G1 H1 x1 sr1 r1
  have q1 : wpW X ι1 st1.nxt G1 (op ws st1).calm Q := wpW.later x1 (show wpW X ι st.nxt G (calmOp op ws st1) Q from q)
  refine ⟨fun _ _ _ => False, fun pins σ2 H2 s2 v s' I2 hx => ?_, by rw [r1.length]; exact hn Γ st ws st1 e1, ι1, G1, st1, ws, sr1, r1, ?_⟩
  ·obtain ⟨_, _, _, _, _, z⟩ := ExcIn.called I2 hx
   exact z.elim
  ·cases e2 : op ws st1 with
   | stuck => rw [e2] at q1; exact q1
   | ok w st2 => rw [e2] at q1; exact q1
   | ex c st2 => rw [e2] at q1; exact (show False from q1).elim
theorem Fun.okX {b : Bool} {P : Program} {w : World} {K : PySem.W.Frag} {mg : Str → Option Value} {base : Heap} {x qual : Str} {st : Stmt} {f : Addr} {fd : FuncData} {N ps : List Str} {k : Nat} {fz : Bool} {run : RunS} (F : Fun K x qual st f fd) (Sc : FnScope N ps (defScope st))
  (hb : ∀ (cdv : Value) (A : Around) (outer : List Env) (s : Shared) (H : Hp) (Φ : Value → Hp → Prop), RoomB b k (A.deeper (envOfC qual (defScope st) s.heap.objs.size f cdv)) →
   PDSs ((cxB b P w K mg base N qual (defScope st) f cdv A outer s H).wish (XE (cxB b P w K mg base N qual (defScope st) f cdv A outer s H) Φ)) (defBody st) run) :
  FnX b P w K mg base (k + 1) f fd ps (SpX K ps.length (callX ps.length N.length fz run)) := by
 obtain ⟨oc, od, kV, doc, pm, an, cdv, ct, osl, rfl, lk, hcd⟩ := F.ex
 refine fn_ofX lk hcd Sc (fun vs H Q E h => h.1) fun A outer s H vs Q E hr hsp => ⟨_, hb cdv A outer s H (fun cls H' => E cls none H') hr, ?_⟩
 obtain ⟨hl, ι, G, st0, ws, sr, t, q⟩ := hsp
 have hlw : ws.length = ps.length := by rw [← t.length]; exact hl
 refine ⟨ι, G, st0, ws.map some ++ List.replicate (N.length - ws.length) none, start_env t, sr, ?_⟩
 unfold callX at q
 rw [if_pos hlw, ← hlw] at q
 cases e : run (ws.map some ++ List.replicate (N.length - ws.length) none) st0 with
 | stuck => rw [e] at q; exact q
 | ex c st1 =>
  rw [e] at q
  intro H' ι' G' ea cls s' x1 sr1 cl ei
  exact ⟨ea, cls, H', rfl, ExcIn.unwish ei, left_exX (fz := fz) sr x1 sr1 cl q⟩
 | ok fl st1 =>
  rw [e] at q
  intro ι1 G1 H1 x1 sr1
  cases fl with
  | nx Γ1 => exact fun σ1 en1 => left_okX (fz := fz) (w1 := .non) sr x1 sr1 .non q
  | rt w1 => exact fun v r1 => left_okX (fz := fz) sr x1 sr1 r1 q
  | bk Γ1 => exact (show False from q).elim
  | ct Γ1 => exact (show False from q).elim
def sRaise (x : Str) (rr : Runs) : RunS := fun Γ st => (rr Γ st).bind fun ws st' => if ws.length ≤ sizeLine then .ex (.str x) st' else .stuck
theorem pds_raise {x : Str} {C : Addr} {np cpos pos : Pos} {e : Expr} {es : List Expr} {rr : Runs} (hc : X.calm = true) (c : ExCls X.K x C) (hg : Gl X x) (ha : PDA X (e :: es) rr) (hdb : (x == ("__debug__" : Str)) = false)
  (he : starEach (e :: es) X.env = (false, eval e X.env) :: starEach es X.env) (hpl : (backTo cpos (starEach es X.env)).any (·.1) = false) :
  PDS X (.Raise (some (.Call (.Name x np) (e :: es) [] cpos)) none pos) (sRaise x rr) := by
 refine PS.imp (ps_raise hc c hg ha hdb he hpl) fun D σ H h => ?_
 obtain ⟨ι, G, st, Γ, en, sr, q⟩ := h
 refine ⟨ι, G, st, Γ, en, sr, ?_⟩
 unfold sRaise at q
 cases e1 : rr Γ st with
 | stuck => rw [e1] at q; exact q
 | ex c s => rw [e1] at q; exact q
 | ok ws st1 =>
  rw [e1] at q
  intro vs ι1 G1 H1 x1 sr1 r1
  have q1 : wpF X ι st.nxt G (if ws.length ≤ sizeLine then .ex (.str x) st1 else .stuck) D := q
  by_cases hl : ws.length ≤ sizeLine
  ·rw [if_pos hl] at q1
   exact ⟨by rw [r1.length]; exact hl, fun ea s' ei => q1 H1 ι1 G1 ea (.ref C) s' x1 sr1 ⟨x, C, rfl, c.ns, rfl⟩ ei⟩
  ·rw [if_neg hl] at q1; exact q1.elim
def wpF0 (K : PySem.W.Frag) (ι : Nat → Addr) (N : Nat) (G : Hp) (r : R Fl) (D : Ends) : Prop := match r with
 | .ok fl st' => ∀ ι' G' H', Ext ι N G ι' st'.nxt G' → SR K ι' st' G' H' → (match fl with
  | .nx Γ' => ∀ σ', EnvR K ι' st'.nxt G' σ' Γ' → D.nx σ' H'
  | .rt w => ∀ v, RelW K ι' st'.nxt G' v w → D.rt v H'
  | .bk Γ' => ∀ σ', EnvR K ι' st'.nxt G' σ' Γ' → D.bk σ' H'
  | .ct Γ' => ∀ σ', EnvR K ι' st'.nxt G' σ' Γ' → D.ct σ' H')
 | _ => False
def tDS0 (K : PySem.W.Frag) (run : RunS) : TS := fun D σ H => ∃ ι G st Γ, EnvR K ι st.nxt G σ Γ ∧ SR K ι st G H ∧ wpF0 K ι st.nxt G (run Γ st) D
theorem tDS0_tDS {run : RunS} {D : Ends} {σ : St} {H : Hp} (h : tDS0 X.K run D σ H) : tDS X run D σ H := by
 obtain ⟨ι, G, st, Γ, en, sr, q⟩ := h
 refine ⟨ι, G, st, Γ, en, sr, ?_⟩
 cases e : run Γ st with
 | ok fl st' => rw [e] at q; exact q
 | ex c s => rw [e] at q; exact q.elim
 | stuck => rw [e] at q; exact q
def dropI (i : Nat) : R Fl → R Fl
 | .ok (.nx Γ) st => .ok (.nx (Γ.set i none)) st
 | .ok (.bk Γ) st => .ok (.bk (Γ.set i none)) st
 | .ok (.ct Γ) st => .ok (.ct (Γ.set i none)) st
 | .ok (.rt w) st => .ok (.rt w) st
 | _ => .stuck
def sTry (nl i : Nat) (tab : List (Str × Bool)) (rb rs : RunS) : RunS := fun Γ st => match rb Γ st with
 | .ok fl st' => .ok fl st'
 | .ex (.str x) st' => (match tab.lookup x with
  | some true => dropI i (rs ((List.replicate nl none).set i (some (.exn x))) st')
  | some false => .ex (.str x) st'
  | none => .stuck)
 | _ => .stuck
theorem EnvR.drop {K : PySem.W.Frag} {ι : Nat → Addr} {N : Nat} {G : Hp} {σ : St} {Γ : Ga} (h : EnvR K ι N G σ Γ) (i : Nat) : EnvR K ι N G (σ.set i none) (Γ.set i none) := by
 refine ⟨by rw [List.length_set, List.length_set]; exact h.len, fun j u q => ?_⟩
 rw [List.getElem?_set] at q ⊢
 by_cases hij : i = j
 ·rw [if_pos hij] at q
  split at q <;> cases q
 ·rw [if_neg hij] at q ⊢
  exact h.get j u q
theorem pds_try {body suite : List Stmt} {b₀ : Stmt} {x n : Str} {np hpos pos : Pos} {i : Nat} {c : Value} {tab : List (Str × Bool)} {rb rs : RunS} (O : OwnFr X) (hN : X.N.Nodup) (hi : X.N[i]? = some n) (hx : X.env.scope.names.lookup n = some .local) (hg : Gl X x) (hm : X.mg x = some c)
  (ht : ∀ y b, tab.lookup y = some b → ∃ C, PySem.W.nsIn X.K mainGlobals y = some (some (.ref C)) ∧ PySem.W.exmOne X.K (.ref C) c = some b)
  (hb : ∀ pn Φ, PDSs (X.tryB pn Φ) body rb) (hs : ∀ ea, PDSs (X.suite ea) (b₀ :: suite) rs) (hdb : (x == ("__debug__" : Str)) = false) :
  PDS X (.Try body [.ExceptHandler (some (.Name x np)) (some n) (b₀ :: suite) hpos] [] [] pos) (sTry X.N.length i tab rb rs) := by
 refine PS.imp (ps_try (tb := fun pn Φ => tDS (X.tryB pn Φ) rb) (ts := tDS0 X.K rs) O hN hi hx hg hm hb (fun ea => PSs.imp (hs ea) fun D σ H h => tDS0_tDS (X := X.suite ea) h) hdb) fun D σ H h pn => ?_
 obtain ⟨ι, G, st, Γ, en, sr, q⟩ := h
 refine ⟨ι, G, st, Γ, en, sr, ?_⟩
 unfold sTry at q
 cases e1 : rb Γ st with
 | stuck => rw [e1] at q; exact q
 | ok fl st1 => rw [e1] at q; exact q
 | ex c1 st1 =>
  rw [e1] at q
  intro H' ι' G' ea cls s' x1 sr1 cl ei
  obtain ⟨y, C, rfl, ns, rfl⟩ := cl
  refine ⟨ea, .ref C, H', rfl, ExcIn.unwish ei, ?_⟩
  have q1 : wpF X ι st.nxt G (match tab.lookup y with
   | some true => dropI i (rs ((List.replicate X.N.length none).set i (some (.exn y))) st1)
   | some false => .ex (.str y) st1
   | none => .stuck) D := q
  cases e2 : tab.lookup y with
  | none => rw [e2] at q1; exact (show False from q1).elim
  | some b =>
   rw [e2] at q1
   obtain ⟨C', ns', ex⟩ := ht y b e2
   have ns : PySem.W.nsIn X.K mainGlobals y = some (some (.ref C)) := ns
   rw [ns] at ns'
   cases ns'
   refine ⟨b, ex, fun hb' ea2 hn => ?_, fun hb' ea2 s2 ei2 => ?_⟩
   ·subst hb'
    obtain ⟨s2, e3⟩ := SR.laid (K := X.K) (o := .ext (exPh ea2 (.ref C))) sr1 hn
    have en2 : EnvR X.K ι' st1.nxt (upd G' ea2 (.ext (exPh ea2 (.ref C)))) ((List.replicate X.N.length none).set i (some (.ref ea2))) ((List.replicate X.N.length none).set i (some (.exn y))) :=
     EnvR.set (⟨by simp, fun j w e => by rw [List.getElem?_replicate] at e; split at e <;> cases e⟩) i (.exn upd_same ns)
    refine ⟨ι', _, st1, _, en2, s2, ?_⟩
    have q2 : wpF X ι st.nxt G (dropI i (rs ((List.replicate X.N.length none).set i (some (.exn y))) st1)) D := q1
    cases e4 : rs ((List.replicate X.N.length none).set i (some (.exn y))) st1 with
    | stuck => rw [e4] at q2; exact q2
    | ex c2 s2 => rw [e4] at q2; exact q2
    | ok fl st2 =>
     rw [e4] at q2
     intro ι2 G2 H2 x2 sr2
     have x3 := (x1.trans e3).trans x2
     cases fl with
     | nx Γ2 => exact fun σ2 en3 => q2 ι2 G2 H2 x3 sr2 (σ2.set i none) (en3.drop i)
     | bk Γ2 => exact fun σ2 en3 => q2 ι2 G2 H2 x3 sr2 (σ2.set i none) (en3.drop i)
     | ct Γ2 => exact fun σ2 en3 => q2 ι2 G2 H2 x3 sr2 (σ2.set i none) (en3.drop i)
     | rt w2 => exact fun v r => q2 ι2 G2 H2 x3 sr2 v r
   ·subst hb'
    exact q1 H' ι' G' ea2 (.ref C) s2 x1 sr1 ⟨y, C, rfl, ns, rfl⟩ ei2
end
end DL
namespace DL
open PySem PySem.Spec PyProof.Rows L2
section
variable {X : Cx}
def tFmt (te : TE) : TE := fun σ H Q => te σ H fun v H1 => (∃ x, v = .str x ∧ x.length ≤ sizeLine ∧ Q (.str x) H1) ∨ (∃ i, v = .int i ∧ i.natAbs.log2 < 1920 ∧ Q (.str (toString i)) H1)
theorem pe_fmt {e : Expr} {te : TE} {pos : Pos} (he : PE X e te) : PE X (.FormattedValue e (-1) none pos) (tFmt te) := by
 intro pins s σ H Q I h
 refine wpAny_FormattedValue_plain (thn (he pins s σ H _ I h) fun u s1 ⟨v, H1, I1, r, q⟩ => ?_)
 rcases q with ⟨x, rfl, hl, q⟩ | ⟨i, rfl, hl, q⟩
 ·obtain ⟨t, rfl⟩ := (show ∃ t, u = Value.str x t from r)
  exact formatField_str (fun t' tk => ⟨.str x, H1, I1.tok _, ⟨t', rfl⟩, q⟩) hl
 ·obtain ⟨t, rfl⟩ := (show ∃ t, u = Value.int i t from r)
  exact wpAny_formatField_int hl ⟨.str (toString i), H1, I1.tok _, ⟨_, rfl⟩, q⟩
def opFmt : W → S → R W := fun w st => match w with
 | .str x => if x.length ≤ sizeLine then .ok (.str x) st else .stuck
 | .int i => if i.natAbs.log2 < 1920 then .ok (.str (toString i)) st else .stuck
 | _ => .stuck
theorem pd_fmt {e : Expr} {ra : Run} {pos : Pos} (he : PD X e ra) : PD X (.FormattedValue e (-1) none pos) (run1 ra opFmt) := by
 refine PE.imp (pe_fmt he) fun σ H Q ⟨ι, G, st, Γ, en, sr, q⟩ => ⟨ι, G, st, Γ, en, sr, wpW.bind q fun w st1 v ι1 G1 H1 _ e1 sr1 r1 q1 => ?_⟩
 unfold opFmt at q1
 cases w with
 | str x =>
  cases r1
  have q2 : wpW X ι1 st1.nxt G1 (if x.length ≤ sizeLine then .ok (.str x) st1 else .stuck) Q := q1
  by_cases hl : x.length ≤ sizeLine
  ·rw [if_pos hl] at q2
   exact .inl ⟨x, rfl, hl, q2 _ ι1 G1 H1 (Ext.refl _ _ _) sr1 (.str x)⟩
  ·rw [if_neg hl] at q2; exact q2.elim
 | int i =>
  cases r1
  have q2 : wpW X ι1 st1.nxt G1 (if i.natAbs.log2 < 1920 then .ok (.str (toString i)) st1 else .stuck) Q := q1
  by_cases hl : i.natAbs.log2 < 1920
  ·rw [if_pos hl] at q2
   exact .inr ⟨i, rfl, hl, q2 _ ι1 G1 H1 (Ext.refl _ _ _) sr1 (.str _)⟩
  ·rw [if_neg hl] at q2; exact q2.elim
 | _ => exact (show False from q1).elim
def runJ : List Run → Str → Run
 | [], out => fun _ st => if out.length ≤ sizeLine then .ok (.str out) st else .stuck
 | r :: rs, out => fun Γ st => (r Γ st).bind fun w st1 => match w with
  | .str y => if (out ++ y).length ≤ sizeLine then runJ rs (out ++ y) Γ st1 else .stuck
  | _ => .stuck
theorem pj {es : List Expr} {rs : List Run} (h : Paired (fun e r => PD X e r) es rs) : ∀ (out : Str) (pins : List (Addr × Obj)) (s : Shared) (σ : St) (H : Hp) (Q : VK), Inv X pins σ H s → tD X (runJ rs out) σ H Q →
  wpAny (model X.prog X.w) X.A (joinParts out (es.map fun e => eval e X.env)) (EP X pins σ Q) X.xe s := by
 induction h with
 | nil =>
  intro out pins s σ H Q I ⟨ι, G, st, Γ, en, sr, q⟩
  have q2 : wpW X ι st.nxt G (if out.length ≤ sizeLine then .ok (.str out) st else .stuck) Q := q
  by_cases hl : out.length ≤ sizeLine
  ·rw [if_pos hl] at q2
   exact joinParts_nil ⟨.str out, H, I.tok _, ⟨_, rfl⟩, q2 _ ι G H (Ext.refl _ _ _) sr (.str out)⟩ hl
  ·rw [if_neg hl] at q2; exact q2.elim
 | @cons e r es rs he _ ih =>
  intro out pins s σ H Q I ⟨ι, G, st, Γ, en, sr, q⟩
  refine joinParts_cons ?_
  have go : tD X r σ H fun v H1 => ∃ y, v = .str y ∧ (out ++ y).length ≤ sizeLine ∧ tD X (runJ rs (out ++ y)) σ H1 Q := by
   refine ⟨ι, G, st, Γ, en, sr, wpW.bind q fun w st1 v ι1 G1 H1 _ e1 sr1 r1 q1 => ?_⟩
   cases w with
   | str y =>
    cases r1
    have q2 : wpW X ι1 st1.nxt G1 (if (out ++ y).length ≤ sizeLine then runJ rs (out ++ y) Γ st1 else .stuck) Q := q1
    by_cases hl : (out ++ y).length ≤ sizeLine
    ·rw [if_pos hl] at q2
     exact ⟨y, rfl, hl, ι1, G1, st1, Γ, en.mono e1, sr1, q2⟩
    ·rw [if_neg hl] at q2; exact q2.elim
   | _ => exact (show False from q1).elim
  refine thn (he pins s σ H _ I go) fun u s1 ⟨v, H1, I1, rv, y, ev, hl, q1⟩ => ?_
  subst ev
  obtain ⟨t, rfl⟩ := (show ∃ t, u = Value.str y t from rv)
  exact ⟨hl, ih (out ++ y) pins s1 σ H1 Q I1 q1⟩
theorem pd_joined {a b : Expr} {es : List Expr} {rs : List Run} {pos : Pos} (h : Paired (fun e r => PD X e r) (a :: b :: es) rs) (hm : evalEach (a :: b :: es) X.env = (a :: b :: es).map fun e => eval e X.env) : PD X (.JoinedStr (a :: b :: es) pos) (runJ rs Str.empty) := by
 intro pins s σ H Q I q
 have hm' : eval a X.env :: eval b X.env :: evalEach es X.env = (a :: b :: es).map fun e => eval e X.env := hm
 refine JoinedStr_many ?_
 rw [hm']
 exact pj h Str.empty pins s σ H Q I q
theorem evalEach_map : ∀ (es : List Expr) (env : Env), evalEach es env = es.map fun e => eval e env
 | [], _ => rfl
 | e :: es, env => by
  show eval e env :: evalEach es env = _
  rw [evalEach_map es env]; rfl
def opIsx (tab : List (Str × Bool)) : W → S → R W := fun w st => match w with
 | .exn x => (match tab.lookup x with
  | some b => .ok (.bl b) st
  | none => .stuck)
 | _ => .stuck
theorem call_isx : CallR X (.builtin "isinstance") (fun xs H Q => ∃ e C vc c b, xs = [.ref e, vc] ∧ RelV vc c ∧ (∀ u, RelV vc u → u = c) ∧ H e = some (.ext (exPh e (.ref C))) ∧ ExAt X.K C ∧ PySem.W.kitOne X.K (.ref C) c = some b ∧ Q (.bl b) H) := by
 intro pins s σ H xs us Q I r ⟨e, C, vc, c, b, ex, rc, un, he, F, k, q⟩
 subst ex
 match us, r with
 | [u1, u2], .cons r1 (.cons r2 .nil) =>
  cases (show u1 = Value.ref e from r1)
  cases un u2 r2
  exact isinst_ex I he F k fun tk => ⟨.bl b, H, I.tok _, rfl, q⟩
theorem pd_isx {a : Expr} {y : Str} {p p2 pos : Pos} {ra : Run} {tab : List (Str × Bool)} {vc : V} {c : Value} (hg : Gl X "isinstance") (hm : X.mg "isinstance" = none) (ha : PD X a ra) (hy : PE X (.Name y p2) (tC vc)) (rc : RelV vc c) (un : ∀ u, RelV vc u → u = c)
  (ht : ∀ x b, tab.lookup x = some b → ∃ C, PySem.W.nsIn X.K mainGlobals x = some (some (.ref C)) ∧ ExAt X.K C ∧ PySem.W.kitOne X.K (.ref C) c = some b)
  (hs : starEach [a, .Name y p2] X.env = (false, eval a X.env) :: starEach [.Name y p2] X.env) (hs2 : starEach [.Name y p2] X.env = (false, eval (.Name y p2) X.env) :: starEach [] X.env) (hpl : (backTo pos (starEach [.Name y p2] X.env)).any (·.1) = false) :
  PD X (.Call (.Name "isinstance" p) [a, .Name y p2] [] pos) (run1 ra (opIsx tab)) := by
 refine PE.imp (pe_callB call_isx hg hm (by decide +kernel) (pa_cons ha (pa_cons hy pa_nil hs2) hs) (by decide) (by decide) hs hpl) fun σ H Q ⟨ι, G, st, Γ, en, sr, q⟩ => ?_
 refine ⟨ι, G, st, Γ, en, sr, wpW.bind q fun w st1 v ι1 G1 H1 _ e1 sr1 r1 q1 => ?_⟩
 unfold opIsx at q1
 cases w with
 | exn x =>
  cases r1 with
  | @exn e C _ hG ns =>
   have q2 : wpW X ι1 st1.nxt G1 (match tab.lookup x with
    | some b => .ok (.bl b) st1
    | none => .stuck) Q := q1
   cases e2 : tab.lookup x with
   | none => rw [e2] at q2; exact (show False from q2).elim
   | some b =>
    rw [e2] at q2
    obtain ⟨C', ns', F, k⟩ := ht x b e2
    rw [ns] at ns'; cases ns'
    exact ⟨e, C, vc, c, b, rfl, rc, un, sr1.sub _ _ hG, F, k, q2 (.bl b) ι1 G1 H1 (Ext.refl _ _ _) sr1 (.bl b)⟩
 | _ => exact (show False from q1).elim
end
end DL
namespace DL
open PySem PySem.Spec PyProof.Rows L2
section
variable {X : Cx}
def noCall0 : Expr → Bool
 | .Call _ [] [] _ => false
 | _ => true
theorem base_plain {o : Expr} {m : Str} {env : Env} {w : Sem Value} (h : noCall0 o = true) : attributeBase o m env w = w := by
 unfold attributeBase
 split
 ·exact absurd (show false = true from h) Bool.false_ne_true
 ·rfl
theorem tyV_kind {ι : Nat → Addr} {G H : Hp} {st : S} {v : V} {w : W} {T : String} (sr : SR X.K ι st G H) (r : RelW X.K ι st.nxt G v w) (k : kindW st w = some T) (hT : T = "str" ∨ T = "list" ∨ T = "dict") : tyV X.K T v H := by
 cases r with
 | non => cases k; exact absurd hT (by decide)
 | bl b => cases k; exact absurd hT (by decide)
 | int i => cases k; exact absurd hT (by decide)
 | str x => cases k; exact rfl
 | ty n => cases k
 | tup s t => cases k; exact absurd hT (by decide)
 | lst s t => cases k; exact .inl ⟨rfl, _, sr.sub.seq s⟩
 | dct s l t => cases k; exact .inr (.inr (.inl ⟨rfl, .inl ⟨_, sr.sub _ _ s⟩⟩))
 | exn s n => cases k
 | @ref n hn =>
  have k : MO.kind (st.mu n) = some T := k
  cases e : st.mu n with
  | none => rw [e] at k; cases k
  | some o =>
   rw [e] at k
   obtain ⟨_, _, h3⟩ := sr.live n o e
   cases o with
   | lst zs => cases k; obtain ⟨vs, qv, _⟩ := h3; exact .inl ⟨rfl, vs, SqL.of qv⟩
   | dct ks zs => cases k; obtain ⟨xs, qv, _, _⟩ := h3; exact .inr (.inr (.inl ⟨rfl, .inl ⟨_, qv⟩⟩))
abbrev OpM := W → List W → S → R W
def rMt (X : Cx) (op : OpM) : V → List V → Hp → VK → Prop := fun x xs H Q => ∃ ι G st w ws, SR X.K ι st G H ∧ RelW X.K ι st.nxt G x w ∧ RelWs X.K ι st.nxt G xs ws ∧ wpW X ι st.nxt G (op w ws st) Q
def runM (T : String) (ro : Run) (rr : Runs) (op : OpM) : Run := fun Γ st => (ro Γ st).bind fun w st1 => if kindW st1 w = some T then (rr Γ st1).bind fun ws st2 => op w ws st2 else .stuck
theorem runM_go {T : String} {ro : Run} {rr : Runs} {op : OpM} {σ : St} {H : Hp} {Q : VK} (hT : T = "str" ∨ T = "list" ∨ T = "dict") (h : tD X (runM T ro rr op) σ H Q) :
  tD X ro σ H fun x H1 => tyV X.K T x H1 ∧ tDA X rr σ H1 fun xs H2 => rMt X op x xs H2 Q := by
 obtain ⟨ι, G, st, Γ, en, sr, q⟩ := h
 refine ⟨ι, G, st, Γ, en, sr, wpW.bind q fun w st1 v ι1 G1 H1 _ e1 sr1 r1 q1 => ?_⟩
 by_cases hk : kindW st1 w = some T
 ·rw [if_pos hk] at q1
  refine ⟨tyV_kind sr1 r1 hk hT, ι1, G1, st1, Γ, en.mono e1, sr1, ?_⟩
  cases e2 : rr Γ st1 with
  | stuck => rw [e2] at q1; exact q1
  | ex c s => rw [e2] at q1; exact q1
  | ok ws st2 =>
   rw [e2] at q1
   intro vs ι2 G2 H2 x2 sr2 r2
   exact ⟨ι2, G2, st2, w, ws, sr2, r1.mono x2, r2, wpW.later x2 (show wpW X ι1 st1.nxt G1 (op w ws st2) Q from q1)⟩
 ·rw [if_neg hk] at q1; exact q1.elim
theorem pd_mt {o e : Expr} {es : List Expr} {m : Str} {apos cpos : Pos} {T id : String} {ro : Run} {rr : Runs} {op : OpM} (hT : T = "str" ∨ T = "list" ∨ T = "dict") (pa : PlainAttrs T) (slot : Slot T m id) (hty : typeOf (.builtin id) = pure (.type "method_descriptor")) (hm : MtR X id (rMt X op)) (ho : PD X o ro) (ha : PDA X (e :: es) rr) (hb : noCall0 o = true)
  (hfew : ((backTo cpos (starEach (e :: es) X.env)).all (fun x => !x.1) && (backToKw cpos (keywordEach [] X.env)).all (fun x => x.1.isSome)
   && decide ((e :: es).length + ([] : List Keyword).length + (if ([] : List Keyword).isEmpty then 0 else 1) < 30)) = true)
  (hline : (apos.endLine == cpos.line) = true) (hs : starEach (e :: es) X.env = (false, eval e X.env) :: starEach es X.env) (hplain : (backTo cpos (starEach es X.env)).any (·.1) = false) :
  PD X (.Call (.Attribute o m apos) (e :: es) [] cpos) (runM T ro rr op) :=
 PE.imp (pe_bm pa slot hty hm ho ha (base_plain hb) hfew hline hs hplain) fun _ _ _ h => runM_go hT h
theorem pd_mt0 {o : Expr} {m : Str} {apos cpos : Pos} {T id : String} {ro : Run} {op : OpM} (hT : T = "str" ∨ T = "list" ∨ T = "dict") (pa : PlainAttrs T) (slot : Slot T m id) (hty : typeOf (.builtin id) = pure (.type "method_descriptor")) (hm : MtR X id (rMt X op)) (ho : PD X o ro) (hb : noCall0 o = true) (hline : (apos.endLine == cpos.line) = true) :
  PD X (.Call (.Attribute o m apos) [] [] cpos) (runM T ro runsNil op) := by
 refine PE.imp (pe_bm0 pa slot hty hm ho (base_plain hb) hline) fun σ H Q h => ?_
 obtain ⟨ι, G, st, Γ, en, sr, q⟩ := runM_go hT h
 refine ⟨ι, G, st, Γ, en, sr, wpW.mono q fun v H1 ⟨h1, ι1, G1, st1, Γ1, _, sr1, q1⟩ => ⟨h1, ?_⟩⟩
 exact q1 [] ι1 G1 H1 (Ext.refl _ _ _) sr1 .nil
def opAppend : OpM := fun w ws st => match w, ws with
 | .ref n, [y] => (match st.mu n with
  | some (.lst xs) => if xs.length < sizeLine then .ok .non (st.put n (.lst (xs ++ [y]))) else .stuck
  | _ => .stuck)
 | _, _ => .stuck
theorem mw_append : MtR X "list.append" (rMt X opAppend) := by
 intro pins s σ H x xs v us Q I rx rv ⟨ι, G, st, w, ws, sr, r, t, q⟩
 unfold opAppend at q
 split at q
 ·rename_i n y
  cases t with
  | @cons x1 _ xs1 _ r1 t1 =>
   cases t1
   cases r with
   | ref hn =>
    have q : wpW X ι st.nxt G (match st.mu n with
     | some (.lst xs) => if xs.length < sizeLine then .ok .non (st.put n (.lst (xs ++ [y]))) else .stuck
     | _ => .stuck) Q := q
    cases e : st.mu n with
    | none => rw [e] at q; exact (show False from q).elim
    | some o =>
     cases o with
     | dct ks zs => rw [e] at q; exact (show False from q).elim
     | lst zs =>
      rw [e] at q
      have q : wpW X ι st.nxt G (if zs.length < sizeLine then .ok .non (st.put n (.lst (zs ++ [y]))) else .stuck) Q := q
      by_cases hl : zs.length < sizeLine
      ·rw [if_pos hl] at q
       obtain ⟨_, _, xs2, hH, t2⟩ := sr.live n _ e
       refine mt_append pins s σ H _ _ v us Q I rx rv ⟨ι n, xs2, x1, rfl, rfl, hH, by rw [t2.length]; exact hl, ?_⟩
       exact q .non ι G _ (Ext.refl _ _ _) (sr.putL e (t2.append (.cons r1 .nil))) .non
      ·rw [if_neg hl] at q; exact q.elim
 ·exact (show False from q).elim
def opUpper : OpM := fun w ws st => match w, ws with
 | .str x, [] => if x.length ≤ 5592405 then .ok (.str (PySem.Txt.upper x)) st else .stuck
 | _, _ => .stuck
theorem mw_upper : MtR X "str.upper" (rMt X opUpper) := by
 intro pins s σ H x xs v us Q I rx rv ⟨ι, G, st, w, ws, sr, r, t, q⟩
 unfold opUpper at q
 split at q
 ·rename_i z
  cases t
  cases rv
  cases r
  obtain ⟨tk, rfl⟩ := (show ∃ t, v = Value.str z t from rx)
  by_cases hl : z.length ≤ 5592405
  ·rw [if_pos hl] at q
   exact SCL.upper hl fun _ => ⟨.str _, H, I.tok _, ⟨_, rfl⟩, q _ ι G H (Ext.refl _ _ _) sr (.str _)⟩
  ·rw [if_neg hl] at q; exact q.elim
 ·exact (show False from q).elim
def strsW : List W → Option (List Str)
 | [] => some []
 | .str x :: ws => (strsW ws).map (x :: ·)
 | _ => none
theorem strsW_rel {K : PySem.W.Frag} {ι : Nat → Addr} {N : Nat} {G : Hp} : ∀ {xs : List V} {ws : List W} {us : List Value} {ys : List Str}, RelWs K ι N G xs ws → Vals xs us → strsW ws = some ys → StrsAre us ys
 | _, _, _, _, .nil, .nil, h => by cases h; exact .nil
 | _, _, _, _, .cons r t, .cons rv tv, h => by
  rename_i x w xs ws u us
  cases w with
  | str z =>
   have h : (strsW ws).map (z :: ·) = some _ := h
   cases e : strsW ws with
   | none => rw [e] at h; cases h
   | some zs =>
    rw [e] at h
    cases h
    cases r
    have ih := strsW_rel t tv e
    obtain ⟨tk, e2⟩ := (show ∃ t, u = Value.str z t from rv)
    cases e2
    exact .cons z tk ih
  | _ => cases h
def opJoin : OpM := fun w ws st => match w, ws with
 | .str x, [l] => (match itemsOf st l with
  | some zs => (match strsW zs with
   | some ys => if x.length ≤ 16 ∧ (ys.map (·.length)).sum + ys.length ≤ 1048576 then .ok (.str (PySem.Txt.join x ys)) st else .stuck
   | none => .stuck)
  | none => .stuck)
 | _, _ => .stuck
theorem mw_join : MtR X "str.join" (rMt X opJoin) := by
 intro pins s σ H x xs v us Q I rx rv ⟨ι, G, st, w, ws, sr, r, t, q⟩
 unfold opJoin at q
 split at q
 ·rename_i z l
  cases t with
  | @cons x1 _ xs1 _ r1 t1 =>
   cases t1
   cases r
   obtain ⟨tk, ev⟩ := (show ∃ t, v = Value.str z t from rx)
   subst ev
   obtain ⟨u1, eu, ru⟩ := rv.one
   subst eu
   have q : wpW X ι st.nxt G (match itemsOf st l with
    | some zs => (match strsW zs with
     | some ys => if z.length ≤ 16 ∧ (ys.map (·.length)).sum + ys.length ≤ 1048576 then .ok (.str (PySem.Txt.join z ys)) st else .stuck
     | none => .stuck)
    | none => .stuck) Q := q
   cases e1 : itemsOf st l with
   | none => rw [e1] at q; exact (show False from q).elim
   | some zs =>
    rw [e1] at q
    have q : wpW X ι st.nxt G (match strsW zs with
     | some ys => if z.length ≤ 16 ∧ (ys.map (·.length)).sum + ys.length ≤ 1048576 then .ok (.str (PySem.Txt.join z ys)) st else .stuck
     | none => .stuck) Q := q
    cases e2 : strsW zs with
    | none => rw [e2] at q; exact (show False from q).elim
    | some ys =>
     rw [e2] at q
     have q : wpW X ι st.nxt G (if z.length ≤ 16 ∧ (ys.map (·.length)).sum + ys.length ≤ 1048576 then .ok (.str (PySem.Txt.join z ys)) st else .stuck) Q := q
     by_cases hl : z.length ≤ 16 ∧ (ys.map (·.length)).sum + ys.length ≤ 1048576
     ·rw [if_pos hl] at q
      have fin : ∀ t' k, EP X pins σ Q (.str (PySem.Txt.join z ys) t') { s with toks := k } := fun t' k => ⟨.str _, H, I.tok _, ⟨t', rfl⟩, q _ ι G H (Ext.refl _ _ _) sr (.str _)⟩
      have lst : ∀ {a : Addr} {vs : List V}, x1 = .ref a → SqL X.K H a vs → RelWs X.K ι st.nxt G vs zs → wpAny (model X.prog X.w) X.A (call (.builtin "str.join") [.str z tk, u1]) (EP X pins σ Q) X.xe s := by
       intro a vs ex hq tt
       subst ex
       cases (show u1 = Value.ref a from ru)
       obtain ⟨its, tv, pl, _⟩ := I.list hq
       exact join_listW pl.isList (by simpa using strsW_rel tt tv e2) hl.1 hl.2 fin
      cases r1 with
      | lst sq tt => cases e1; exact lst rfl (sr.sub.seq sq) tt
      | tup sq tt =>
       cases e1
       cases (show u1 = Value.ref _ from ru)
       obtain ⟨its, tv, pl, _⟩ := I.tuple (sqT_same sr.sub sq)
       exact join_tupleW pl (by simpa using strsW_rel tt tv e2) hl.1 hl.2 fin
      | @ref n hn =>
       obtain ⟨vs, hq, tt⟩ := items_live sr e1
       exact lst rfl hq tt
      | _ => cases e1
     ·rw [if_neg hl] at q; exact q.elim
 ·exact (show False from q).elim
structure Mth (X : Cx) (m : Str) (T id : String) (op : OpM) : Prop where
 hT : T = "str" ∨ T = "list" ∨ T = "dict"
 pa : PlainAttrs T
 slot : Slot T m id
 hty : typeOf (.builtin id) = pure (.type "method_descriptor")
 hm : MtR X id (rMt X op)
theorem mth_upper : Mth X "upper" "str" "str.upper" opUpper := ⟨.inl rfl, F.plainAttrs_str, F.slot_str_upper, F.type_str_upper, mw_upper⟩
theorem mth_join : Mth X "join" "str" "str.join" opJoin := ⟨.inl rfl, F.plainAttrs_str, F.slot_str_join, F.type_str_join, mw_join⟩
theorem mth_append : Mth X "append" "list" "list.append" opAppend := ⟨.inr (.inl rfl), F.plainAttrs_list, F.slot_list_append, F.type_list_append, mw_append⟩
end
end DL
namespace DL
open PySem PySem.Spec PyProof.Rows L2
section
variable {X : Cx}
def flatsW : List W → Option (List V)
 | [] => some []
 | w :: ws => match flatW w, flatsW ws with
  | some v, some vs => some (v :: vs)
  | _, _ => none
theorem flatsW_rel {K : PySem.W.Frag} {ι : Nat → Addr} {N : Nat} {G : Hp} : ∀ {vs vs' : List V} {ws : List W}, RelWs K ι N G vs ws → flatsW ws = some vs' → vs = vs' ∧ vs.all flatV = true
 | _, _, _, .nil, h => by cases h; exact ⟨rfl, rfl⟩
 | _, _, _, .cons (w := w) (ws := ws) r t, h => by
  unfold flatsW at h
  cases e1 : flatW w with
  | none => rw [e1] at h; cases h
  | some v1 =>
   cases e2 : flatsW ws with
   | none => rw [e1, e2] at h; cases h
   | some vs1 =>
    rw [e1, e2] at h
    cases h
    obtain ⟨rfl, f1⟩ := flatW_rel r e1
    obtain ⟨rfl, f2⟩ := flatsW_rel t e2
    exact ⟨rfl, by rw [List.all_cons, f1, f2]; rfl⟩
theorem count_eqU {x : V} : ∀ {xs : List V} {us : List Value}, Vals xs us → xs.all flatV = true → us.countP (eqU x) = xs.countP fun y => eqV y x
 | _, _, .nil, _ => rfl
 | y :: xs, u :: us, .cons r t, f => by
  rw [List.all_cons, Bool.and_eq_true] at f
  rw [List.countP_cons, List.countP_cons, eqU_of r f.1, count_eqU t f.2]
def listOf (st : S) : W → Option (List W)
 | .lst xs => some xs
 | .ref n => MO.items (st.mu n)
 | _ => none
theorem listOf_rel {ι : Nat → Addr} {G H : Hp} {st : S} {v : V} {w : W} {zs : List W} (sr : SR X.K ι st G H) (r : RelW X.K ι st.nxt G v w) (h : listOf st w = some zs) : ∃ a xs, v = .ref a ∧ SqL X.K H a xs ∧ RelWs X.K ι st.nxt G xs zs := by
 cases r with
 | lst s t => cases h; exact ⟨_, _, rfl, sr.sub.seq s, t⟩
 | ref hn => obtain ⟨xs, h1, h2⟩ := items_live sr h; exact ⟨_, xs, rfl, h1, h2⟩
 | _ => cases h
def flatArgs (st : S) (w : W) (ws : List W) : Option (List V × V) := match ws with
 | [y] => (match listOf st w with
  | some zs => (match flatsW zs, flatW y with
   | some vs, some v => some (vs, v)
   | _, _ => none)
  | none => none)
 | _ => none
def opCount : OpM := fun w ws st => match flatArgs st w ws with
 | some (vs, v) => .ok (.int (vs.countP fun y => eqV y v : Nat)) st
 | none => .stuck
theorem flatArgs_rel {ι : Nat → Addr} {G H : Hp} {st : S} {x : V} {xs : List V} {w : W} {ws : List W} {vs : List V} {v : V} (sr : SR X.K ι st G H) (r : RelW X.K ι st.nxt G x w) (t : RelWs X.K ι st.nxt G xs ws) (h : flatArgs st w ws = some (vs, v)) :
  ∃ a, x = .ref a ∧ xs = [v] ∧ SqL X.K H a vs ∧ vs.all flatV = true ∧ flatV v = true := by
 unfold flatArgs at h
 split at h
 ·rename_i y
  cases t with
  | @cons x1 _ xs1 _ r1 t1 =>
   cases t1
   cases e1 : listOf st w with
   | none => rw [e1] at h; cases h
   | some zs =>
    rw [e1] at h
    have h : (match flatsW zs, flatW y with
     | some vs, some v => some (vs, v)
     | _, _ => none) = some (vs, v) := h
    cases e2 : flatsW zs with
    | none => rw [e2] at h; cases h
    | some vs1 =>
     cases e3 : flatW y with
     | none => rw [e2, e3] at h; cases h
     | some v1 =>
      rw [e2, e3] at h
      cases h
      obtain ⟨a, ys, rfl, hq, tt⟩ := listOf_rel sr r e1
      obtain ⟨rfl, f1⟩ := flatsW_rel tt e2
      obtain ⟨rfl, f2⟩ := flatW_rel r1 e3
      exact ⟨a, rfl, rfl, hq, f1, f2⟩
 ·cases h
theorem mw_count : MtR X "list.count" (rMt X opCount) := by
 intro pins s σ H x xs v us Q I rx rv ⟨ι, G, st, w, ws, sr, r, t, q⟩
 unfold opCount at q
 cases e : flatArgs st w ws with
 | none => rw [e] at q; exact (show False from q).elim
 | some p =>
  obtain ⟨vs, y⟩ := p
  rw [e] at q
  obtain ⟨a, rfl, rfl, hq, fs, fy⟩ := flatArgs_rel sr r t e
  cases (show v = Value.ref a from rx)
  obtain ⟨u, rfl, ru⟩ := rv.one
  obtain ⟨its, tv, ⟨⟨oc, od, odt, osl⟩, n, ho, hc, hd, hs⟩, _⟩ := I.list hq
  dsimp only at hc hd hs
  subst hc hd hs
  refine call_meets F.slot_list_count ⟨_, ho, rfl⟩ F.entry_list_count (F.args_list_count_2 _ _) (SeqAt.list_countAt a its.toArray n none osl u (eqU y)) ⟨ho, fun w' hw => mem_eqAt ru fy tv fs w' (by simpa using hw), ?_⟩
  refine ⟨.int _, H, I.tok _, ⟨_, rfl⟩, ?_⟩
  have e2 : its.toArray.toList.countP (eqU y) = vs.countP fun z => eqV z y := by rw [show its.toArray.toList = its by simp]; exact count_eqU tv fs
  rw [e2]
  exact q _ ι G H (Ext.refl _ _ _) sr (.int _)
def firstV (v : V) : List V → Option Nat
 | [] => none
 | x :: xs => if eqV x v then some 0 else (firstV v xs).map (· + 1)
theorem firstV_ok {v : V} : ∀ {xs : List V} {us : List Value} {j : Nat}, Vals xs us → xs.all flatV = true → firstV v xs = some j → ∃ h : j < us.length, eqU v us[j] = true ∧ ∀ m (hm : m < us.length), m < j → eqU v us[m] = false
 | _, _, _, .nil, _, h => by cases h
 | x :: xs, u :: us, j, .cons r t, f, h => by
  rw [List.all_cons, Bool.and_eq_true] at f
  unfold firstV at h
  by_cases e : eqV x v = true
  ·rw [if_pos e] at h
   cases h
   exact ⟨Nat.zero_lt_succ _, by show eqU v u = true; rw [eqU_of r f.1]; exact e, fun m _ hm => absurd hm (Nat.not_lt_zero _)⟩
  ·rw [if_neg e] at h
   cases e2 : firstV v xs with
   | none => rw [e2] at h; cases h
   | some j' =>
    rw [e2] at h
    cases h
    obtain ⟨h1, h2, h3⟩ := firstV_ok t f.2 e2
    refine ⟨Nat.succ_lt_succ h1, h2, fun m hm hlt => ?_⟩
    cases m with
    | zero => show eqU v u = false; rw [eqU_of r f.1]; simpa using e
    | succ m => exact h3 m (Nat.lt_of_succ_lt_succ hm) (Nat.lt_of_succ_lt_succ hlt)
def opIndex : OpM := fun w ws st => match flatArgs st w ws with
 | some (vs, v) => (match firstV v vs with
  | some j => .ok (.int (j : Nat)) st
  | none => .stuck)
 | none => .stuck
theorem mw_index : MtR X "list.index" (rMt X opIndex) := by
 intro pins s σ H x xs v us Q I rx rv ⟨ι, G, st, w, ws, sr, r, t, q⟩
 unfold opIndex at q
 cases e : flatArgs st w ws with
 | none => rw [e] at q; exact (show False from q).elim
 | some p =>
  obtain ⟨vs, y⟩ := p
  rw [e] at q
  have q : wpW X ι st.nxt G (match firstV y vs with
   | some j => .ok (.int (j : Nat)) st
   | none => .stuck) Q := q
  cases e2 : firstV y vs with
  | none => rw [e2] at q; exact (show False from q).elim
  | some j =>
   rw [e2] at q
   obtain ⟨a, rfl, rfl, hq, fs, fy⟩ := flatArgs_rel sr r t e
   cases (show v = Value.ref a from rx)
   obtain ⟨u, rfl, ru⟩ := rv.one
   obtain ⟨its, tv, ⟨⟨oc, od, odt, osl⟩, n, ho, hc, hd, hs⟩, hz⟩ := I.list hq
   dsimp only at hc hd hs
   subst hc hd hs
   obtain ⟨h1, h2, h3⟩ := firstV_ok tv fs e2
   have hl : its.length ≤ sizeLine := by rw [← tv.length]; exact hz
   have hb : (sizeLine : Nat) < 2 ^ 62 := by decide
   refine call_meets F.slot_list_index ⟨_, ho, rfl⟩ F.entry_list_index (F.args_list_index_2 _ _) (SeqAt.list_indexAt a its.toArray n none osl u (eqU y) j (by simpa using h1) (by omega) (by simpa using h2) (fun m hm hlt => by simpa using h3 m (by simpa using hm) hlt)) ⟨ho, fun w' hw => mem_eqAt ru fy tv fs w' (by simpa using hw), ?_⟩
   exact ⟨.int _, H, I.tok _, ⟨_, rfl⟩, q _ ι G H (Ext.refl _ _ _) sr (.int _)⟩
theorem mth_index : Mth X "index" "list" "list.index" opIndex := ⟨.inr (.inl rfl), F.plainAttrs_list, F.slot_list_index, F.type_list_index, mw_index⟩
theorem mth_count : Mth X "count" "list" "list.count" opCount := ⟨.inr (.inl rfl), F.plainAttrs_list, F.slot_list_count, F.type_list_count, mw_count⟩
end
end DL
namespace DL
open PySem PySem.Spec PyProof.Rows L2
theorem list_extendAt (l : Addr) (items : Array Value) (n : Nat) (b : Addr) (items2 : Array Value) (n2 : Nat) (sl2 : Array (Option Value)) (hc0 : ¬(!items.isEmpty && Builtin.List.listTooLong (items.size + items2.size)) = true) (hc1 : items.size ≤ sizeLine) (hs2 : items.size + items2.size ≤ sizeLine + 1) :
  Meets (Builtin.«list.extend» ⟨[.ref l, .ref b], []⟩) (fun _ R s => s.heap.get? l = some { cls := .type "list", dict := none, data := .seq items n, slots := #[] } ∧ s.heap.get? b = some { cls := .type "list", dict := none, data := .seq items2 n2, slots := sl2 } ∧
   R (.ok (.ret Value.none)) { s with heap := s.heap.update l (Obj.mapSeq fun x => x ++ items2), toks := s.toks }) :=
 .of_wp fun prog w A R s h => by
  obtain ⟨hp, g, d, tk, os⟩ := s; obtain ⟨hl, hb, h⟩ := h; have f1 := AutoSeq1.idx_int; have f2 := AutoSeq1.sub_tuple_tuple; have f3 := AutoSeq1.sub_list_list; have f4 := AutoSeq1.sub_tuple_list; have f5 := AutoSeq1.sub_list_tuple
  have hz' : (items ++ items2).size ≤ sizeLine + 1 := by rw [Array.size_append]; exact hs2
  wp_walk using (wpAny_updateSeq hl rfl (hz := hc1) (_hz' := hz')), AutoSeq1.wpAny_loadPart' hl, AutoSeq1.wpAny_loadPart' hb
  exact ⟨_, rfl, h⟩
section
variable {X : Cx}
def opExtend : OpM := fun w ws st => match w, ws with
 | .ref n, [l] => (match st.mu n, listOf st l with
  | some (.lst xs), some zs => if xs.length + zs.length ≤ sizeLine then .ok .non (st.put n (.lst (xs ++ zs))) else .stuck
  | _, _ => .stuck)
 | _, _ => .stuck
theorem mw_extend : MtR X "list.extend" (rMt X opExtend) := by
 intro pins s σ H x xs v us Q I rx rv ⟨ι, G, st, w, ws, sr, r, t, q⟩
 unfold opExtend at q
 split at q
 ·rename_i n l
  cases t with
  | @cons x1 _ xs1 _ r1 t1 =>
   cases t1
   cases r with
   | ref hn =>
    have q : wpW X ι st.nxt G (match st.mu n, listOf st l with
     | some (.lst xs), some zs => if xs.length + zs.length ≤ sizeLine then .ok .non (st.put n (.lst (xs ++ zs))) else .stuck
     | _, _ => .stuck) Q := q
    cases e : st.mu n with
    | none => rw [e] at q; exact (show False from q).elim
    | some o =>
     cases o with
     | dct ks zs => rw [e] at q; exact (show False from q).elim
     | lst ys =>
      cases e2 : listOf st l with
      | none => rw [e, e2] at q; exact (show False from q).elim
      | some zs =>
       rw [e, e2] at q
       have q : wpW X ι st.nxt G (if ys.length + zs.length ≤ sizeLine then .ok .non (st.put n (.lst (ys ++ zs))) else .stuck) Q := q
       by_cases hl : ys.length + zs.length ≤ sizeLine
       ·rw [if_pos hl] at q
        obtain ⟨_, _, xs2, hH, t2⟩ := sr.live n _ e
        obtain ⟨b, xs3, rfl, hq, t3⟩ := listOf_rel sr r1 e2
        cases (show v = Value.ref (ι n) from rx)
        obtain ⟨u, rfl, ru⟩ := rv.one
        cases (show u = Value.ref b from ru)
        obtain ⟨z, its, m, tv, hlen, ho⟩ := I.lstM hH
        obtain ⟨its2, tv2, ⟨⟨oc, od, odt, osl⟩, m2, ho2, hc, hd, hs⟩, hz2⟩ := I.list hq
        dsimp only at hc hd hs
        subst hc hd hs
        have l1 : its.length = ys.length := by rw [← tv.length, t2.length]
        have l2 : its2.length = zs.length := by rw [← tv2.length, t3.length]
        have hsz : its.toArray.size + its2.toArray.size ≤ sizeLine := by rw [List.size_toArray, List.size_toArray]; omega
        have hlong : ¬ (!its.toArray.isEmpty && Builtin.List.listTooLong (its.toArray.size + its2.toArray.size)) = true := by
         rw [notLongL hsz, Bool.and_false]
         exact Bool.false_ne_true
        refine call_meets F.slot_list_extend ⟨_, ho, rfl⟩ F.entry_list_extend (F.args_list_extend_2 _ _) (list_extendAt (ι n) its.toArray m b its2.toArray m2 osl hlong (by omega) (by omega)) ⟨ho, ho2, ?_⟩
        refine ⟨.non, _, I.lset (its' := its ++ its2) hH ho (by simp) (tv.append tv2) ?_, rfl, ?_⟩
        ·rw [List.length_append, t2.length, t3.length]; exact hl
        ·exact q .non ι G _ (Ext.refl _ _ _) (sr.putL e (t2.append t3)) .non
       ·rw [if_neg hl] at q; exact q.elim
 ·exact (show False from q).elim
theorem mth_extend : Mth X "extend" "list" "list.extend" opExtend := ⟨.inr (.inl rfl), F.plainAttrs_list, F.slot_list_extend, F.type_list_extend, mw_extend⟩
end
end DL
namespace DL
open PySem PySem.Spec PyProof.Rows L2
section
variable {X : Cx}
def isD : W → W → Option Bool
 | .non, .non => some true
 | .non, .bl _ => some false
 | .bl _, .non => some false
 | .bl a, .bl b => some (a == b)
 | .int _, .non => some false
 | .int _, .bl _ => some false
 | .str _, .non => some false
 | .str _, .bl _ => some false
 | .tup _, .non => some false
 | .tup _, .bl _ => some false
 | .lst _, .non => some false
 | .lst _, .bl _ => some false
 | .dct _ _, .non => some false
 | .dct _ _, .bl _ => some false
 | .ref _, .non => some false
 | .ref _, .bl _ => some false
 | .exn _, .non => some false
 | .exn _, .bl _ => some false
 | _, _ => none
theorem isD_ok {K : PySem.W.Frag} {ι : Nat → Addr} {N : Nat} {G : Hp} {x y : V} {w1 w2 : W} {v u : Value} {b : Bool} (rx : RelV x v) (ry : RelV y u) (r1 : RelW K ι N G x w1) (r2 : RelW K ι N G y w2) (h : isD w1 w2 = some b) : plainIs v u = true ∧ (v == u) = b := by
 cases r2 with
 | non =>
  cases (show u = Value.none from ry)
  cases r1 <;> first
   | (cases h; cases (show v = Value.none from rx); exact ⟨rfl, rfl⟩)
   | (cases h; cases (show v = Value.bool _ from rx); exact ⟨rfl, rfl⟩)
   | (cases h; obtain ⟨t, e⟩ := (show ∃ t, v = Value.int _ t from rx); cases e; exact ⟨rfl, rfl⟩)
   | (cases h; obtain ⟨t, e⟩ := (show ∃ t, v = Value.str _ t from rx); cases e; exact ⟨rfl, rfl⟩)
   | (cases h; cases (show v = Value.ref _ from rx); exact ⟨rfl, rfl⟩)
   | (cases h; done)
 | bl c =>
  cases (show u = Value.bool c from ry)
  cases r1 <;> first
   | (cases h; cases (show v = Value.none from rx); exact ⟨rfl, rfl⟩)
   | (cases h; cases (show v = Value.bool _ from rx); rename_i d; refine ⟨rfl, ?_⟩; cases d <;> cases c <;> rfl)
   | (cases h; obtain ⟨t, e⟩ := (show ∃ t, v = Value.int _ t from rx); cases e; exact ⟨rfl, rfl⟩)
   | (cases h; obtain ⟨t, e⟩ := (show ∃ t, v = Value.str _ t from rx); cases e; exact ⟨rfl, rfl⟩)
   | (cases h; cases (show v = Value.ref _ from rx); exact ⟨rfl, rfl⟩)
   | (cases h; done)
 | _ => cases w1 <;> cases h
def opIs : Op2 := fun a b st => match isD a b with
 | some c => .ok (.bl c) st
 | none => .stuck
def opIsNot : Op2 := fun a b st => match isD a b with
 | some c => .ok (.bl (!c)) st
 | none => .stuck
theorem opw_is : OpW X (compareOp .Is) opIs := by
 intro pins s σ H ι G st x y w1 w2 v u Q I sr rx ry r1 r2 q
 unfold opIs at q
 cases e : isD w1 w2 with
 | none => rw [e] at q; exact (show False from q).elim
 | some c =>
  rw [e] at q
  obtain ⟨h1, h2⟩ := isD_ok rx ry r1 r2 e
  refine wpAny_is_plain h1 ?_
  rw [h2]
  exact ⟨.bl c, H, I, rfl, q (.bl c) ι G H (Ext.refl _ _ _) sr (.bl c)⟩
theorem opw_isNot : OpW X (compareOp .IsNot) opIsNot := by
 intro pins s σ H ι G st x y w1 w2 v u Q I sr rx ry r1 r2 q
 unfold opIsNot at q
 cases e : isD w1 w2 with
 | none => rw [e] at q; exact (show False from q).elim
 | some c =>
  rw [e] at q
  obtain ⟨h1, h2⟩ := isD_ok rx ry r1 r2 e
  refine wpAny_isNot_plain h1 ?_
  rw [h2]
  exact ⟨.bl (!c), H, I, rfl, q (.bl (!c)) ι G H (Ext.refl _ _ _) sr (.bl (!c))⟩
end
end DL
namespace DL
open PySem PySem.Spec PyProof.Rows L2
section
variable {X : Cx}
def keyW : W → Option Key
 | .int i => some (.inl i)
 | .str x => some (.inr x)
 | _ => none
def valW : List Key → List W → Key → Option W
 | k :: ks, w :: ws, j => if k = j then some w else valW ks ws j
 | _, _, _ => none
def dctOf (st : S) : W → Option (List Key × List W)
 | .dct ks ws => some (ks, ws)
 | .ref n => (match st.mu n with
  | some (.dct ks ws) => some (ks, ws)
  | _ => none)
 | _ => none
theorem keyW_rel {K : PySem.W.Frag} {ι : Nat → Addr} {N : Nat} {G : Hp} {v : V} {w : W} {k : Key} (r : RelW K ι N G v w) (h : keyW w = some k) : v = kV k := by
 cases r <;> first | (cases h; rfl) | (cases h; done)
theorem valW_rel {K : PySem.W.Frag} {ι : Nat → Addr} {N : Nat} {G : Hp} {k : Key} : ∀ {ks : List Key} {xs : List V} {ws : List W}, RelWs K ι N G xs ws → xs.length = ks.length →
  (valV (ks.zip xs) k = none ∧ valW ks ws k = none) ∨ ∃ v w, valV (ks.zip xs) k = some v ∧ valW ks ws k = some w ∧ RelW K ι N G v w
 | [], _, _, _, _ => .inl ⟨rfl, by unfold valW; rfl⟩
 | j :: ks, [], _, _, h => by cases h
 | j :: ks, x :: xs, _, .cons r t, h => by
  by_cases e : j = k
  ·refine .inr ⟨x, _, ?_, ?_, r⟩
   ·exact valV_pos (p := (j, x)) e
   ·unfold valW; rw [if_pos e]
  ·have e1 : valV ((j :: ks).zip (x :: xs)) k = valV (ks.zip xs) k := valV_neg (p := (j, x)) e
   rcases valW_rel (k := k) t (by simpa using h) with ⟨h1, h2⟩ | ⟨v, w, h1, h2, h3⟩
   ·exact .inl ⟨e1.trans h1, by unfold valW; rw [if_neg e]; exact h2⟩
   ·exact .inr ⟨v, w, e1.trans h1, by unfold valW; rw [if_neg e]; exact h2, h3⟩
theorem dctOf_rel {ι : Nat → Addr} {G H : Hp} {st : S} {v : V} {w : W} {ks : List Key} {ws : List W} (sr : SR X.K ι st G H) (r : RelW X.K ι st.nxt G v w) (h : dctOf st w = some (ks, ws)) : ∃ a xs, v = .ref a ∧ H a = some (.dK (ks.zip xs)) ∧ xs.length = ks.length ∧ RelWs X.K ι st.nxt G xs ws := by
 cases r with
 | @dct a xs _ _ s l t => cases h; exact ⟨a, xs, rfl, sr.sub _ _ s, l, t⟩
 | @ref n hn =>
  have h : (match st.mu n with
   | some (.dct ks ws) => some (ks, ws)
   | _ => none) = some (ks, ws) := h
  cases e : st.mu n with
  | none => rw [e] at h; cases h
  | some o =>
   rw [e] at h
   cases o with
   | lst zs => cases h
   | dct ks' zs =>
    cases h
    obtain ⟨_, _, xs, h1, h2, h3⟩ := sr.live n _ e
    exact ⟨ι n, xs, rfl, h1, h2, h3⟩
 | _ => cases h
def inDct (st : S) (a b : W) : Option Bool := match keyW a, dctOf st b with
 | some k, some (ks, ws) => some (valW ks ws k).isSome
 | _, _ => none
theorem inDct_rel {ι : Nat → Addr} {G H : Hp} {st : S} {x y : V} {w1 w2 : W} {b : Bool} (sr : SR X.K ι st G H) (r1 : RelW X.K ι st.nxt G x w1) (r2 : RelW X.K ι st.nxt G y w2) (h : inDct st w1 w2 = some b) : ∃ a o, y = .ref a ∧ DGet H a x o ∧ o.isSome = b := by
 unfold inDct at h
 cases e1 : keyW w1 with
 | none => rw [e1] at h; cases h
 | some k =>
  cases e2 : dctOf st w2 with
  | none => rw [e1, e2] at h; cases h
  | some p =>
   obtain ⟨ks, ws⟩ := p
   rw [e1, e2] at h
   cases h
   obtain ⟨a, xs, rfl, hH, hl, t⟩ := dctOf_rel sr r2 e2
   refine ⟨a, _, rfl, by rw [keyW_rel r1 e1]; exact DGet.k hH, ?_⟩
   rcases valW_rel (k := k) t hl with ⟨h1, h2⟩ | ⟨v, w, h1, h2, _⟩
   ·rw [h1, h2]; rfl
   ·rw [h1, h2]; rfl
def opIn : Op2 := fun a b st => match inDct st a b with
 | some c => .ok (.bl c) st
 | none => opIn0 a b st
def opNotIn : Op2 := fun a b st => match inDct st a b with
 | some c => .ok (.bl (!c)) st
 | none => opNotIn0 a b st
theorem opw_in (hu : X.A.units + 64 < cLine) : OpW X (compareOp .In) opIn := by
 intro pins s σ H ι G st x y w1 w2 v u Q I sr rx ry r1 r2 q
 unfold opIn at q
 cases e : inDct st w1 w2 with
 | none => rw [e] at q; exact opw_in0 hu pins s σ H ι G st x y w1 w2 v u Q I sr rx ry r1 r2 q
 | some c =>
  rw [e] at q
  obtain ⟨a, o, rfl, g, ho⟩ := inDct_rel sr r1 r2 e
  cases (show u = Value.ref a from ry)
  refine d_in (by omega) I g rx fun s' I' => ?_
  rw [ho]
  exact ⟨.bl c, H, I', rfl, q (.bl c) ι G H (Ext.refl _ _ _) sr (.bl c)⟩
theorem opw_notIn (hu : X.A.units + 64 < cLine) : OpW X (compareOp .NotIn) opNotIn := by
 intro pins s σ H ι G st x y w1 w2 v u Q I sr rx ry r1 r2 q
 unfold opNotIn at q
 cases e : inDct st w1 w2 with
 | none => rw [e] at q; exact opw_notIn0 hu pins s σ H ι G st x y w1 w2 v u Q I sr rx ry r1 r2 q
 | some c =>
  rw [e] at q
  obtain ⟨a, o, rfl, g, ho⟩ := inDct_rel sr r1 r2 e
  cases (show u = Value.ref a from ry)
  refine d_notIn (by omega) I g rx fun s' I' => ?_
  rw [ho]
  exact ⟨.bl (!c), H, I', rfl, q (.bl (!c)) ι G H (Ext.refl _ _ _) sr (.bl (!c))⟩
def opIdx : Op2 := fun a b st => match dctOf st a, keyW b with
 | some (ks, ws), some k => (match valW ks ws k with
  | some w => .ok w st
  | none => .stuck)
 | _, _ => opIdx0 a b st
theorem pd_ixX {a b : Expr} {pos : Pos} {ra rb : Run} (hu : X.A.units + 1 < cLine) (ha : PD X a ra) (hb : PD X b rb) (hs : NoSl b) (hix : PD X (.Subscript a b pos) (run2 ra rb opIdx0)) : PD X (.Subscript a b pos) (run2 ra rb opIdx) := by
 intro pins s σ H Q I h
 obtain ⟨ι, G, st, Γ, en, sr, q⟩ := h
 have ch : (∃ w1 st1 w2 st2 ks ws k, ra Γ st = .ok w1 st1 ∧ rb Γ st1 = .ok w2 st2 ∧ dctOf st2 w1 = some (ks, ws) ∧ keyW w2 = some k) ∨ run2 ra rb opIdx Γ st = run2 ra rb opIdx0 Γ st := by
  unfold run2
  cases e1 : ra Γ st with
  | stuck => exact .inr rfl
  | ex c s => exact .inr rfl
  | ok w1 st1 =>
   cases e2 : rb Γ st1 with
   | stuck => refine .inr ?_; show (rb Γ st1).bind _ = (rb Γ st1).bind _; rw [e2]; rfl
   | ex c s => refine .inr ?_; show (rb Γ st1).bind _ = (rb Γ st1).bind _; rw [e2]; rfl
   | ok w2 st2 =>
    cases e3 : dctOf st2 w1 with
    | none =>
     refine .inr ?_
     show (rb Γ st1).bind _ = (rb Γ st1).bind _
     rw [e2]
     show opIdx w1 w2 st2 = opIdx0 w1 w2 st2
     unfold opIdx; rw [e3]
    | some p =>
     obtain ⟨ks, ws⟩ := p
     cases e4 : keyW w2 with
     | none =>
      refine .inr ?_
      show (rb Γ st1).bind _ = (rb Γ st1).bind _
      rw [e2]
      show opIdx w1 w2 st2 = opIdx0 w1 w2 st2
      unfold opIdx; rw [e3, e4]
     | some k => exact .inl ⟨w1, st1, w2, st2, ks, ws, k, rfl, e2, e3, e4⟩
 rcases ch with ⟨w1, st1, w2, st2, ks, ws, k, e1, e2, e3, e4⟩ | ch
 ·refine pe_dget hu ha hb hs pins s σ H Q I ⟨ι, G, st, Γ, en, sr, wpW.bind q fun w1' st1' v1 ι1 G1 H1 e1' x1 sr1 r1 q1 => ⟨ι1, G1, st1', Γ, en.mono x1, sr1, wpW.bind q1 fun w2' st2' v2 ι2 G2 H2 e2' x2 sr2 r2 q2 => ?_⟩⟩
  rw [e1] at e1'; cases e1'
  rw [e2] at e2'; cases e2'
  obtain ⟨a, xs, rfl, hH, hl, t⟩ := dctOf_rel sr2 (r1.mono x2) e3
  unfold opIdx at q2
  rw [e3, e4] at q2
  have q3 : wpW X ι2 st2.nxt G2 (match valW ks ws k with
   | some w => .ok w st2
   | none => .stuck) Q := q2
  rcases valW_rel (k := k) t hl with ⟨h1, h2⟩ | ⟨v, w, h1, h2, h3⟩
  ·rw [h2] at q3; exact (show False from q3).elim
  ·rw [h2] at q3
   refine ⟨a, v, rfl, ?_, q3 v ι2 G2 H2 (Ext.refl _ _ _) sr2 h3⟩
   rw [keyW_rel r2 e4, ← h1]
   exact DGet.k hH
 ·exact hix pins s σ H Q I ⟨ι, G, st, Γ, en, sr, by rw [← ch]; exact q⟩
end
end DL
namespace DL
open PySem PySem.Spec PyProof.Rows L2
def KD (P : Program) (w : World) (K : PySem.W.Frag) (a : Addr) (kvs : List (Key × V)) : Prop :=
 (a == sysModules) = false ∧ ∃ (o : Obj) (vs : List (Key × Value)), K.lookup a = some o ∧ KV kvs vs ∧ ∀ h : Heap, h.get? a = some o → h.DictOf (mixKind P w) a vs
def KDs (P : Program) (w : World) (K : PySem.W.Frag) (mg : Str → Option Value) (x : Str) (ks : List Key) (ws : List W) : Prop :=
 ∃ a xs, mg x = some (.ref a) ∧ KD P w K a (ks.zip xs) ∧ xs.length = ks.length ∧ ∀ ι N G, RelWs K ι N G xs ws
section
variable {X : Cx}
theorem KD.here {pins : List (Addr × Obj)} {σ : St} {H : Hp} {s : Shared} {a : Addr} {kvs : List (Key × V)} (d : KD X.prog X.w X.K a kvs) (I : Inv X pins σ H s) : (a == sysModules) = false ∧ ∃ vs, KV kvs vs ∧ s.heap.DictOf (mixKind X.prog X.w) a vs := by
 obtain ⟨h1, o, vs, hl, kv, hd⟩ := d
 exact ⟨h1, vs, kv, hd _ (I.kIn a o hl)⟩
def rInC (a : Addr) (kvs : List (Key × V)) (neg : Bool) : R2 := fun x y H Q => y = .ref a ∧ ∃ k, x = kV k ∧ Q (.bl ((valV kvs k).isSome != neg)) H
theorem op_inC {a : Addr} {kvs : List (Key × V)} (d : KD X.prog X.w X.K a kvs) : OpR X (compareOp .In) (rInC a kvs false) := by
 intro pins s σ H x y v u Q I rx ry ⟨ey, k, ex, q⟩
 subst ey ex
 cases (show u = Value.ref a from ry)
 obtain ⟨hd, vs, rel, dd⟩ := d.here I
 refine wpAny_in_of (kV_is rx) hd dd.mapOf ?_
 rw [← (rel.val k).isSome_eq]
 refine ⟨.bl _, H, I.tok _, ?_, q⟩
 cases (valV kvs k).isSome <;> rfl
theorem op_notInC {a : Addr} {kvs : List (Key × V)} (d : KD X.prog X.w X.K a kvs) : OpR X (compareOp .NotIn) (rInC a kvs true) := by
 intro pins s σ H x y v u Q I rx ry ⟨ey, k, ex, q⟩
 subst ey ex
 cases (show u = Value.ref a from ry)
 obtain ⟨hd, vs, rel, dd⟩ := d.here I
 refine wpAny_notIn_of (kV_is rx) hd dd.mapOf ?_
 rw [← (rel.val k).isSome_eq]
 refine ⟨.bl _, H, I.tok _, ?_, q⟩
 cases (valV kvs k).isSome <;> rfl
def opInC (ks : List Key) (ws : List W) (neg : Bool) : W → S → R W := fun w st => match keyW w with
 | some k => .ok (.bl ((valW ks ws k).isSome != neg)) st
 | none => .stuck
def opIdxC (ks : List Key) (ws : List W) : W → S → R W := fun w st => match keyW w with
 | some k => (match valW ks ws k with
  | some u => .ok u st
  | none => .stuck)
 | none => .stuck
theorem tD_inC {ra : Run} {ks : List Key} {xs : List V} {ws : List W} {neg : Bool} {a : Addr} {σ : St} {H : Hp} {Q : VK} (hl : xs.length = ks.length) (ht : ∀ ι N G, RelWs X.K ι N G xs ws) (h : tD X (run1 ra (opInC ks ws neg)) σ H Q) : tOp (rInC a (ks.zip xs) neg) (tD X ra) (tC (.ref a)) σ H Q := by
 obtain ⟨ι, G, st, Γ, en, sr, q⟩ := h
 refine ⟨ι, G, st, Γ, en, sr, wpW.bind q fun w st1 v ι1 G1 H1 _ e1 sr1 r1 q1 => ?_⟩
 refine ⟨rfl, ?_⟩
 unfold opInC at q1
 cases ek : keyW w with
 | none => rw [ek] at q1; exact (show False from q1).elim
 | some k =>
  rw [ek] at q1
  refine ⟨k, keyW_rel r1 ek, ?_⟩
  have e : (valV (ks.zip xs) k).isSome = (valW ks ws k).isSome := by
   rcases valW_rel (k := k) (ht ι1 st1.nxt G1) hl with ⟨h1, h2⟩ | ⟨v, w, h1, h2, _⟩ <;> rw [h1, h2] <;> rfl
  rw [e]
  exact q1 _ ι1 G1 H1 (Ext.refl _ _ _) sr1 (.bl _)
theorem pd_inC {e : Expr} {x : Str} {p pos : Pos} {ra : Run} {ks : List Key} {ws : List W} (D : KDs X.prog X.w X.K X.mg x ks ws) (hg : Gl X x) (hd : (x == ("__debug__" : Str)) = false) (ha : PD X e ra) : PD X (.Compare e [.In] [.Name x p] pos) (run1 ra (opInC ks ws false)) := by
 obtain ⟨a, xs, hm, d, hl, ht⟩ := D
 exact PE.imp (pe_cmpR (op_inC d) ha (pe_glob (v := .ref a) hg hm rfl hd) rfl) fun _ _ _ h => tD_inC hl ht h
theorem pd_notInC {e : Expr} {x : Str} {p pos : Pos} {ra : Run} {ks : List Key} {ws : List W} (D : KDs X.prog X.w X.K X.mg x ks ws) (hg : Gl X x) (hd : (x == ("__debug__" : Str)) = false) (ha : PD X e ra) : PD X (.Compare e [.NotIn] [.Name x p] pos) (run1 ra (opInC ks ws true)) := by
 obtain ⟨a, xs, hm, d, hl, ht⟩ := D
 exact PE.imp (pe_cmpR (op_notInC d) ha (pe_glob (v := .ref a) hg hm rfl hd) rfl) fun _ _ _ h => tD_inC hl ht h
theorem pdt_inC {e : Expr} {x : Str} {p pos : Pos} {ra : Run} {ks : List Key} {ws : List W} (D : KDs X.prog X.w X.K X.mg x ks ws) (hg : Gl X x) (hd : (x == ("__debug__" : Str)) = false) (ha : PD X e ra) : PT X (.Compare e [.In] [.Name x p] pos) (tDT X (run1 ra (opInC ks ws false))) := by
 obtain ⟨a, xs, hm, d, hl, ht⟩ := D
 exact PT.imp (pt_cmpR (op_inC d) ha (pe_glob (v := .ref a) hg hm rfl hd) rfl) fun _ _ _ h => tD_inC hl ht h
theorem pdt_notInC {e : Expr} {x : Str} {p pos : Pos} {ra : Run} {ks : List Key} {ws : List W} (D : KDs X.prog X.w X.K X.mg x ks ws) (hg : Gl X x) (hd : (x == ("__debug__" : Str)) = false) (ha : PD X e ra) : PT X (.Compare e [.NotIn] [.Name x p] pos) (tDT X (run1 ra (opInC ks ws true))) := by
 obtain ⟨a, xs, hm, d, hl, ht⟩ := D
 exact PT.imp (pt_cmpR (op_notInC d) ha (pe_glob (v := .ref a) hg hm rfl hd) rfl) fun _ _ _ h => tD_inC hl ht h
theorem pd_idxC {i : Expr} {x : Str} {p pos : Pos} {ri : Run} {ks : List Key} {ws : List W} (D : KDs X.prog X.w X.K X.mg x ks ws) (hg : Gl X x) (hd : (x == ("__debug__" : Str)) = false) (hi : PD X i ri) (hs : NoSl i) : PD X (.Subscript (.Name x p) i pos) (run1 ri (opIdxC ks ws)) := by
 obtain ⟨a, xs, hm, d, hl, ht⟩ := D
 intro pins s σ H Q I h
 obtain ⟨ι, G, st, Γ, en, sr, q⟩ := h
 have ho : PE X (.Name x p) (tC (.ref a)) := pe_glob hg hm rfl hd
 have q' : tD X ri σ H fun v1 H1 => ∃ k y, v1 = kV k ∧ valV (ks.zip xs) k = some y ∧ Q y H1 := by
  refine ⟨ι, G, st, Γ, en, sr, wpW.bind q fun w st1 v ι1 G1 H1 _ e1 sr1 r1 q1 => ?_⟩
  unfold opIdxC at q1
  cases ek : keyW w with
  | none => rw [ek] at q1; exact (show False from q1).elim
  | some k =>
   rw [ek] at q1
   have q2 : wpW X ι1 st1.nxt G1 (match valW ks ws k with
    | some u => .ok u st1
    | none => .stuck) Q := q1
   rcases valW_rel (k := k) (ht ι1 st1.nxt G1) hl with ⟨h1, h2⟩ | ⟨y, u, h1, h2, h3⟩
   ·rw [h2] at q2; exact (show False from q2).elim
   ·rw [h2] at q2
    exact ⟨k, y, keyW_rel r1 ek, h1, q2 y ι1 G1 H1 (Ext.refl _ _ _) sr1 h3⟩
 refine subD_of PySem.F.slot_dict_getitem.lookup hs (thn (ho pins s σ H (fun v0 H1 => v0 = .ref a ∧ tD X ri σ H1 fun v1 H2 => ∃ k y, v1 = kV k ∧ valV (ks.zip xs) k = some y ∧ Q y H2) I ⟨rfl, q'⟩) fun u s1 ⟨v0, H1, I1, rx, e0, q1⟩ => thn (hi pins s1 σ H1 _ I1 q1) fun iv s2 ⟨v1, H2, I2, ry, k, y, ek, hy, q2⟩ => ?_)
 subst e0
 subst ek
 cases (show u = Value.ref a from rx)
 obtain ⟨_, vs, rel, dd⟩ := d.here I2
 obtain ⟨w', hw, rw'⟩ := RelO.some_of (v := y) (o := valueAt vs k) (by rw [← hy]; exact rel.val k)
 exact ⟨dd.typeIs, wpAny_getItem_of (kV_is ry) dd.mapOf hw ⟨y, H2, I2.tok _, rw', q2⟩⟩
end
end DL
namespace DL
open PySem PySem.Spec PyProof.Rows L2
section
variable {X : Cx}
theorem kit_kinds (K : PySem.W.Frag) : ∀ k ∈ kinds, ∀ T ∈ kinds, PySem.W.kitOne K (.type k) (.type T) = some (isKind k T) := by
 intro k hk T hT
 simp only [kinds, List.mem_cons, List.not_mem_nil, or_false] at hk hT
 rcases hk with rfl | rfl | rfl | rfl | rfl | rfl | rfl <;> rcases hT with rfl | rfl | rfl | rfl | rfl | rfl | rfl <;> with_unfolding_all rfl
theorem cw_isi : CallW X (.builtin "isinstance") opIsi := by
 intro pins s σ H ι G st xs ws us Q I sr rv t q
 unfold opIsi at q
 split at q
 ·rename_i w T
  by_cases hT : kinds.contains T = true
  ·rw [if_pos hT] at q
   have hT' : T ∈ kinds := by simpa using hT
   obtain ⟨v, v', rfl, r, r'⟩ := rel2 t
   cases r'
   cases rv with
   | cons ru rv =>
    cases rv with
    | cons rc rv =>
     cases rv
     rename_i u c
     cases (show c = Value.type T from rc)
     cases hk : kindW st w with
     | none => rw [hk] at q; exact (show False from q).elim
     | some k =>
      rw [hk] at q
      have fin : ∀ tk, EP X pins σ Q (.bool (isKind k T)) { s with toks := tk } := fun tk => ⟨.bl (isKind k T), H, I.tok tk, rfl, q _ ι G H (Ext.refl _ _ _) sr (.bl _)⟩
      have kk : k ∈ kinds → PySem.W.kitOne X.K (.type k) (.type T) = some (isKind k T) := fun h => kit_kinds X.K k h T hT'
      cases r with
      | non => cases hk; cases (show u = Value.none from ru); exact PySem.W.kia_one PySem.W.kitx_none I.kIn True.intro (kk (by decide)) (fun z => nomatch z) fin
      | bl b => cases hk; cases (show u = Value.bool b from ru); exact PySem.W.kia_one PySem.W.kitx_bool I.kIn True.intro (kk (by decide)) (fun z => nomatch z) fin
      | int i => cases hk; obtain ⟨tk, e⟩ := (show ∃ t, u = Value.int i t from ru); cases e; exact PySem.W.kia_one PySem.W.kitx_int I.kIn True.intro (kk (by decide)) (fun z => nomatch z) fin
      | str x => cases hk; obtain ⟨tk, e⟩ := (show ∃ t, u = Value.str x t from ru); cases e; exact PySem.W.kia_one PySem.W.kitx_str I.kIn True.intro (kk (by decide)) (fun z => nomatch z) fin
      | @tup a xs _ s1 t1 =>
       cases hk
       cases (show u = Value.ref a from ru)
       obtain ⟨its, _, pl, _⟩ := I.tuple (sqT_same sr.sub s1)
       obtain ⟨o, h1, h2, _⟩ := pl
       exact PySem.W.kia_one PySem.W.kitx_tuple I.kIn ⟨o, h1, h2⟩ (kk (by decide)) (fun z => nomatch z) fin
      | @lst a xs _ s1 t1 =>
       cases hk
       cases (show u = Value.ref a from ru)
       obtain ⟨its, _, pl, _⟩ := I.list (sr.sub.seq s1)
       obtain ⟨o, n, h1, h2, _⟩ := pl
       exact PySem.W.kia_one PySem.W.kitx_list I.kIn ⟨o, h1, h2⟩ (kk (by decide)) (fun z => nomatch z) fin
      | @dct a xs ks _ s1 l1 t1 =>
       cases hk
       cases (show u = Value.ref a from ru)
       obtain ⟨_, _, vs, _, p⟩ := (show ObjOk X.prog X.w H s.heap a (.dK (ks.zip xs)) from I.hok a _ (sr.sub _ _ s1))
       obtain ⟨o, es, ep, h1, h2, _⟩ := p
       exact PySem.W.kia_one PySem.W.kitx_dict I.kIn ⟨o, h1, h2.1⟩ (kk (by decide)) (fun z => nomatch z) fin
      | ty n => cases hk
      | exn s1 s2 => cases hk
      | ref hn =>
       rename_i n
       cases (show u = Value.ref (ι n) from ru)
       have hk : MO.kind (st.mu n) = some k := hk
       cases e : st.mu n with
       | none => rw [e] at hk; cases hk
       | some o =>
        rw [e] at hk
        obtain ⟨_, _, h3⟩ := sr.live n o e
        cases o with
        | lst zs =>
         cases hk
         obtain ⟨vs, qv, _⟩ := h3
         obtain ⟨its, _, pl, _⟩ := I.list (SqL.of qv)
         obtain ⟨o, n, h1, h2, _⟩ := pl
         exact PySem.W.kia_one PySem.W.kitx_list I.kIn ⟨o, h1, h2⟩ (kk (by decide)) (fun z => nomatch z) fin
        | dct ks zs =>
         cases hk
         obtain ⟨xs, qv, _, _⟩ := h3
         obtain ⟨_, _, vs, _, p⟩ := (show ObjOk X.prog X.w H s.heap _ (.dK (ks.zip xs)) from I.hok _ _ qv)
         obtain ⟨o, es, ep, h1, h2, _⟩ := p
         exact PySem.W.kia_one PySem.W.kitx_dict I.kIn ⟨o, h1, h2.1⟩ (kk (by decide)) (fun z => nomatch z) fin
  ·rw [if_neg hT] at q; exact (show False from q).elim
 ·exact (show False from q).elim
end
inductive GV where
 | con (w : W)
 | fn (n : Nat) (op : OpN)
 | blt
 | fx (n : Nat) (b : Bool) (op : OpN)
 | exc (own : Bool) (tab : List (Str × Bool))
 | dcon (ks : List Key) (ws : List W)
structure FC where
 N : List Str
 sc : Scope
 gl : List (Str × GV)
 mts : List (Nat × Nat)
 cm : Bool
 cx : Bool
def FC.isMut (c : FC) (p : Pos) : Bool := c.mts.any fun q => q.1 == p.line && q.2 == p.col
structure ExcOk (K : PySem.W.Frag) (mg : Str → Option Value) (y : Str) (own : Bool) (tab : List (Str × Bool)) (cv : Value) (vc : V) : Prop where
 rel : RelV vc cv
 un : ∀ u, RelV vc u → u = cv
 glob : own = true → mg y = some cv ∧ ∃ C, cv = .ref C ∧ ExCls K y C
 blt : own = false → mg y = none ∧ bootBuiltins y = some cv
 tab : ∀ x b, tab.lookup x = some b → ∃ C, PySem.W.nsIn K mainGlobals x = some (some (.ref C)) ∧ ExAt K C ∧ PySem.W.kitOne K (.ref C) cv = some b ∧ PySem.W.exmOne K (.ref C) cv = some b
structure XOK (c : FC) (X : Cx) : Prop where
 N : X.N = c.N
 nd : c.N.Nodup
 sc : X.env.scope = c.sc
 calm : c.cm = true → X.calm = true
 hnd : c.cm = true → X.A.handled = none
 units : X.A.units + 80 < cLine
 cells : ∀ y, (c.sc.names.lookup y = some .cell ∨ c.sc.names.lookup y = some .free) → (X.env.cells.lookup y).isSome = true
 con : ∀ x w, c.gl.lookup x = some (.con w) → ∃ u v, X.mg x = some u ∧ RelV v u ∧ ∀ ι N G, RelW X.K ι N G v w
 fn : c.cm = true → ∀ x n op, c.gl.lookup x = some (.fn n op) → ∃ k f fd ps, FnOk X.prog X.w X.K X.mg X.base CX0 k f fd ps (SpD X.K n op) ∧ Room (k + 2) X.A ∧ X.mg x = some (.ref f) ∧ PySem.W.keepIn X.K (.ref f) = true ∧ Binds X.K fd ps [] ∧ ps.length = n
 blt : ∀ x, c.gl.lookup x = some .blt → X.mg x = none
 fx : ∀ x n b op, c.gl.lookup x = some (.fx n b op) → ∃ k f fd ps, FnX b X.prog X.w X.K X.mg X.base k f fd ps (SpX X.K n op) ∧ RoomB false (k + 2) X.A ∧ X.mg x = some (.ref f) ∧ PySem.W.keepIn X.K (.ref f) = true ∧ Binds X.K fd ps [] ∧ ps.length = n
 exc : ∀ y own tab, c.gl.lookup y = some (.exc own tab) → ∃ cv vc, ExcOk X.K X.mg y own tab cv vc
 own : c.cx = true → OwnFr X
 dcon : ∀ x ks ws, c.gl.lookup x = some (.dcon ks ws) → KDs X.prog X.w X.K X.mg x ks ws
theorem XOK.gl {c : FC} {X : Cx} (h : XOK c X) {x : Str} (e : c.sc.names.lookup x = some .globalImplicit) : Gl X x := by
 show X.env.scope.names.lookup x = _
 rw [h.sc]; exact e
def dbg (x : Str) : Bool := (x == ("__debug__" : Str)) || (x == ("__classdict__" : Str)) || (x == ("__name__" : Str))
theorem dbg1 {x : Str} (h : dbg x = false) : (x == ("__debug__" : Str)) = false := by unfold dbg at h; simp only [Bool.or_eq_false_iff] at h; exact h.1.1
theorem dbg2 {x : Str} (h : dbg x = false) : (x == ("__classdict__" : Str)) = false := by unfold dbg at h; simp only [Bool.or_eq_false_iff] at h; exact h.1.2
theorem dbg3 {x : Str} (h : dbg x = false) : x ≠ "__name__" := by
 unfold dbg at h; simp only [Bool.or_eq_false_iff] at h
 intro e; rw [e] at h; simp at h
def slot (N : List Str) (x : Str) : Option Nat := match N with
 | [] => none
 | y :: ys => if y == x then some 0 else (slot ys x).map (· + 1)
theorem slot_get {N : List Str} {x : Str} {i : Nat} (h : slot N x = some i) : N[i]? = some x := by
 induction N generalizing i with
 | nil => cases h
 | cons y ys ih =>
  unfold slot at h
  by_cases hy : (y == x) = true
  ·rw [if_pos hy] at h
   cases h
   have : y = x := by simpa using hy
   rw [this]; rfl
  ·rw [if_neg hy] at h
   cases e : slot ys x with
   | none => rw [e] at h; cases h
   | some j => rw [e] at h; cases h; rw [List.getElem?_cons_succ]; exact ih e
def binD : Operator → Option Op2
 | .Add => some opAdd
 | .Sub => some opSub
 | .Mult => some opMul
 | .FloorDiv => some opDiv
 | .Mod => some opMod
 | .Pow => some opPow
 | _ => none
def cmpD : CmpOp → Option Op2
 | .Eq => some opEq
 | .NotEq => some opNe
 | .Lt => some opLt
 | .LtE => some opLe
 | .Gt => some opGt
 | .GtE => some opGe
 | .In => some opIn
 | .NotIn => some opNotIn
 | .Is => some opIs
 | .IsNot => some opIsNot
def tyD (x : Str) : Option String := if x == ("str" : Str) then some "str" else if x == ("int" : Str) then some "int" else if x == ("bool" : Str) then some "bool" else if x == ("tuple" : Str) then some "tuple" else if x == ("list" : Str) then some "list" else if x == ("dict" : Str) then some "dict" else none
theorem tyD_boot {x : Str} {T : String} (h : tyD x = some T) : bootBuiltins x = some (.type T) := by
 unfold tyD at h
 repeat' split at h
 all_goals first
  | (cases h; rename_i e; have e' := eq_of_beq e; subst e'; decide +kernel)
  | cases h
def bltD (m : Bool) (x : Str) : Option (Value × OpN) :=
 if x == ("len" : Str) then some (.builtin "len", opLen)
 else if x == ("all" : Str) then some (.builtin "all", opAll)
 else if x == ("any" : Str) then some (.builtin "any", opAny)
 else if x == ("abs" : Str) then some (.builtin "abs", opAbs)
 else if x == ("max" : Str) then some (.builtin "max", opMax)
 else if x == ("isinstance" : Str) then some (.builtin "isinstance", opIsi)
 else none
def tyCallD (m : Bool) (x : Str) : Option (String × OpN) :=
 if x == ("tuple" : Str) then some ("tuple", opTuple)
 else if x == ("list" : Str) then some ("list", opList m)
 else if x == ("int" : Str) then some ("int", opInt)
 else none
def noStar : Expr → Bool
 | .Starred _ _ => false
 | _ => true
theorem star_cons {e : Expr} {es : List Expr} {env : Env} (h : noStar e = true) : starEach (e :: es) env = (false, eval e env) :: starEach es env := by
 cases e <;> first | rfl | exact absurd (show false = true from h) Bool.false_ne_true
theorem star_all {es : List Expr} {env : Env} {pos : Pos} (h : es.all noStar = true) : (backTo pos (starEach es env)).any (·.1) = false := by
 induction es with
 | nil => rfl
 | cons e es ih =>
  rw [List.all_cons, Bool.and_eq_true] at h
  rw [star_cons h.1]
  show ((false : Bool) || (backTo pos (starEach es env)).any (·.1)) = false
  rw [ih h.2]; rfl
theorem star_few {e : Expr} {es : List Expr} {env : Env} {pos : Pos} (h : (e :: es).all noStar = true) (hl : (e :: es).length < 30) :
  ((backTo pos (starEach (e :: es) env)).all (fun x => !x.1) && (backToKw pos (keywordEach [] env)).all (fun x => x.1.isSome) && decide ((e :: es).length + ([] : List Keyword).length + (if ([] : List Keyword).isEmpty then 0 else 1) < 30)) = true := by
 have h1 : (backTo pos (starEach (e :: es) env)).all (fun x => !x.1) = true := by
  rw [← List.not_any_eq_all_not, star_all h]; rfl
 have h2 : (backToKw pos (keywordEach [] env)).all (fun x => x.1.isSome) = true := rfl
 have h3 : decide ((e :: es).length + ([] : List Keyword).length + (if ([] : List Keyword).isEmpty then 0 else 1) < 30) = true := decide_eq_true (by simpa using hl)
 rw [h1, h2, h3]; rfl
def mthD (m : Str) : Option (String × OpM) := if m == ("append" : Str) then some ("list", opAppend) else if m == ("join" : Str) then some ("str", opJoin) else if m == ("upper" : Str) then some ("str", opUpper) else if m == ("count" : Str) then some ("list", opCount) else if m == ("index" : Str) then some ("list", opIndex) else if m == ("extend" : Str) then some ("list", opExtend) else none
theorem mthD_ok {X : Cx} {m : Str} {T : String} {op : OpM} (h : mthD m = some (T, op)) : ∃ id, Mth X m T id op := by
 unfold mthD at h
 repeat' split at h
 all_goals first
  | (cases h; rename_i e; have e' := eq_of_beq e; subst e'; exact ⟨_, by first | exact mth_append | exact mth_join | exact mth_upper | exact mth_count | exact mth_index | exact mth_extend⟩)
  | cases h
def plainIx : Expr → Bool
 | .Slice _ _ _ _ => false
 | _ => true
theorem plainIx_noSl {e : Expr} (h : plainIx e = true) : NoSl e := by
 intro ov iv
 cases e <;> first | rfl | exact absurd (show false = true from h) Bool.false_ne_true
theorem plainIx_ok {e : Expr} (h : plainIx e = true) : PlainIx e := by
 intro o i
 cases e <;> first | rfl | exact absurd (show false = true from h) Bool.false_ne_true
def noSet : Expr → Bool
 | .Set _ _ _ => false
 | _ => true
theorem noSet_behind {e : Expr} {op : CmpOp} (h : noSet e = true) : behindInMarks op e = false := by
 cases e <;> first | rfl | exact absurd (show false = true from h) Bool.false_ne_true
theorem noSet_fold {e : Expr} {env : Env} (h : noSet e = true) : ∀ z, foldedSetIterable e env z = pure z := by
 intro z
 cases e <;> first | rfl | exact absurd (show false = true from h) Bool.false_ne_true
theorem noSet_last {op op' : CmpOp} {b c : Expr} (h : noSet c = true) : lastMarks [op, op'] [b, c] = false := by
 cases c <;> first | rfl | exact absurd (show false = true from h) Bool.false_ne_true
def plainT : Expr → Bool
 | .UnaryOp .Not _ _ => false
 | .BoolOp _ _ _ => false
 | .IfExp _ _ _ _ => false
 | .Compare _ _ _ _ => false
 | _ => true
theorem plainT_ok {e : Expr} {env : Env} (h : plainT e = true) : ∀ whole, isTrue e env whole = (do let v ← whole; standAt e.pos; holding [v] (truthy v)) := by
 intro whole
 cases e with
 | UnaryOp op a p => cases op <;> first | rfl | exact absurd (show false = true from h) Bool.false_ne_true
 | BoolOp _ _ _ => exact absurd (show false = true from h) Bool.false_ne_true
 | IfExp _ _ _ _ => exact absurd (show false = true from h) Bool.false_ne_true
 | Compare _ _ _ _ => exact absurd (show false = true from h) Bool.false_ne_true
 | _ => rfl
def relabelS (scope sc : Scope) : Scope := { scope with names := scope.names.map fun (n, k) => if (k == .free && sc.kind == .function && sc.names.lookup n == some .cell) then (n, .cell) else (n, k) }
def freesOf (scope : Scope) : List Str := (scope.names.filter fun p => p.2 == .free).map (·.1)
def slots (N : List Str) : List Str → Option (List Nat)
 | [] => some []
 | y :: ys => match slot N y, slots N ys with
  | some i, some r => some (i :: r)
  | _, _ => none
def compOk (scope sc : Scope) (x : Str) : Bool :=
 scope.names.all (fun y => y.2 != .cell) && scope.names.all (fun y => y.2 != .free || (sc.names.lookup y.1 == some .cell || sc.names.lookup y.1 == some .free)) && (scope.kind == .function) &&
 scope.names.all (fun y => y.2 != .local || scope.names.lookup y.1 == some .local) && (scope.names.lookup x == some .local) && (freesOf scope).all (fun y => scope.names.lookup y == some .free) && decide ((x :: freesOf scope).Nodup)
theorem slots_get {N : List Str} : ∀ {ys : List Str} {js : List Nat}, slots N ys = some js → ys.length = js.length ∧ ∀ (k j : Nat), js[k]? = some j → ys[k]? = N[j]?
 | [], js, h => by cases h; exact ⟨rfl, fun k j e => by simp at e⟩
 | y :: ys, js, h => by
  unfold slots at h
  cases e1 : slot N y with
  | none => rw [e1] at h; cases h
  | some i =>
   cases e2 : slots N ys with
   | none => rw [e1, e2] at h; cases h
   | some r =>
    rw [e1, e2] at h
    cases h
    obtain ⟨h1, h2⟩ := slots_get e2
    refine ⟨by simp [h1], fun k j e => ?_⟩
    cases k with
    | zero => simp at e; subst e; rw [slot_get e1]; rfl
    | succ k => exact h2 k j (by simpa using e)
theorem comp_sc {c : FC} {X : Cx} (h : XOK c X) {scope : Scope} {x : Str} {cap : List Nat} (hk : compOk scope c.sc x = true) (hc : slots c.N (freesOf scope) = some cap) :
  CompSc X scope x (clOf X.env scope.names []) (x :: freesOf scope) cap := by
 unfold compOk at hk
 simp only [Bool.and_eq_true, List.all_eq_true, decide_eq_true_eq, beq_iff_eq] at hk
 obtain ⟨⟨⟨⟨⟨⟨h1, h2⟩, h3⟩, h4⟩, h5⟩, h6⟩, h7⟩ := hk
 have g1 : ∀ y ∈ scope.names, y.2 ≠ .cell := fun y hy e => by have := h1 y hy; rw [e] at this; cases this
 have g2 : ∀ y ∈ scope.names, y.2 = .free → c.sc.names.lookup y.1 = some .cell ∨ c.sc.names.lookup y.1 = some .free := fun y hy e => by
  have := h2 y hy
  rw [e] at this
  simpa using this
 have g4 : ∀ y ∈ scope.names, y.2 = .local → scope.names.lookup y.1 = some .local := fun y hy e => by
  have := h4 y hy
  rw [e] at this
  simpa using this
 have cells : ∀ y ∈ scope.names, y.2 = .free → (X.env.cells.lookup y.1).isSome = true := fun y hy e => h.cells y.1 (g2 y hy e)
 obtain ⟨sl1, sl2⟩ := slots_get hc
 have fr : ∀ (k : Nat) (y : Str), (x :: freesOf scope)[k + 1]? = some y → scope.names.lookup y = some .free := fun k y e => by
  have e' : (freesOf scope)[k]? = some y := by simpa using e
  exact h6 y (List.mem_of_getElem? e')
 have rl : ∀ (l : List (Str × NameKind)) (y : Str), l.lookup y = some .free →
   (l.map fun (n, k) => if (k == NameKind.free && X.env.scope.kind == .function && X.env.kindOf n == some .cell) then (n, NameKind.cell) else (n, k)).lookup y = some .cell ∨
   (l.map fun (n, k) => if (k == NameKind.free && X.env.scope.kind == .function && X.env.kindOf n == some .cell) then (n, NameKind.cell) else (n, k)).lookup y = some .free := by
  intro l y
  induction l with
  | nil => intro h; simp at h
  | cons p r ih =>
   intro hl
   obtain ⟨n, k'⟩ := p
   rw [List.lookup_cons] at hl
   rw [List.map_cons]
   cases hy : y == n with
   | true =>
    rw [hy] at hl
    cases hl
    dsimp only
    split
    ·left; rw [List.lookup_cons, hy]
    ·right; rw [List.lookup_cons, hy]
   | false =>
    rw [hy] at hl
    dsimp only
    split
    ·rw [List.lookup_cons, hy]; exact ih hl
    ·rw [List.lookup_cons, hy]; exact ih hl
 refine ⟨clos_eq cells, g1, h3, g4, h5, h7, rfl, by rw [List.length_cons, sl1], fun k j e => ?_, fun k y e => ?_, fun k y e => rl scope.names y (fr k y e), clOf_sub X.env scope.names [] cells (fun y c h => by simp at h), fun y hy => ?_⟩
 ·rw [List.getElem?_cons_succ, h.N]; exact sl2 k j e
 ·have m := PySem.mem_of_lookup (fr k y e)
  have := g2 _ m rfl
  show X.env.scope.names.lookup y = _ ∨ X.env.scope.names.lookup y = _
  rw [h.sc]; exact this
 ·refine clOf_has X.env scope.names [] y (.inr ?_)
  rcases hy with hy | hy
  ·rcases relabel_mem hy with m | m
   ·exact absurd rfl (g1 _ m)
   ·exact m
  ·rcases relabel_mem hy with m | m
   ·exact m
   ·exact m
theorem comp_xok {c : FC} {X : Cx} (h : XOK c X) {scope : Scope} {x : Str} {cap : List Nat} (hk : compOk scope c.sc x = true) (hc : slots c.N (freesOf scope) = some cap) (C : Addr) (s : Shared) (H : Hp) (ex : List Addr) :
  XOK { c with N := x :: freesOf scope, sc := relabelS scope c.sc, cx := false } (cxComp X scope (clOf X.env scope.names []) C (x :: freesOf scope) s H ex) := by
 have Sc := comp_sc h hk hc
 have es : (cxComp X scope (clOf X.env scope.names []) C (x :: freesOf scope) s H ex).env.scope = relabelS scope c.sc := by
  show relabel scope X.env = _
  unfold relabel relabelS
  rw [← h.sc]; rfl
 refine ⟨rfl, Sc.nd, es, h.calm, h.hnd, h.units, fun y hy => ?_, h.con, h.fn, h.blt, h.fx, h.exc, (fun z => Bool.noConfusion z), h.dcon⟩
 obtain ⟨cc, hcc⟩ := Sc.has y (by
  have e2 : relabel scope X.env = relabelS scope c.sc := es
  rw [e2]; exact hy)
 show ((clOf X.env scope.names []).lookup y).isSome = true
 rw [hcc]; rfl
def isxD (c : FC) (x : Str) (es : List Expr) : Option (Expr × Str × Pos × List (Str × Bool)) := if x == ("isinstance" : Str) then (match es with
 | [a, .Name y p] => if dbg y then none else (match c.sc.names.lookup y, c.gl.lookup y with
  | some .globalImplicit, some (.exc _ tab) => some (a, y, p, tab)
  | _, _ => none)
 | _ => none) else none
theorem isxD_ok {c : FC} {x : Str} {es : List Expr} {a : Expr} {y : Str} {p : Pos} {tab : List (Str × Bool)} (h : isxD c x es = some (a, y, p, tab)) : x = "isinstance" ∧ es = [a, .Name y p] ∧ dbg y = false ∧ c.sc.names.lookup y = some .globalImplicit ∧ ∃ own, c.gl.lookup y = some (.exc own tab) := by
 unfold isxD at h
 split at h
 ·rename_i hx
  split at h
  ·split at h
   ·cases h
   ·rename_i hd
    split at h
    ·rename_i h1 h2
     cases h
     exact ⟨eq_of_beq hx, rfl, by simpa using hd, h1, _, h2⟩
    ·cases h
  ·cases h
 ·cases h
def dconD (c : FC) : Expr → Option (Str × Pos × List Key × List W)
 | .Name y p => if dbg y then none else (match c.sc.names.lookup y, c.gl.lookup y with
  | some .globalImplicit, some (.dcon ks ws) => some (y, p, ks, ws)
  | _, _ => none)
 | _ => none
theorem dconD_ok {c : FC} {e : Expr} {y : Str} {p : Pos} {ks : List Key} {ws : List W} (h : dconD c e = some (y, p, ks, ws)) : e = .Name y p ∧ dbg y = false ∧ c.sc.names.lookup y = some .globalImplicit ∧ c.gl.lookup y = some (.dcon ks ws) := by
 unfold dconD at h
 split at h
 ·split at h
  ·cases h
  ·rename_i hd
   split at h
   ·rename_i h1 h2
    cases h
    exact ⟨rfl, by simpa using hd, h1, h2⟩
   ·cases h
 ·cases h
def cmpC (op : CmpOp) (ks : List Key) (ws : List W) : Option (W → S → R W) := match op with
 | .In => some (opInC ks ws false)
 | .NotIn => some (opInC ks ws true)
 | _ => none
mutual
def denE : Nat → FC → Expr → Option Run
 | 0, _, _ => none
 | n + 1, c, e => match e with
  | .Name x _ => if dbg x then none else (match c.sc.names.lookup x with
   | some .globalImplicit => (match c.gl.lookup x with
    | some (.con w) => some (rCon w)
    | some .blt => (tyD x).map fun T => rCon (.ty T)
    | _ => none)
   | some .local => (slot c.N x).map rVar
   | some .cell => (slot c.N x).map rVar
   | some .free => (slot c.N x).map rVar
   | _ => none)
  | .Constant (.int i) _ _ => some (rCon (.int i))
  | .Constant (.str x) _ _ => some (rCon (.str x))
  | .Constant (.bool b) _ _ => some (rCon (.bl b))
  | .Constant .none _ _ => some (rCon .non)
  | .BinOp a op b _ => (denE n c a).bind fun ra => (denE n c b).bind fun rb => (binD op).map fun o => run2 ra rb o
  | .UnaryOp .Not a _ => (denE n c a).map runNot
  | .UnaryOp .USub a _ => (denE n c a).map fun r => run1 r opNeg
  | .BoolOp op [a] _ => denE n c a
  | .BoolOp .And (a :: b :: rest) pos => (denE n c a).bind fun ra => (denE n c (.BoolOp .And (b :: rest) pos)).map fun rb => runAnd ra rb
  | .BoolOp .Or (a :: b :: rest) pos => (denE n c a).bind fun ra => (denE n c (.BoolOp .Or (b :: rest) pos)).map fun rb => runOr ra rb
  | .Compare a [op] [b] _ => (match dconD c b with
   | some (_, _, ks, ws) => (denE n c a).bind fun ra => (cmpC op ks ws).map fun o => run1 ra o
   | none => if noSet b then (denE n c a).bind fun ra => (denE n c b).bind fun rb => (cmpD op).map fun o => run2 ra rb o else none)
  | .Compare a [op, op'] [b, d] _ => if noSet d then (denE n c a).bind fun ra => (denE n c b).bind fun rb => (denE n c d).bind fun rd => (cmpD op).bind fun o => (cmpD op').map fun o' => runC ra rb rd o o' else none
  | .IfExp t a b _ => (denT n c t).bind fun rt => (denE n c a).bind fun ra => (denE n c b).map fun rb => runIf rt ra rb
  | .Tuple es _ _ => (denEs n c es).map fun rr => runN rr opTup
  | .List es pos => (denEs n c es).map fun rr => runN rr (opL (c.isMut pos))
  | .Call (.Name x _) (e :: es) [] pos => if dbg x then none else if (e :: es).all noStar then (match c.sc.names.lookup x with
   | some .globalImplicit => (match c.gl.lookup x with
    | some (.fn k op) => if (e :: es).length = k then (if c.cm then (denEs n c (e :: es)).map fun rr => runN rr (calmOp op) else none) else none
    | some (.fx k b op) => if (e :: es).length = k then (if !b || c.cm then (denEs n c (e :: es)).map fun rr => runN rr (if c.cx then op else calmOp op) else none) else none
    | some .blt => (match isxD c x (e :: es) with
     | some (_, _, _, tab) => (denE n c e).map fun ra => run1 ra (opIsx tab)
     | none => if !c.cm then none else match bltD (c.isMut pos) x with
     | some (_, op) => (denEs n c (e :: es)).map fun rr => runN rr op
     | none => (match tyCallD (c.isMut pos) x with
      | some (_, op) => (denEs n c (e :: es)).map fun rr => runN rr op
      | none => none))
    | _ => none)
   | _ => none) else none
  | .Subscript a (.Slice none none none _) pos => (denE n c a).map fun ra => runSlNN (c.isMut pos) ra
  | .Subscript a (.Slice (some l) none none _) pos => (denE n c a).bind fun ra => (denE n c l).map fun rl => runSlSN (c.isMut pos) ra rl
  | .Subscript a (.Slice none (some h) none _) pos => (denE n c a).bind fun ra => (denE n c h).map fun rh => runSlNS (c.isMut pos) ra rh
  | .Subscript a (.Slice (some l) (some h) none _) pos => (denE n c a).bind fun ra => (denE n c l).bind fun rl => (denE n c h).map fun rh => runSlSS (c.isMut pos) ra rl rh
  | .Subscript a b _ => if plainIx b then (match dconD c a with
   | some (_, _, ks, ws) => (denE n c b).map fun rb => run1 rb (opIdxC ks ws)
   | none => (denE n c a).bind fun ra => (denE n c b).map fun rb => run2 ra rb opIdx) else none
  | .ListComp elt [⟨.Name x _, iter, [], 0⟩] scope pos => if !c.cm then none else if noSet iter && compOk scope c.sc x then (denI n c iter).bind fun src => (slots c.N (freesOf scope)).bind fun cap =>
    (denE n { c with N := x :: freesOf scope, sc := relabelS scope c.sc, cx := false } elt).map fun re => runComp (c.isMut pos) src cap (rCon (.bl true)) re else none
  | .ListComp elt [⟨.Name x _, iter, [t], 0⟩] scope pos => if !c.cm then none else if noSet iter && compOk scope c.sc x then (denI n c iter).bind fun src => (slots c.N (freesOf scope)).bind fun cap =>
    (denT n { c with N := x :: freesOf scope, sc := relabelS scope c.sc, cx := false } t).bind fun rt => (denE n { c with N := x :: freesOf scope, sc := relabelS scope c.sc, cx := false } elt).map fun re => runComp (c.isMut pos) src cap rt re else none
  | .Dict [] [] _ => some rDict0
  | .JoinedStr (a :: b :: es) _ => (denJ n c (a :: b :: es)).map fun rs => runJ rs Str.empty
  | .FormattedValue a (-1) none _ => (denE n c a).map fun ra => run1 ra opFmt
  | .Call (.Attribute o m apos) (e :: es) [] cpos => if noCall0 o && apos.endLine == cpos.line && (e :: es).all noStar && decide ((e :: es).length < 30) then (mthD m).bind fun (T, op) => (denE n c o).bind fun ro => (denEs n c (e :: es)).map fun rr => runM T ro rr op else none
  | .Call (.Attribute o m apos) [] [] cpos => if noCall0 o && apos.endLine == cpos.line then (mthD m).bind fun (T, op) => (denE n c o).map fun ro => runM T ro runsNil op else none
  | _ => none
def denT : Nat → FC → Expr → Option Run
 | 0, _, _ => none
 | n + 1, c, e => match e with
  | .UnaryOp .Not a _ => (denT n c a).map runNot
  | .BoolOp op [a] _ => denT n c a
  | .BoolOp .And (a :: b :: rest) pos => (denT n c a).bind fun ra => (denT n c (.BoolOp .And (b :: rest) pos)).map fun rb => runAnd ra rb
  | .BoolOp .Or (a :: b :: rest) pos => (denT n c a).bind fun ra => (denT n c (.BoolOp .Or (b :: rest) pos)).map fun rb => runOr ra rb
  | .Compare a [op] [b] _ => (match dconD c b with
   | some (_, _, ks, ws) => (denE n c a).bind fun ra => (cmpC op ks ws).map fun o => run1 ra o
   | none => if noSet b then (denE n c a).bind fun ra => (denE n c b).bind fun rb => (cmpD op).map fun o => run2 ra rb o else none)
  | .Compare a [op, op'] [b, d] _ => if noSet d then (denE n c a).bind fun ra => (denE n c b).bind fun rb => (denE n c d).bind fun rd => (cmpD op).bind fun o => (cmpD op').map fun o' => runC ra rb rd o o' else none
  | e => if plainT e then denE n c e else none
def denEs : Nat → FC → List Expr → Option Runs
 | 0, _, _ => none
 | n + 1, c, es => match es with
  | [] => some runsNil
  | e :: es => if noStar e then (denE n c e).bind fun r => (denEs n c es).map fun rr => runsCons r rr else none
def denJ : Nat → FC → List Expr → Option (List Run)
 | 0, _, _ => none
 | n + 1, c, es => match es with
  | [] => some []
  | e :: es => (denE n c e).bind fun r => (denJ n c es).map fun rs => r :: rs
def denI : Nat → FC → Expr → Option Src
 | 0, _, _ => none
 | n + 1, c, e => match e with
  | .Call (.Name x p) [a] [] pos => if x == ("range" : Str) then (match c.sc.names.lookup x, c.gl.lookup x with
    | some .globalImplicit, some .blt => if noStar a then (denE n c a).map runRng1 else none
    | _, _ => none)
   else (denE n c (.Call (.Name x p) [a] [] pos)).map runSrc
  | .Call (.Name x p) [a, b] [] pos => if x == ("range" : Str) then (match c.sc.names.lookup x, c.gl.lookup x with
    | some .globalImplicit, some .blt => if noStar a && noStar b then (denE n c a).bind fun ra => (denE n c b).map fun rb => runRng2 ra rb else none
    | _, _ => none)
   else (denE n c (.Call (.Name x p) [a, b] [] pos)).map runSrc
  | e => (denE n c e).map runSrc
end
end DL
namespace DL
open PySem PySem.Spec PyProof.Rows L2
section
variable {X : Cx}
theorem binD_ok {op : Operator} {o : Op2} (h : binD op = some o) : OpW X (binaryOp op) o := by
 cases op <;> first | (cases h; first | exact opw_add | exact opw_sub | exact opw_mul | exact opw_div | exact opw_mod | exact opw_pow) | cases h
theorem cmpD_ok {op : CmpOp} {o : Op2} (hu : X.A.units + 64 < cLine) (h : cmpD op = some o) : OpW X (compareOp op) o := by
 cases op <;> first | (cases h; first | exact opw_is | exact opw_isNot | exact opw_eq hu | exact opw_ne hu | exact opw_lt | exact opw_le | exact opw_gt | exact opw_ge | exact opw_in hu | exact opw_notIn hu) | cases h
theorem bltD_ok {m : Bool} {x : Str} {f : Value} {op : OpN} (hc : X.calm = true) (h : bltD m x = some (f, op)) : ∃ id, f = .builtin id ∧ bootBuiltins x = some (.builtin id) ∧ CallW X (.builtin id) op := by
 unfold bltD at h
 repeat' split at h
 all_goals first
  | (cases h; rename_i e; have e' := eq_of_beq e; subst e'; exact ⟨_, rfl, by decide +kernel, by first | exact cw_len | exact cw_all hc | exact cw_any hc | exact cw_abs | exact cw_max hc | exact cw_isi⟩)
  | cases h
theorem tyCallD_ok {m : Bool} {x : Str} {T : String} {op : OpN} (h : tyCallD m x = some (T, op)) : bootBuiltins x = some (.type T) ∧ CallW X (.type T) op := by
 unfold tyCallD at h
 repeat' split at h
 all_goals first
  | (cases h; rename_i e; have e' := eq_of_beq e; subst e'; exact ⟨by decide +kernel, by first | exact cw_tuple | exact cw_list | exact cw_int⟩)
  | cases h
theorem pd_callB {id : String} {op : OpN} {x : Str} {p pos : Pos} {e : Expr} {es : List Expr} {rr : Runs} (hc : CallW X (.builtin id) op) (hg : Gl X x) (hm : X.mg x = none) (hv : bootBuiltins x = some (.builtin id)) (ha : PDA X (e :: es) rr) (hd : dbg x = false) (hs : (e :: es).all noStar = true) :
  PD X (.Call (.Name x p) (e :: es) [] pos) (runN rr op) := by
 rw [List.all_cons, Bool.and_eq_true] at hs
 exact PE.imp (pe_callB hc.r hg hm hv ha (dbg3 hd) (dbg1 hd) (star_cons hs.1) (star_all hs.2)) fun _ _ _ h => tD_callB h
theorem pd_callT {T : String} {op : OpN} {x : Str} {p pos : Pos} {e : Expr} {es : List Expr} {rr : Runs} (hc : CallW X (.type T) op) (hg : Gl X x) (hm : X.mg x = none) (hv : bootBuiltins x = some (.type T)) (ha : PDA X (e :: es) rr) (hd : dbg x = false) (hs : (e :: es).all noStar = true) :
  PD X (.Call (.Name x p) (e :: es) [] pos) (runN rr op) := by
 rw [List.all_cons, Bool.and_eq_true] at hs
 exact PE.imp (pe_callTy hc.r hg hm hv ha (dbg3 hd) (dbg1 hd) (star_cons hs.1) (star_all hs.2)) fun _ _ _ h => tD_callB h
theorem pdi_range2 {tg a b : Expr} {p pos : Pos} {ra rb : Run} (hg : Gl X "range") (hm : X.mg "range" = none) (ha : PD X a ra) (hb : PD X b rb) (hs : starEach [a, b] X.env = [(false, eval a X.env), (false, eval b X.env)]) (hs2 : starEach [b] X.env = [(false, eval b X.env)]) : PDI X tg (.Call (.Name "range" p) [a, b] [] pos) (runRng2 ra rb) := by
 refine PI.imp (pi_range2 hg hm (pda_cons ha (pda_cons hb pda_nil hs2) (by rw [hs, hs2])) hs hs2) fun σ H Q hq => ?_
 obtain ⟨ι, G, st, Γ, en, sr, q⟩ := hq
 refine ⟨ι, G, st, Γ, en, sr, ?_⟩
 unfold runRng2 at q
 unfold runsCons runsNil
 cases e1 : ra Γ st with
 | stuck => rw [e1] at q; exact q
 | ex c s => rw [e1] at q; exact q
 | ok w st1 =>
  rw [e1] at q
  have q0 : match (rb Γ st1).bind fun w' st2 => (match w, w' with
    | .int i, .int j => if inRange i ∧ inRange j then R.ok (rangeW i (j - i).toNat) st2 else R.stuck
    | _, _ => R.stuck) with
   | .ok items st' => ∀ J ι' G' H', Ext ι st.nxt G ι' st'.nxt G' → SR X.K ι' st' G' H' → SrcR X.K J items ι' st'.nxt G' → Q J H'
   | .ex c st' => XW X ι st.nxt G c st'
   | .stuck => False := q
  show match ((rb Γ st1).bind fun w' st1 => (R.ok [] st1).bind fun ws st2 => R.ok (w' :: ws) st2).bind fun ws st2 => R.ok (w :: ws) st2 with
   | .ok ws st' => ∀ vs ι' G' H', Ext ι st.nxt G ι' st'.nxt G' → SR X.K ι' st' G' H' → RelWs X.K ι' st'.nxt G' vs ws → _
   | .ex c st' => XW X ι st.nxt G c st'
   | .stuck => False
  cases e2 : rb Γ st1 with
  | stuck => rw [e2] at q0; exact q0
  | ex c s => rw [e2] at q0; exact q0
  | ok w' st2 =>
   rw [e2] at q0
   intro vs ι1 G1 H1 x1 sr1 r1
   obtain ⟨v, v', rfl, r3, r4⟩ := rel2 r1
   have q' : match (match w, w' with
     | .int i, .int j => if inRange i ∧ inRange j then R.ok (rangeW i (j - i).toNat) st2 else R.stuck
     | _, _ => R.stuck) with
    | .ok items st' => ∀ J ι' G' H', Ext ι st.nxt G ι' st'.nxt G' → SR X.K ι' st' G' H' → SrcR X.K J items ι' st'.nxt G' → Q J H'
    | .ex c st' => XW X ι st.nxt G c st'
    | .stuck => False := q0
   cases w with
   | int i =>
    cases w' with
    | int j =>
     cases r3; cases r4
     by_cases hr : inRange i ∧ inRange j
     ·have q'' : match (if inRange i ∧ inRange j then R.ok (rangeW i (j - i).toNat) st2 else R.stuck) with
       | .ok items st' => ∀ J ι' G' H', Ext ι st.nxt G ι' st'.nxt G' → SR X.K ι' st' G' H' → SrcR X.K J items ι' st'.nxt G' → Q J H'
       | .ex c st' => XW X ι st.nxt G c st'
       | .stuck => False := q'
      rw [if_pos hr] at q''
      exact ⟨i, j, rfl, ⟨hr.1.1, hr.1.2, hr.2.1, hr.2.2⟩, q'' _ ι1 G1 H1 x1 sr1 (src_range i _)⟩
     ·have q'' : match (if inRange i ∧ inRange j then R.ok (rangeW i (j - i).toNat) st2 else R.stuck) with
       | .ok items st' => ∀ J ι' G' H', Ext ι st.nxt G ι' st'.nxt G' → SR X.K ι' st' G' H' → SrcR X.K J items ι' st'.nxt G' → Q J H'
       | .ex c st' => XW X ι st.nxt G c st'
       | .stuck => False := q'
      rw [if_neg hr] at q''
      exact q''.elim
    | _ => exact (show False from q').elim
   | _ => exact (show False from q').elim
end
theorem ob {α β : Type} {o : Option α} {f : α → Option β} {b : β} (h : o.bind f = some b) : ∃ a, o = some a ∧ f a = some b := by
 cases o with
 | none => cases h
 | some a => exact ⟨a, rfl, h⟩
theorem om {α β : Type} {o : Option α} {f : α → β} {b : β} (h : o.map f = some b) : ∃ a, o = some a ∧ f a = b := by
 cases o with
 | none => cases h
 | some a => exact ⟨a, rfl, Option.some.inj h⟩
theorem oite {α : Type} {c : Bool} {x : Option α} {b : α} (h : (if c then x else none) = some b) : c = true ∧ x = some b := by
 cases c with
 | true => exact ⟨rfl, h⟩
 | false => cases h
theorem oite2 {α : Type} {c : Bool} {x : Option α} {b : α} (h : (if !c then none else x) = some b) : c = true ∧ x = some b := by
 cases c with
 | true => exact ⟨rfl, h⟩
 | false => cases h
theorem runs_len : ∀ (n : Nat) (c : FC) (es : List Expr) (rr : Runs), denEs n c es = some rr → ∀ Γ st ws st', rr Γ st = .ok ws st' → ws.length = es.length
 | 0, _, _, _, h => by cases h
 | n + 1, c, [], rr, h => by
  cases h
  intro Γ st ws st' e
  cases e; rfl
 | n + 1, c, e :: es, rr, h => by
  unfold denEs at h
  obtain ⟨_, h⟩ := oite h
  obtain ⟨r, hr, h⟩ := ob h
  obtain ⟨r2, hr2, h⟩ := om h
  subst h
  intro Γ st ws st' e
  unfold runsCons at e
  cases e1 : r Γ st with
  | stuck => rw [e1] at e; cases e
  | ex c s => rw [e1] at e; cases e
  | ok w st1 =>
   rw [e1] at e
   have e' : ((r2 Γ st1).bind fun ws st2 => R.ok (w :: ws) st2) = .ok ws st' := e
   cases e2 : r2 Γ st1 with
   | stuck => rw [e2] at e'; cases e'
   | ex c s => rw [e2] at e'; cases e'
   | ok ws2 st2 =>
    rw [e2] at e'
    cases e'
    rw [List.length_cons, List.length_cons, runs_len n c es r2 hr2 Γ st1 ws2 _ e2]
theorem XOK.u64 {c : FC} {X : Cx} (h : XOK c X) : X.A.units + 64 < cLine := by have := h.units; omega
structure Sound (n : Nat) : Prop where
 e : ∀ (c : FC) (X : Cx) (e : Expr) (r : Run), XOK c X → denE n c e = some r → PD X e r
 t : ∀ (c : FC) (X : Cx) (e : Expr) (r : Run), XOK c X → denT n c e = some r → PT X e (tDT X r)
 w : ∀ (c : FC) (X : Cx) (op : BoolOp) (es : List Expr) (pos : Pos) (r : Run), XOK c X → denT n c (.BoolOp op es pos) = some r → PW X (.BoolOp op es pos) (tDT X r)
 es : ∀ (c : FC) (X : Cx) (es : List Expr) (r : Runs), XOK c X → denEs n c es = some r → PDA X es r
 i : ∀ (c : FC) (X : Cx) (y : Str) (py : Pos) (e : Expr) (r : Src), XOK c X → denI n c e = some r → PDI X (.Name y py) e r
 j : ∀ (c : FC) (X : Cx) (es : List Expr) (rs : List Run), XOK c X → denJ n c es = some rs → Paired (fun e r => PD X e r) es rs
theorem sound : ∀ n, Sound n
 | 0 => ⟨fun _ _ _ _ _ h => by (unfold denE at h; cases h), fun _ _ _ _ _ h => by (unfold denT at h; cases h), fun _ _ _ _ _ _ _ h => by (unfold denT at h; cases h), fun _ _ _ _ _ h => by (unfold denEs at h; cases h), fun _ _ _ _ _ _ _ h => by (unfold denI at h; cases h), fun _ _ _ _ _ h => by (unfold denJ at h; cases h)⟩
 | n + 1 => by
  have ih := sound n
  have he : ∀ (c : FC) (X : Cx) (e : Expr) (r : Run), XOK c X → denE (n + 1) c e = some r → PD X e r := by
   intro c X e r xo h
   unfold denE at h
   split at h
   case h_1 x pos =>
    by_cases hd : dbg x = true
    ·rw [if_pos hd] at h; cases h
    ·rw [if_neg hd] at h
     have hd' : dbg x = false := by simpa using hd
     have var : ∀ {r : Run}, (slot c.N x).map rVar = some r → Vis X.env.scope x → PD X (.Name x pos) r := by
      intro r h hv
      obtain ⟨i, hi, rfl⟩ := om h
      exact pd_var (by rw [xo.N]; exact slot_get hi) hv (dbg1 hd') (dbg2 hd')
     split at h
     ·rename_i hl
      split at h
      ·rename_i w hw
       cases h
       obtain ⟨u, v, h1, h2, h3⟩ := xo.con x w hw
       exact pd_con (pe_glob (xo.gl hl) h1 h2 (dbg1 hd')) h3
      ·rename_i hw
       obtain ⟨T, hT, rfl⟩ := om h
       exact pd_con (v := .ty T) (pe_bltn (xo.gl hl) (xo.blt x hw) (tyD_boot hT) rfl (dbg3 hd') (dbg1 hd')) fun _ _ _ => .ty T
      ·cases h
     ·rename_i hl; exact var h (.inl (by rw [xo.sc]; exact hl))
     ·rename_i hl; exact var h (.inr (.inl (by rw [xo.sc]; exact hl)))
     ·rename_i hl; exact var h (.inr (.inr (by rw [xo.sc]; exact hl)))
     ·cases h
   case h_2 => cases h; exact pd_con pe_int fun _ _ _ => .int _
   case h_3 => cases h; exact pd_con pe_str fun _ _ _ => .str _
   case h_4 => cases h; exact pd_con pe_bl fun _ _ _ => .bl _
   case h_5 => cases h; exact pd_con pe_non fun _ _ _ => .non
   case h_6 a op b pos =>
    obtain ⟨ra, ha, h⟩ := ob h
    obtain ⟨rb, hb, h⟩ := ob h
    obtain ⟨o, ho, rfl⟩ := om h
    exact pd_op (binD_ok ho) (ih.e c X a ra xo ha) (ih.e c X b rb xo hb)
   case h_7 a pos => obtain ⟨ra, ha, rfl⟩ := om h; exact pd_not (ih.e c X a ra xo ha)
   case h_8 a pos => obtain ⟨ra, ha, rfl⟩ := om h; exact pd_neg (ih.e c X a ra xo ha)
   case h_9 op a pos => exact pd_one (ih.e c X a r xo h)
   case h_10 a b rest pos => obtain ⟨ra, ha, h⟩ := ob h; obtain ⟨rb, hb, rfl⟩ := om h; exact pd_and (ih.e c X a ra xo ha) (ih.e c X _ rb xo hb)
   case h_11 a b rest pos => obtain ⟨ra, ha, h⟩ := ob h; obtain ⟨rb, hb, rfl⟩ := om h; exact pd_or (ih.e c X a ra xo ha) (ih.e c X _ rb xo hb)
   case h_12 a op b pos =>
    split at h
    ·rename_i y p ks ws hdc
     obtain ⟨rfl, hdy, hly, hgy⟩ := dconD_ok hdc
     obtain ⟨ra, ha, h⟩ := ob h
     obtain ⟨o, ho, rfl⟩ := om h
     have hD := xo.dcon y ks ws hgy
     unfold cmpC at ho
     split at ho
     ·cases ho; exact pd_inC hD (xo.gl hly) (dbg1 hdy) (ih.e c X a ra xo ha)
     ·cases ho; exact pd_notInC hD (xo.gl hly) (dbg1 hdy) (ih.e c X a ra xo ha)
     ·cases ho
    obtain ⟨hn, h⟩ := oite h
    obtain ⟨ra, ha, h⟩ := ob h
    obtain ⟨rb, hb, h⟩ := ob h
    obtain ⟨o, ho, rfl⟩ := om h
    exact pd_cmp (cmpD_ok xo.u64 ho) (ih.e c X a ra xo ha) (ih.e c X b rb xo hb) (noSet_behind hn)
   case h_13 a op op' b d pos =>
    obtain ⟨hn, h⟩ := oite h
    obtain ⟨ra, ha, h⟩ := ob h
    obtain ⟨rb, hb, h⟩ := ob h
    obtain ⟨rd, hd, h⟩ := ob h
    obtain ⟨o, ho, h⟩ := ob h
    obtain ⟨o', ho', rfl⟩ := om h
    exact pd_chain (cmpD_ok xo.u64 ho) (cmpD_ok xo.u64 ho') (ih.e c X a ra xo ha) (ih.e c X b rb xo hb) (ih.e c X d rd xo hd) (noSet_last hn)
   case h_14 t a b pos =>
    obtain ⟨rt, ht, h⟩ := ob h
    obtain ⟨ra, ha, h⟩ := ob h
    obtain ⟨rb, hb, rfl⟩ := om h
    exact pd_if (ih.t c X t rt xo ht) (ih.e c X a ra xo ha) (ih.e c X b rb xo hb)
   case h_15 es k pos => obtain ⟨rr, hr, rfl⟩ := om h; exact pd_tup (ih.es c X es rr xo hr)
   case h_16 es pos =>
    obtain ⟨rr, hr, rfl⟩ := om h
    cases c.isMut pos with
    | true => exact pd_newL (ih.es c X es rr xo hr)
    | false => exact pd_lst (ih.es c X es rr xo hr)
   case h_17 x p e es pos =>
    by_cases hd : dbg x = true
    ·rw [if_pos hd] at h; cases h
    ·rw [if_neg hd] at h
     have hd' : dbg x = false := by simpa using hd
     obtain ⟨hs, h⟩ := oite h
     split at h
     ·rename_i hl
      split at h
      ·rename_i k op hw
       split at h
       ·rename_i hk
        obtain ⟨hcm, h⟩ := oite h
        obtain ⟨rr, hr, rfl⟩ := om h
        obtain ⟨kk, f, fd, ps, F, R, h1, h2, h3, _⟩ := xo.fn hcm x k op hw
        have R := R.mono (Nat.le_add_right kk 2)
        have hs' := hs
        rw [List.all_cons, Bool.and_eq_true] at hs'
        exact pd_call F R (xo.gl hl) h1 h2 h3 (ih.es c X _ rr xo hr) (fun Γ st ws st' e => by rw [runs_len n c _ rr hr Γ st ws st' e]; exact hk) (dbg1 hd') (star_cons hs'.1) (star_all hs'.2)
       ·cases h
      ·rename_i k b op hw
       split at h
       ·rename_i hk
        obtain ⟨hcm, h⟩ := oite h
        obtain ⟨rr, hr, rfl⟩ := om h
        obtain ⟨kk, f, fd, ps, F, R, h1, h2, h3, _⟩ := xo.fx x k b op hw
        have R := R.mono (Nat.le_add_right kk 2)
        have R : RoomB b kk X.A := ⟨fun hb => xo.hnd (by rw [hb] at hcm; simpa using hcm), R.dp, R.un⟩
        have hs' := hs
        rw [List.all_cons, Bool.and_eq_true] at hs'
        have hl' : ∀ Γ st ws st', rr Γ st = .ok ws st' → ws.length = k := fun Γ st ws st' e => by rw [runs_len n c _ rr hr Γ st ws st' e]; exact hk
        cases c.cx with
        | true => exact pd_callX F R (xo.gl hl) h1 h2 h3 (ih.es c X _ rr xo hr) hl' (dbg1 hd') (star_cons hs'.1) (star_all hs'.2)
        | false => exact pd_callXc F R (xo.gl hl) h1 h2 h3 (ih.es c X _ rr xo hr) hl' (dbg1 hd') (star_cons hs'.1) (star_all hs'.2)
       ·cases h
      ·rename_i hw
       split at h
       ·rename_i a y p2 tab hix
        obtain ⟨ra, ha, er⟩ := om h
        subst er
        clear h
        obtain ⟨ex, hes, hdy, hly, own, hgy⟩ := isxD_ok hix
        clear hix
        subst ex
        obtain ⟨e1, e2⟩ := List.cons.inj hes
        subst e2
        have ha : denE n c a = some ra := e1 ▸ ha
        have e1 : e = a := e1
        subst e1
        obtain ⟨cv, vc, EO⟩ := xo.exc y own tab hgy
        have hs' := hs
        rw [List.all_cons, Bool.and_eq_true] at hs'
        have hy : PE X (.Name y p2) (tC vc) := by
         cases own with
         | true => exact pe_glob (xo.gl hly) (EO.glob rfl).1 EO.rel (dbg1 hdy)
         | false => exact pe_bltn (xo.gl hly) (EO.blt rfl).1 (EO.blt rfl).2 EO.rel (dbg3 hdy) (dbg1 hdy)
        exact pd_isx (xo.gl hl) (xo.blt _ hw) (ih.e c X e ra xo ha) hy EO.rel EO.un (fun x b q => let ⟨C, h1, h2, h3, _⟩ := EO.tab x b q; ⟨C, h1, h2, h3⟩) (star_cons hs'.1) rfl (star_all hs'.2)
       obtain ⟨hcm, h⟩ := oite2 h
       split at h
       ·rename_i f op hb
        obtain ⟨rr, hr, rfl⟩ := om h
        obtain ⟨id, rfl, h1, h2⟩ := bltD_ok (X := X) (xo.calm hcm) hb
        exact pd_callB h2 (xo.gl hl) (xo.blt x hw) h1 (ih.es c X _ rr xo hr) hd' hs
       ·split at h
        ·rename_i T op hb
         obtain ⟨rr, hr, rfl⟩ := om h
         obtain ⟨h1, h2⟩ := tyCallD_ok (X := X) hb
         exact pd_callT h2 (xo.gl hl) (xo.blt x hw) h1 (ih.es c X _ rr xo hr) hd' hs
        ·cases h
      ·cases h
     ·cases h
   case h_18 a p2 pos => obtain ⟨ra, ha, rfl⟩ := om h; exact pd_slNN (ih.e c X a ra xo ha)
   case h_19 a l p2 pos => obtain ⟨ra, ha, h⟩ := ob h; obtain ⟨rl, hl, rfl⟩ := om h; exact pd_slSN (ih.e c X a ra xo ha) (ih.e c X l rl xo hl)
   case h_20 a l p2 pos => obtain ⟨ra, ha, h⟩ := ob h; obtain ⟨rl, hl, rfl⟩ := om h; exact pd_slNS (ih.e c X a ra xo ha) (ih.e c X l rl xo hl)
   case h_21 a l hh p2 pos => obtain ⟨ra, ha, h⟩ := ob h; obtain ⟨rl, hl, h⟩ := ob h; obtain ⟨rh, hr, rfl⟩ := om h; exact pd_slSS (ih.e c X a ra xo ha) (ih.e c X l rl xo hl) (ih.e c X hh rh xo hr)
   case h_22 a b pos _ _ _ _ =>
    obtain ⟨hp, h2⟩ := oite h
    clear h
    split at h2
    ·rename_i y p ks ws hdc
     obtain ⟨ea, hdy, hly, hgy⟩ := dconD_ok hdc
     obtain ⟨rb, hb, rfl⟩ := om h2
     rw [ea]
     exact pd_idxC (xo.dcon y ks ws hgy) (xo.gl hly) (dbg1 hdy) (ih.e c X b rb xo hb) (plainIx_noSl hp)
    obtain ⟨ra, ha, h3⟩ := ob h2
    obtain ⟨rb, hb, rfl⟩ := om h3
    exact pd_ixX (by have := xo.units; omega) (ih.e c X a ra xo ha) (ih.e c X b rb xo hb) (plainIx_noSl hp) (pd_ix0 (ih.e c X a ra xo ha) (ih.e c X b rb xo hb) (plainIx_ok hp))
   case h_23 elt x px iter scope pos =>
    obtain ⟨hcm, h⟩ := oite2 h
    obtain ⟨hk, h⟩ := oite h
    rw [Bool.and_eq_true] at hk
    obtain ⟨src, hsrc, h⟩ := ob h
    obtain ⟨cap, hcap, h⟩ := ob h
    obtain ⟨re, hre, rfl⟩ := om h
    refine (pd_comp (xo.calm hcm) (ih.i c X x px iter src xo hsrc) (comp_sc xo hk.2 hcap) (fun C s H ex => ?_) (fun C s H ex => PD.calm (ih.e _ _ elt re (comp_xok xo hk.2 hcap C s H ex) hre)) (noSet_fold hk.1)).1
    intro pins s' σ H' Q I q
    refine pts_nil pins s' σ H' Q I ?_
    obtain ⟨ι, G, st, Γ, en, sr, q⟩ := q
    obtain ⟨b, e, q'⟩ := q (.bl true) ι G H' (Ext.refl _ _ _) sr (.bl true)
    cases e; exact q'
   case h_24 elt x px iter t scope pos =>
    obtain ⟨hcm, h⟩ := oite2 h
    obtain ⟨hk, h⟩ := oite h
    rw [Bool.and_eq_true] at hk
    obtain ⟨src, hsrc, h⟩ := ob h
    obtain ⟨cap, hcap, h⟩ := ob h
    obtain ⟨rt, hrt, h⟩ := ob h
    obtain ⟨re, hre, rfl⟩ := om h
    exact (pd_comp (xo.calm hcm) (ih.i c X x px iter src xo hsrc) (comp_sc xo hk.2 hcap) (fun C s H ex => pts_one (PT.calm (ih.t _ _ t rt (comp_xok xo hk.2 hcap C s H ex) hrt))) (fun C s H ex => PD.calm (ih.e _ _ elt re (comp_xok xo hk.2 hcap C s H ex) hre)) (noSet_fold hk.1)).1
   case h_25 => cases h; exact pd_dict0
   case h_26 a b es pos =>
    obtain ⟨rs, hr, rfl⟩ := om h
    exact pd_joined (ih.j c X _ rs xo hr) (evalEach_map _ _)
   case h_27 a pos => obtain ⟨ra, ha, rfl⟩ := om h; exact pd_fmt (ih.e c X a ra xo ha)
   case h_28 o m apos e es cpos =>
    obtain ⟨hk, h⟩ := oite h
    simp only [Bool.and_eq_true, decide_eq_true_eq] at hk
    obtain ⟨⟨⟨h1, h2⟩, h3⟩, h4⟩ := hk
    obtain ⟨⟨T, op⟩, hm, h⟩ := ob h
    obtain ⟨ro, ho, h⟩ := ob h
    obtain ⟨rr, hr, rfl⟩ := om h
    obtain ⟨id, M⟩ := mthD_ok (X := X) hm
    have h3' := h3
    rw [List.all_cons, Bool.and_eq_true] at h3'
    exact pd_mt M.hT M.pa M.slot M.hty M.hm (ih.e c X o ro xo ho) (ih.es c X _ rr xo hr) h1 (star_few h3 h4) h2 (star_cons h3'.1) (star_all h3'.2)
   case h_29 o m apos cpos =>
    obtain ⟨hk, h⟩ := oite h
    simp only [Bool.and_eq_true] at hk
    obtain ⟨⟨T, op⟩, hm, h⟩ := ob h
    obtain ⟨ro, ho, rfl⟩ := om h
    obtain ⟨id, M⟩ := mthD_ok (X := X) hm
    exact pd_mt0 M.hT M.pa M.slot M.hty M.hm (ih.e c X o ro xo ho) hk.1 hk.2
   all_goals cases h
  have hw : ∀ (c : FC) (X : Cx) (op : BoolOp) (es : List Expr) (pos : Pos) (r : Run), XOK c X → denT (n + 1) c (.BoolOp op es pos) = some r → PW X (.BoolOp op es pos) (tDT X r) := by
   intro c X op es pos r xo h
   unfold denT at h
   match op, es, h with
   | op, [], h => exact absurd h (by cases op <;> simp [plainT])
   | op, [a], h => exact pwt_one (ih.t c X a r xo (by cases op <;> exact h))
   | .And, a :: b :: rest, h => obtain ⟨ra, ha, h⟩ := ob h; obtain ⟨rb, hb, rfl⟩ := om h; exact pwt_and (ih.t c X a ra xo ha) (ih.w c X .And (b :: rest) pos rb xo hb)
   | .Or, a :: b :: rest, h => obtain ⟨ra, ha, h⟩ := ob h; obtain ⟨rb, hb, rfl⟩ := om h; exact pwt_or (ih.t c X a ra xo ha) (ih.w c X .Or (b :: rest) pos rb xo hb)
  have ht : ∀ (c : FC) (X : Cx) (e : Expr) (r : Run), XOK c X → denT (n + 1) c e = some r → PT X e (tDT X r) := by
   intro c X e r xo h
   by_cases hb : ∃ op es pos, e = .BoolOp op es pos
   ·obtain ⟨op, es, pos, rfl⟩ := hb
    exact (hw c X op es pos r xo h).pt
   ·unfold denT at h
    split at h
    case h_1 a pos => obtain ⟨ra, ha, rfl⟩ := om h; exact pdt_not (ih.t c X a ra xo ha)
    case h_2 op a pos => exact absurd ⟨_, _, _, rfl⟩ hb
    case h_3 a b rest pos => exact absurd ⟨_, _, _, rfl⟩ hb
    case h_4 a b rest pos => exact absurd ⟨_, _, _, rfl⟩ hb
    case h_5 a op b pos =>
     split at h
     ·rename_i y p ks ws hdc
      obtain ⟨rfl, hdy, hly, hgy⟩ := dconD_ok hdc
      obtain ⟨ra, ha, h⟩ := ob h
      obtain ⟨o, ho, rfl⟩ := om h
      have hD := xo.dcon y ks ws hgy
      unfold cmpC at ho
      split at ho
      ·cases ho; exact pdt_inC hD (xo.gl hly) (dbg1 hdy) (ih.e c X a ra xo ha)
      ·cases ho; exact pdt_notInC hD (xo.gl hly) (dbg1 hdy) (ih.e c X a ra xo ha)
      ·cases ho
     obtain ⟨hn, h⟩ := oite h
     obtain ⟨ra, ha, h⟩ := ob h
     obtain ⟨rb, hb', h⟩ := ob h
     obtain ⟨o, ho, rfl⟩ := om h
     exact pdt_cmp (cmpD_ok xo.u64 ho) (ih.e c X a ra xo ha) (ih.e c X b rb xo hb') (noSet_behind hn)
    case h_6 a op op' b d pos =>
     obtain ⟨hn, h⟩ := oite h
     obtain ⟨ra, ha, h⟩ := ob h
     obtain ⟨rb, hb', h⟩ := ob h
     obtain ⟨rd, hd, h⟩ := ob h
     obtain ⟨o, ho, h⟩ := ob h
     obtain ⟨o', ho', rfl⟩ := om h
     exact pdt_chain (cmpD_ok xo.u64 ho) (cmpD_ok xo.u64 ho') (ih.e c X a ra xo ha) (ih.e c X b rb xo hb') (ih.e c X d rd xo hd) (noSet_last hn)
    case h_7 =>
     obtain ⟨hp, h⟩ := oite h
     exact pdt_val (ih.e c X e r xo h) (plainT_ok hp)
  have hes : ∀ (c : FC) (X : Cx) (es : List Expr) (r : Runs), XOK c X → denEs (n + 1) c es = some r → PDA X es r := by
   intro c X es r xo h
   unfold denEs at h
   match es, h with
   | [], h => cases h; exact pda_nil
   | e :: es, h =>
    obtain ⟨hs, h⟩ := oite h
    obtain ⟨ra, ha, h⟩ := ob h
    obtain ⟨rr, hr, rfl⟩ := om h
    exact pda_cons (ih.e c X e ra xo ha) (ih.es c X es rr xo hr) (star_cons hs)
  have hi : ∀ (c : FC) (X : Cx) (y : Str) (py : Pos) (e : Expr) (r : Src), XOK c X → denI (n + 1) c e = some r → PDI X (.Name y py) e r := by
   intro c X y py e r xo h
   unfold denI at h
   split at h
   case h_1 x p a pos =>
    by_cases hx : (x == ("range" : Str)) = true
    ·rw [if_pos hx] at h
     have hx' := eq_of_beq hx
     subst hx'
     split at h
     ·rename_i hl hw
      obtain ⟨hs, h⟩ := oite h
      obtain ⟨ra, ha, rfl⟩ := om h
      exact pdi_range1 (xo.gl hl) (xo.blt _ hw) (ih.e c X a ra xo ha) (star_cons hs)
     ·cases h
    ·rw [if_neg hx] at h
     obtain ⟨ra, ha, rfl⟩ := om h
     exact pdi_val (ih.e c X _ ra xo ha)
   case h_2 x p a b pos =>
    by_cases hx : (x == ("range" : Str)) = true
    ·rw [if_pos hx] at h
     have hx' := eq_of_beq hx
     subst hx'
     split at h
     ·rename_i hl hw
      obtain ⟨hs, h⟩ := oite h
      rw [Bool.and_eq_true] at hs
      obtain ⟨ra, ha, h⟩ := ob h
      obtain ⟨rb, hb, rfl⟩ := om h
      have s2 : starEach [b] X.env = [(false, eval b X.env)] := star_cons hs.2
      exact pdi_range2 (xo.gl hl) (xo.blt _ hw) (ih.e c X a ra xo ha) (ih.e c X b rb xo hb) (by rw [star_cons hs.1, s2]) s2
     ·cases h
    ·rw [if_neg hx] at h
     obtain ⟨ra, ha, rfl⟩ := om h
     exact pdi_val (ih.e c X _ ra xo ha)
   case h_3 =>
    obtain ⟨ra, ha, rfl⟩ := om h
    exact pdi_val (ih.e c X e ra xo ha)
  have hj : ∀ (c : FC) (X : Cx) (es : List Expr) (rs : List Run), XOK c X → denJ (n + 1) c es = some rs → Paired (fun e r => PD X e r) es rs := by
   intro c X es rs xo h
   unfold denJ at h
   match es, h with
   | [], h => cases h; exact .nil
   | e :: es, h =>
    obtain ⟨ra, ha, h⟩ := ob h
    obtain ⟨rr, hr, rfl⟩ := om h
    exact .cons (ih.e c X e ra xo ha) (ih.j c X es rr xo hr)
  exact ⟨he, ht, hw, hes, hi, hj⟩
end DL
namespace DL
open PySem PySem.Spec PyProof.Rows L2
def isComp : Expr → Bool
 | .ListComp _ _ _ _ => true
 | .SetComp _ _ _ _ => true
 | .DictComp _ _ _ _ _ => true
 | _ => false
theorem noComp_swaps {e : Expr} {t : Option Expr} {l : Nat} {env : Env} (h : isComp e = false) : swapsWith e t l env = pure false := by
 cases e <;> first | rfl | exact absurd (show true = false from h) (by decide)
def isTup : Expr → Bool
 | .Tuple _ _ _ => true
 | _ => false
mutual
def denS : Nat → FC → Stmt → Option RunS
 | 0, _, _ => none
 | n + 1, c, s => match s with
  | .Return none _ => some sRetN
  | .Return (some e) _ => (denE n c e).map sRet
  | .Pass _ => some sPass
  | .Break _ => some sBrk
  | .Continue _ => some sCnt
  | .Assign [.Name x _] e _ => (match c.sc.names.lookup x with
   | some .local => (slot c.N x).bind fun i => (denE n c e).map fun r => sSet i r
   | some .cell => (slot c.N x).bind fun i => (denE n c e).map fun r => sSet i r
   | _ => none)
  | .Assign [.Subscript o i _] e _ => if isComp e || isTup e || !plainIx i then none else (denE n c o).bind fun ro => (denE n c i).bind fun ri => (denE n c e).map fun rv => sSetIx ro ri rv
  | .If t a b _ => (denT n c t).bind fun rt => (denSs n c a).bind fun ra => (denSs n c b).map fun rb => sIf rt ra rb
  | .For (.Name x _) iter body [] _ => if !c.cm then none else if noSet iter then (match c.sc.names.lookup x with
   | some .local => (slot c.N x).bind fun i => (denI n c iter).bind fun src => (denSs n c body).map fun rb => sFor i src rb
   | some .cell => (slot c.N x).bind fun i => (denI n c iter).bind fun src => (denSs n c body).map fun rb => sFor i src rb
   | _ => none) else none
  | .Expr e _ => if isComp e then none else (denE n c e).map sDrop
  | .Raise (some (.Call (.Name y _) (e :: es) [] _)) none _ => if c.cm && c.cx && !dbg y && (e :: es).all noStar then (match c.sc.names.lookup y, c.gl.lookup y with
   | some .globalImplicit, some (.exc true _) => (denEs n c (e :: es)).map fun rr => sRaise y rr
   | _, _ => none) else none
  | .Try body [.ExceptHandler (some (.Name y _)) (some m) (s :: ss) _] [] [] _ => if c.cm && c.cx && !dbg y then (match c.sc.names.lookup y, c.gl.lookup y, c.sc.names.lookup m with
   | some .globalImplicit, some (.exc true tab), some .local => (slot c.N m).bind fun i => (denSs n c body).bind fun rb => (denSs n { c with cm := false, cx := false } (s :: ss)).map fun rs => sTry c.N.length i tab rb rs
   | _, _, _ => none) else none
  | _ => none
def denSs : Nat → FC → List Stmt → Option RunS
 | 0, _, _ => none
 | n + 1, c, ss => match ss with
  | [] => some sPass
  | s :: ss => (denS n c s).bind fun a => (denSs n c ss).map fun b => sSeq a b
end
structure XS (c : FC) (X : Cx) : Prop extends XOK c X where
 fnx : ∀ x, X.fn x = true
 own' : PassesOwn (model X.prog X.w) X.A X.env X.xe
structure SoundS (n : Nat) : Prop where
 s : ∀ (c : FC) (X : Cx) (s : Stmt) (r : RunS), XS c X → denS n c s = some r → PDS X s r
 ss : ∀ (c : FC) (X : Cx) (s : List Stmt) (r : RunS), XS c X → denSs n c s = some r → PDSs X s r
theorem set_sound {n : Nat} {c : FC} {X : Cx} {x : Str} {i : Nat} {e : Expr} {r : Run} {p pos : Pos} (xo : XS c X) (hl : c.sc.names.lookup x = some .local ∨ c.sc.names.lookup x = some .cell) (hi : slot c.N x = some i) (he : denE n c e = some r) : PDS X (.Assign [.Name x p] e pos) (sSet i r) := by
 have hN : X.N.Nodup := by rw [xo.N]; exact xo.nd
 have hx : X.N[i]? = some x := by rw [xo.N]; exact slot_get hi
 have hL : Loc X.env.scope x := by show X.env.scope.names.lookup x = _ ∨ _; rw [xo.sc]; exact hl
 have hp := (sound n).e c X e r xo.toXOK he
 by_cases hc : isComp e = false
 ·exact pds_set hN hx hL hp (noComp_swaps hc) (.inl (xo.fnx x))
 ·cases e with
  | ListComp elt gens scope cpos =>
   by_cases hb : (X.env.blockKind == .function && X.env.kindOf x == some .local && p.line == cpos.line && !(scope.names.any fun (n, k) => n == x && (k == .local || k == .cell))) = true
   ·have hsw : swapsWith (.ListComp elt gens scope cpos) (some (.Name x p)) pos.line X.env = pure true := by
     show (pure (X.env.blockKind == .function && X.env.kindOf x == some .local && p.line == cpos.line && !(scope.names.any fun (n, k) => n == x && (k == .local || k == .cell))) : Sem Bool) = pure true
     rw [hb]
    have hloc : X.env.scope.names.lookup x = some .local := by
     simp only [Bool.and_eq_true] at hb
     exact eq_of_beq hb.1.1.2
    cases n with
    | zero => unfold denE at he; cases he
    | succ n =>
     unfold denE at he
     split at he <;> rename_i heq <;> first | (cases heq; done) | skip
     all_goals first | (cases he; done) | skip
     ·cases heq
      obtain ⟨hcm, he⟩ := oite2 he
      obtain ⟨hk, he⟩ := oite he
      rw [Bool.and_eq_true] at hk
      obtain ⟨src, hsrc, he⟩ := ob he
      obtain ⟨cap, hcap, he⟩ := ob he
      obtain ⟨re, hre, rfl⟩ := om he
      refine PS.imp ((pd_comp (xo.calm hcm) ((sound n).i c X _ _ _ src xo.toXOK hsrc) (comp_sc xo.toXOK hk.2 hcap) (fun C s H ex => ?_) (fun C s H ex => PD.calm ((sound n).e _ _ _ re (comp_xok xo.toXOK hk.2 hcap C s H ex) hre)) (noSet_fold hk.1)).2 hN hx hloc hsw) fun D σ H h => asg_set h
      intro pins s' σ H' Q I q
      refine pts_nil pins s' σ H' Q I ?_
      obtain ⟨ι, G, st, Γ, en, sr, q⟩ := q
      obtain ⟨b, e, q'⟩ := q (.bl true) ι G H' (Ext.refl _ _ _) sr (.bl true)
      cases e; exact q'
     ·cases heq
      obtain ⟨hcm, he⟩ := oite2 he
      obtain ⟨hk, he⟩ := oite he
      rw [Bool.and_eq_true] at hk
      obtain ⟨src, hsrc, he⟩ := ob he
      obtain ⟨cap, hcap, he⟩ := ob he
      obtain ⟨rt, hrt, he⟩ := ob he
      obtain ⟨re, hre, rfl⟩ := om he
      exact PS.imp ((pd_comp (xo.calm hcm) ((sound n).i c X _ _ _ src xo.toXOK hsrc) (comp_sc xo.toXOK hk.2 hcap) (fun C s H ex => pts_one (PT.calm ((sound n).t _ _ _ rt (comp_xok xo.toXOK hk.2 hcap C s H ex) hrt))) (fun C s H ex => PD.calm ((sound n).e _ _ _ re (comp_xok xo.toXOK hk.2 hcap C s H ex) hre)) (noSet_fold hk.1)).2 hN hx hloc hsw) fun D σ H h => asg_set h
   ·have hsw : swapsWith (.ListComp elt gens scope cpos) (some (.Name x p)) pos.line X.env = pure false := by
     show (pure (X.env.blockKind == .function && X.env.kindOf x == some .local && p.line == cpos.line && !(scope.names.any fun (n, k) => n == x && (k == .local || k == .cell))) : Sem Bool) = pure false
     rw [Bool.not_eq_true] at hb
     rw [hb]
    exact pds_set hN hx hL hp hsw (.inl (xo.fnx x))
  | SetComp _ _ _ _ => cases n <;> (unfold denE at he; cases he)
  | DictComp _ _ _ _ _ => cases n <;> (unfold denE at he; cases he)
  | _ => exact absurd rfl hc
theorem for_sound {n : Nat} {c : FC} {X : Cx} {x : Str} {i : Nat} {iter : Expr} {body : List Stmt} {src : Src} {rb : RunS} {p pos : Pos} (ih : SoundS n) (xo : XS c X) (hcm : c.cm = true) (hs : noSet iter = true) (hl : c.sc.names.lookup x = some .local ∨ c.sc.names.lookup x = some .cell) (hi : slot c.N x = some i) (hsrc : denI n c iter = some src) (hb : denSs n c body = some rb) :
  PDS X (.For (.Name x p) iter body [] pos) (sFor i src rb) :=
 pds_for xo.own' (xo.calm hcm) ((sound n).i c X x p iter src xo.toXOK hsrc) (pg_name (by rw [xo.N]; exact xo.nd) (by rw [xo.N]; exact slot_get hi) (by show X.env.scope.names.lookup x = _ ∨ _; rw [xo.sc]; exact hl) (.inl (xo.fnx x))) (ih.ss c X body rb xo hb) (noSet_fold hs)
theorem soundS : ∀ n, SoundS n
 | 0 => ⟨fun _ _ _ _ _ h => by (unfold denS at h; cases h), fun _ _ _ _ _ h => by (unfold denSs at h; cases h)⟩
 | n + 1 => by
  have ih := soundS n
  refine ⟨fun c X s r xo h => ?_, fun c X ss r xo h => ?_⟩
  ·unfold denS at h
   split at h
   case h_1 => cases h; exact pds_retN
   case h_2 e pos => obtain ⟨ra, ha, rfl⟩ := om h; exact pds_ret ((sound n).e c X e ra xo.toXOK ha)
   case h_3 => cases h; exact pds_pass
   case h_4 => cases h; exact pds_brk
   case h_5 => cases h; exact pds_cnt
   case h_6 x p e pos =>
    split at h
    ·rename_i hl
     obtain ⟨i, hi, h⟩ := ob h
     obtain ⟨ra, ha, rfl⟩ := om h
     exact set_sound xo (.inl hl) hi ha
    ·rename_i hl
     obtain ⟨i, hi, h⟩ := ob h
     obtain ⟨ra, ha, rfl⟩ := om h
     exact set_sound xo (.inr hl) hi ha
    ·cases h
   case h_7 o i p e pos =>
    split at h
    ·cases h
    ·rename_i hc
     have hc1 : isComp e = false := by revert hc; cases isComp e <;> simp
     have hc2 : isTup e = false := by revert hc; cases isTup e <;> simp
     have hc3 : plainIx i = true := by revert hc; cases plainIx i <;> simp
     obtain ⟨ro, ho, h⟩ := ob h
     obtain ⟨ri, hi, h⟩ := ob h
     obtain ⟨rv, hv, rfl⟩ := om h
     have po := (sound n).e c X o ro xo.toXOK ho
     have pi := (sound n).e c X i ri xo.toXOK hi
     refine pds_setIx po pi ((sound n).e c X e rv xo.toXOK hv) (fun hs => pg_sub po pi hs (by intro v; cases i <;> first | rfl | exact absurd (show false = true from hc3) Bool.false_ne_true)) (show swapsWith e (some (.Subscript o i p)) pos.line X.env = pure false from noComp_swaps hc1) ?_
     cases e <;> first | rfl | exact absurd (show true = false from hc2) (by decide)
   case h_8 t a b pos =>
    obtain ⟨rt, ht, h⟩ := ob h
    obtain ⟨ra, ha, h⟩ := ob h
    obtain ⟨rb, hb, rfl⟩ := om h
    exact pds_if ((sound n).t c X t rt xo.toXOK ht) (ih.ss c X a ra xo ha) (ih.ss c X b rb xo hb)
   case h_9 x p iter body pos =>
    obtain ⟨hcm, h⟩ := oite2 h
    obtain ⟨hs, h⟩ := oite h
    split at h
    ·rename_i hl
     obtain ⟨i, hi, h⟩ := ob h
     obtain ⟨src, hsrc, h⟩ := ob h
     obtain ⟨rb, hb, rfl⟩ := om h
     exact for_sound ih xo hcm hs (.inl hl) hi hsrc hb
    ·rename_i hl
     obtain ⟨i, hi, h⟩ := ob h
     obtain ⟨src, hsrc, h⟩ := ob h
     obtain ⟨rb, hb, rfl⟩ := om h
     exact for_sound ih xo hcm hs (.inr hl) hi hsrc hb
    ·cases h
   case h_10 e pos =>
    split at h
    ·cases h
    ·rename_i hc
     obtain ⟨ra, ha, rfl⟩ := om h
     exact pds_drop ((sound n).e c X e ra xo.toXOK ha) (noComp_swaps (by simpa using hc))
   case h_11 y np e es cpos pos =>
    obtain ⟨hk, h⟩ := oite h
    simp only [Bool.and_eq_true, Bool.not_eq_true'] at hk
    obtain ⟨⟨⟨hcm, hcx⟩, hd⟩, hs⟩ := hk
    split at h
    ·rename_i tab hl hg
     obtain ⟨rr, hr, rfl⟩ := om h
     obtain ⟨cv, vc, EO⟩ := xo.exc y true tab hg
     obtain ⟨_, C, _, c1⟩ := EO.glob rfl
     rw [List.all_cons, Bool.and_eq_true] at hs
     exact pds_raise (xo.calm hcm) c1 (xo.gl hl) ((sound n).es c X _ rr xo.toXOK hr) (dbg1 hd) (star_cons hs.1) (star_all hs.2)
    ·cases h
   case h_12 body y np m s ss hpos pos =>
    obtain ⟨hk, h⟩ := oite h
    simp only [Bool.and_eq_true, Bool.not_eq_true'] at hk
    obtain ⟨⟨hcm, hcx⟩, hd⟩ := hk
    split at h
    ·rename_i tab hl hg hm
     obtain ⟨i, hi, h⟩ := ob h
     obtain ⟨rb, hb, h⟩ := ob h
     obtain ⟨rs, hrs, rfl⟩ := om h
     obtain ⟨cv, vc, EO⟩ := xo.exc y true tab hg
     have O := xo.own hcx
     have hN : X.N.length = c.N.length := by rw [xo.N]
     rw [← hN]
     refine pds_try O (by rw [xo.N]; exact xo.nd) (by rw [xo.N]; exact slot_get hi) (by rw [xo.sc]; exact hm) (xo.gl hl) (EO.glob rfl).1 (fun x b q => let ⟨C, h1, _, _, h4⟩ := EO.tab x b q; ⟨C, h1, h4⟩) (fun pn Φ => ih.ss c _ body rb ?_ hb) (fun ea => ih.ss _ _ _ rs ?_ hrs) (dbg1 hd)
     ·exact ⟨⟨xo.N, xo.nd, xo.sc, xo.calm, xo.hnd, xo.units, xo.cells, xo.con, xo.fn, xo.blt, xo.fx, xo.exc, (fun _ => ⟨O.stk, O.fr, O.ex⟩), xo.dcon⟩, xo.fnx, passesOwn_XE (X := X.pin pn) ⟨O.stk, O.fr, O.ex⟩⟩
     ·exact ⟨⟨xo.N, xo.nd, xo.sc, (fun z => Bool.noConfusion z), (fun z => Bool.noConfusion z), xo.units, xo.cells, xo.con, (fun z => Bool.noConfusion z), xo.blt, fun x n b op q => (let ⟨k, f, fd, ps, F, R, r⟩ := xo.fx x n b op q; ⟨k, f, fd, ps, F, R.mark _, r⟩), xo.exc, (fun z => Bool.noConfusion z), xo.dcon⟩, xo.fnx, PassesOwn.never⟩
    ·cases h
   all_goals cases h
  ·unfold denSs at h
   match ss, h with
   | [], h => cases h; exact pdss_nil
   | s :: ss, h =>
    obtain ⟨ra, ha, h⟩ := ob h
    obtain ⟨rb, hb, rfl⟩ := om h
    exact pdss_cons (ih.s c X s ra xo ha) (ih.ss c X ss rb xo hb)
def scopeOk (N ps : List Str) (sc : Scope) : Bool :=
 (sc.kind == .function) && !sc.isCoroutine && !sc.isGenerator && decide N.Nodup && decide (N.take ps.length = ps) && ps.all (fun x => sc.names.lookup x == some .local || sc.names.lookup x == some .cell) && sc.names.all (fun y => y.2 != .free)
theorem scopeOk_ok {N ps : List Str} {sc : Scope} (h : scopeOk N ps sc = true) : FnScope N ps sc := by
 unfold scopeOk at h
 simp only [Bool.and_eq_true, List.all_eq_true, decide_eq_true_eq, beq_iff_eq, Bool.not_eq_true', Bool.or_eq_true] at h
 obtain ⟨⟨⟨⟨⟨⟨h1, h2⟩, h3⟩, h4⟩, h5⟩, h6⟩, h7⟩ := h
 exact ⟨h1, h2, h3, h4, h5, fun x hx => h6 x hx, fun y hy e => by have := h7 y hy; rw [e] at this; cases this⟩
structure TX (P : Program) (w : World) (K : PySem.W.Frag) (mg : Str → Option Value) (base : Heap) (gl : List (Str × GV)) (k : Nat) : Prop where
 con : ∀ x w', gl.lookup x = some (.con w') → ∃ u v, mg x = some u ∧ RelV v u ∧ ∀ ι N G, RelW K ι N G v w'
 fn : ∀ x n op, gl.lookup x = some (.fn n op) → ∃ f fd ps, FnOk P w K mg base CX0 k f fd ps (SpD K n op) ∧ mg x = some (.ref f) ∧ PySem.W.keepIn K (.ref f) = true ∧ Binds K fd ps [] ∧ ps.length = n
 blt : ∀ x, gl.lookup x = some .blt → mg x = none
 fx : ∀ x n b op, gl.lookup x = some (.fx n b op) → ∃ f fd ps, FnX b P w K mg base k f fd ps (SpX K n op) ∧ mg x = some (.ref f) ∧ PySem.W.keepIn K (.ref f) = true ∧ Binds K fd ps [] ∧ ps.length = n
 exc : ∀ y own tab, gl.lookup y = some (.exc own tab) → ∃ cv vc, ExcOk K mg y own tab cv vc
 dcon : ∀ x ks ws, gl.lookup x = some (.dcon ks ws) → KDs P w K mg x ks ws
theorem def_ok {P : Program} {w : World} {K : PySem.W.Frag} {mg : Str → Option Value} {base : Heap} {gl : List (Str × GV)} {k n : Nat} {x qual : Str} {st : Stmt} {f : Addr} {fd : FuncData} {N ps : List Str} {mts : List (Nat × Nat)} {fz : Bool} {run : RunS} (T : TX P w K mg base gl k) (F : Fun K x qual st f fd) (hs : scopeOk N ps (defScope st) = true)
  (hd : denSs n ⟨N, defScope st, gl, mts, true, false⟩ (defBody st) = some run) : FnOk P w K mg base CX0 (k + 3) f fd ps (SpD K ps.length (callOp ps.length N.length fz run)) := by
 have Sc := scopeOk_ok hs
 refine fn_body (k := k + 2) F Sc fun cdv A outer s H E hr => (soundS n).ss ⟨N, defScope st, gl, mts, true, false⟩ _ _ run ⟨⟨rfl, Sc.nd, rfl, fun _ => rfl, fun _ => hr.hd, (by have h := hr.un; show (A.deeper (envOfC qual (defScope st) s.heap.objs.size f cdv)).units + 80 < cLine; omega), fun y hy => ?_, T.con, fun _ x n op h => ?_, T.blt, fun x n b op h => ?_, T.exc, (fun z => Bool.noConfusion z), T.dcon⟩, fun _ => rfl, PassesOwn.never⟩ hd
 ·rcases hy with hy | hy
  ·exact PySem.W.cellsFrom_some _ _ _ (.inl hy)
  ·exact absurd rfl (Sc.nofree _ (PySem.mem_of_lookup hy))
 ·obtain ⟨f, fd, ps, h1, h2, h3, h4, h5⟩ := T.fn x n op h
  exact ⟨k, f, fd, ps, h1, hr, h2, h3, h4, h5⟩
 ·obtain ⟨f, fd, ps, h1, h2, h3, h4, h5⟩ := T.fx x n b op h
  exact ⟨k, f, fd, ps, h1, ⟨(fun z => Bool.noConfusion z), hr.dp, hr.un⟩, h2, h3, h4, h5⟩
theorem def_okX {b : Bool} {P : Program} {w : World} {K : PySem.W.Frag} {mg : Str → Option Value} {base : Heap} {gl : List (Str × GV)} {k n : Nat} {x qual : Str} {st : Stmt} {f : Addr} {fd : FuncData} {N ps : List Str} {mts : List (Nat × Nat)} {fz : Bool} {run : RunS} (T : TX P w K mg base gl k) (F : Fun K x qual st f fd) (hs : scopeOk N ps (defScope st) = true)
  (hd : denSs n ⟨N, defScope st, gl, mts, b, true⟩ (defBody st) = some run) : FnX b P w K mg base (k + 3) f fd ps (SpX K ps.length (callX ps.length N.length fz run)) := by
 have Sc := scopeOk_ok hs
 refine Fun.okX (k := k + 2) F Sc fun cdv A outer s H Φ hr => (soundS n).ss ⟨N, defScope st, gl, mts, b, true⟩ _ _ run ⟨⟨rfl, Sc.nd, rfl, fun z => z, hr.hd, (by have h := hr.un; show (A.deeper (envOfC qual (defScope st) s.heap.objs.size f cdv)).units + 80 < cLine; omega), fun y hy => ?_, T.con, fun hb x n op h => ?_, T.blt, fun x n b' op h => ?_, T.exc, (fun _ => ⟨rfl, rfl, rfl⟩), T.dcon⟩, fun _ => rfl, passesOwn_XE cxB_own⟩ hd
 ·rcases hy with hy | hy
  ·exact PySem.W.cellsFrom_some _ _ _ (.inl hy)
  ·exact absurd rfl (Sc.nofree _ (PySem.mem_of_lookup hy))
 ·obtain ⟨f, fd, ps, h1, h2, h3, h4, h5⟩ := T.fn x n op h
  exact ⟨k, f, fd, ps, h1, ⟨hr.hd hb, hr.dp, hr.un⟩, h2, h3, h4, h5⟩
 ·obtain ⟨f, fd, ps, h1, h2, h3, h4, h5⟩ := T.fx x n b' op h
  exact ⟨k, f, fd, ps, h1, ⟨(fun z => Bool.noConfusion z), hr.dp, hr.un⟩, h2, h3, h4, h5⟩
end DL
namespace DL
open PySem PySem.Spec PyProof.Rows L2
structure DefAt (K : PySem.W.Frag) (mg : Str → Option Value) (x : Str) (st : Stmt) (ps : List Str) : Prop where
 ex : ∃ f fd, Fun K x x st f fd ∧ mg x = some (.ref f) ∧ Binds K fd ps []
theorem defAt_mk {K : PySem.W.Frag} {h : Heap} {mg : Str → Option Value} {x : Str} {st : Stmt} {ps : List Str} {f : Addr} {oc : Value} {od an : Option Addr} {osl : Array (Option Value)} {kV doc pm cdv ct : Value} (X : K.In h) (G : h.Ns mainGlobals mg)
  (a : PySem.W.nsIn K mainGlobals x = some (some (.ref f))) (l : K.lookup f = some ⟨oc, od, .func (PySem.W.fnOf x x (defArgs st) (defBody st) (defScope st) .none kV doc pm an cdv ct), osl⟩)
  (c : PySem.W.codeIn K cdv x = true) (k : PySem.W.keepIn K (.ref f) = true)
  (hb : ∀ (kV doc pm : Value) (an : Option Addr) (cdv ct : Value) (us : List Value), us.length = ps.length → bindArgs (PySem.W.fnOf x x (defArgs st) (defBody st) (defScope st) .none kV doc pm an cdv ct) ⟨us, []⟩ = pure (ps.zip us)) : DefAt K mg x st ps :=
 have F := fun_mk (st := st) l c k
 ⟨_, _, F, PySem.W.mg_of X G a, F.binds hb⟩
section
variable {P : Program} {w : World} {K : PySem.W.Frag} {mg : Str → Option Value} {base : Heap} {gl : List (Str × GV)} {k : Nat}
theorem TX.mono {k' : Nat} (h : TX P w K mg base gl k) (hk : k ≤ k') : TX P w K mg base gl k' :=
 ⟨h.con, fun x n op e => let ⟨f, fd, ps, h1, h2⟩ := h.fn x n op e; ⟨f, fd, ps, h1.mono hk, h2⟩, h.blt, fun x n b op e => let ⟨f, fd, ps, h1, h2⟩ := h.fx x n b op e; ⟨f, fd, ps, h1.mono hk, h2⟩, h.exc, h.dcon⟩
def GOk (P : Program) (w : World) (K : PySem.W.Frag) (mg : Str → Option Value) (base : Heap) (k : Nat) (x : Str) : GV → Prop
 | .con w' => ∃ u v, mg x = some u ∧ RelV v u ∧ ∀ ι N G, RelW K ι N G v w'
 | .fn n op => ∃ f fd ps, FnOk P w K mg base CX0 k f fd ps (SpD K n op) ∧ mg x = some (.ref f) ∧ PySem.W.keepIn K (.ref f) = true ∧ Binds K fd ps [] ∧ ps.length = n
 | .blt => mg x = none
 | .fx n b op => ∃ f fd ps, FnX b P w K mg base k f fd ps (SpX K n op) ∧ mg x = some (.ref f) ∧ PySem.W.keepIn K (.ref f) = true ∧ Binds K fd ps [] ∧ ps.length = n
 | .exc own tab => ∃ cv vc, ExcOk K mg x own tab cv vc
 | .dcon ks ws => KDs P w K mg x ks ws
theorem TX.get (h : TX P w K mg base gl k) {x : Str} {g : GV} (q : gl.lookup x = some g) : GOk P w K mg base k x g := by
 cases g with
 | con w' => exact h.con x w' q
 | fn n op => exact h.fn x n op q
 | blt => exact h.blt x q
 | fx n b op => exact h.fx x n b op q
 | exc own tab => exact h.exc x own tab q
 | dcon ks ws => exact h.dcon x ks ws q
theorem TX.of (h : ∀ x g, gl.lookup x = some g → GOk P w K mg base k x g) : TX P w K mg base gl k :=
 ⟨fun x w' q => h x _ q, fun x n op q => h x _ q, fun x q => h x _ q, fun x n b op q => h x _ q, fun x own tab q => h x _ q, fun x ks ws q => h x _ q⟩
theorem TX.add {x : Str} {g : GV} (h : TX P w K mg base gl k) (e : GOk P w K mg base k x g) : TX P w K mg base ((x, g) :: gl) k := TX.of fun y g' q => by
 rw [List.lookup_cons] at q
 cases hy : y == x with
 | true =>
  rw [hy] at q
  cases q
  have := eq_of_beq hy
  subst this
  exact e
 | false => rw [hy] at q; exact h.get q
theorem TX.cons {x : Str} {n : Nat} {op : OpN} (h : TX P w K mg base gl k) (e : ∃ f fd ps, FnOk P w K mg base CX0 k f fd ps (SpD K n op) ∧ mg x = some (.ref f) ∧ PySem.W.keepIn K (.ref f) = true ∧ Binds K fd ps [] ∧ ps.length = n) : TX P w K mg base ((x, .fn n op) :: gl) k := h.add e
theorem TX.consX {x : Str} {n : Nat} {b : Bool} {op : OpN} (h : TX P w K mg base gl k) (e : ∃ f fd ps, FnX b P w K mg base k f fd ps (SpX K n op) ∧ mg x = some (.ref f) ∧ PySem.W.keepIn K (.ref f) = true ∧ Binds K fd ps [] ∧ ps.length = n) : TX P w K mg base ((x, .fx n b op) :: gl) k := h.add e
theorem TX.fnOf {x : Str} {st : Stmt} {N ps : List Str} {mts : List (Nat × Nat)} {fz : Bool} {run : RunS} {n : Nat} (T : TX P w K mg base gl k) (D : DefAt K mg x st ps) (hs : scopeOk N ps (defScope st) = true) (hd : denSs n ⟨N, defScope st, gl, mts, true, false⟩ (defBody st) = some run) :
  ∃ f fd ps', FnOk P w K mg base CX0 (k + 3) f fd ps' (SpD K ps.length (callOp ps.length N.length fz run)) ∧ mg x = some (.ref f) ∧ PySem.W.keepIn K (.ref f) = true ∧ Binds K fd ps' [] ∧ ps'.length = ps.length := by
 obtain ⟨f, fd, F, hm, hb⟩ := D.ex
 exact ⟨f, fd, ps, def_ok T F hs hd, hm, F.kp, hb, rfl⟩
theorem TX.fxOf {b : Bool} {x : Str} {st : Stmt} {N ps : List Str} {mts : List (Nat × Nat)} {fz : Bool} {run : RunS} {n : Nat} (T : TX P w K mg base gl k) (D : DefAt K mg x st ps) (hs : scopeOk N ps (defScope st) = true) (hd : denSs n ⟨N, defScope st, gl, mts, b, true⟩ (defBody st) = some run) :
  ∃ f fd ps', FnX b P w K mg base (k + 3) f fd ps' (SpX K ps.length (callX ps.length N.length fz run)) ∧ mg x = some (.ref f) ∧ PySem.W.keepIn K (.ref f) = true ∧ Binds K fd ps' [] ∧ ps'.length = ps.length := by
 obtain ⟨f, fd, F, hm, hb⟩ := D.ex
 exact ⟨f, fd, ps, def_okX T F hs hd, hm, F.kp, hb, rfl⟩
inductive ConK (K : PySem.W.Frag) : Value → W → Prop
 | int (i : Int) (t : Tok) : ConK K (.int i t) (.int i)
 | str (x : Str) (t : Tok) : ConK K (.str x t) (.str x)
 | txts {a : Addr} {od : Option Addr} {its : List Value} {n : Nat} {sl : Array (Option Value)} {xs : List Str} : K.lookup a = some ⟨.type "tuple", od, .seq its.toArray n, sl⟩ → its.length ≤ sizeLine → Vals (xs.map V.str) its → ConK K (.ref a) (.tup (xs.map W.str))
theorem ConK.rel {u : Value} {c : W} (h : ConK K u c) : ∃ v, RelV v u ∧ ∀ ι N G, RelW K ι N G v c := by
 cases h with
 | int i t => exact ⟨.int i, ⟨t, rfl⟩, fun _ _ _ => .int i⟩
 | str x t => exact ⟨.str x, ⟨t, rfl⟩, fun _ _ _ => .str x⟩
 | @txts a od its n sl xs l z v =>
  refine ⟨.ref a, rfl, fun ι N G => .tup (xs := xs.map V.str) (.inr ⟨_, its.toArray, n, l, rfl, rfl, by simpa using z, by simpa using v⟩) ?_⟩
  clear v
  induction xs with
  | nil => exact .nil
  | cons y ys ih => exact .cons (.str y) ih
theorem TX.nil {w0 : Nat} : TX P w K mg base [] w0 := TX.of fun _ _ h => by cases h
theorem TX.con1 {x : Str} {u : Value} {c : W} (h : TX P w K mg base gl k) (hm : mg x = some u) (hc : ConK K u c) : TX P w K mg base ((x, .con c) :: gl) k :=
 h.add (let ⟨v, h1, h2⟩ := hc.rel; ⟨u, v, hm, h1, h2⟩)
theorem TX.blt1 {x : Str} (h : TX P w K mg base gl k) (hm : mg x = none) : TX P w K mg base ((x, .blt) :: gl) k := h.add hm
theorem TX.dcon1 {x : Str} {ks : List Key} {ws : List W} (h : TX P w K mg base gl k) (e : KDs P w K mg x ks ws) : TX P w K mg base ((x, .dcon ks ws) :: gl) k := h.add e
theorem TX.exc1 {x : Str} {own : Bool} {tab : List (Str × Bool)} (h : TX P w K mg base gl k) (e : ∃ cv vc, ExcOk K mg x own tab cv vc) : TX P w K mg base ((x, .exc own tab) :: gl) k := h.add e
structure ClsK (K : PySem.W.Frag) (x : Str) (C : Addr) : Prop where
 cls : ExCls K x C
 ex : ExAt K C
theorem exc_own {x : Str} {C : Addr} {tab : List (Str × Bool)} (hm : mg x = some (.ref C)) (c : ExCls K x C) (ht : ∀ y b, tab.lookup y = some b → ∃ Cy, ClsK K y Cy ∧ PySem.W.kitOne K (.ref Cy) (.ref C) = some b ∧ PySem.W.exmOne K (.ref Cy) (.ref C) = some b) : ∃ cv vc, ExcOk K mg x true tab cv vc :=
 ⟨.ref C, .ref C, rfl, fun _ r => r, fun _ => ⟨hm, C, rfl, c⟩, (fun z => Bool.noConfusion z), fun y b q => let ⟨Cy, a, h1, h2⟩ := ht y b q; ⟨Cy, a.cls.ns, a.ex, h1, h2⟩⟩
theorem exc_blt {x : Str} {T : String} {tab : List (Str × Bool)} (hm : mg x = none) (hb : bootBuiltins x = some (.type T)) (ht : ∀ y b, tab.lookup y = some b → ∃ Cy, ClsK K y Cy ∧ PySem.W.kitOne K (.ref Cy) (.type T) = some b ∧ PySem.W.exmOne K (.ref Cy) (.type T) = some b) : ∃ cv vc, ExcOk K mg x false tab cv vc :=
 ⟨.type T, .ty T, rfl, fun _ r => r, (fun z => Bool.noConfusion z), fun _ => ⟨hm, hb⟩, fun y b q => let ⟨Cy, a, h1, h2⟩ := ht y b q; ⟨Cy, a.cls.ns, a.ex, h1, h2⟩⟩
end
def st0 : S := ⟨0, fun _ => none⟩
theorem sp_startX {K : PySem.W.Frag} {H : Hp} {a : Addr} {ns : List Int} {op : OpN} {E : XK} (hS : SqL K H a (ns.map V.int)) (h : ∃ st', op [.lst (ns.map W.int)] st0 = .ok (.bl true) st') : SpX K 1 op [.ref a] H (fun v _ => v = .bl true) E := by
 obtain ⟨st', e⟩ := h
 refine ⟨rfl, fun _ => 0, H, st0, [.lst (ns.map W.int)], ⟨Same.refl H, fun n o q => (by cases q), fun n m o o' q => (by cases q)⟩, .cons (.lst hS (RelWs.ofInts ns)) .nil, ?_⟩
 rw [e]
 intro v ι' G' H' _ _ r
 cases r; rfl
theorem FnX.ok {b : Bool} {P : Program} {w : World} {K : PySem.W.Frag} {mg : Str → Option Value} {base : Heap} {k : Nat} {f : Addr} {fd : FuncData} {ps : List Str} {sp : Sp} (F : FnX b P w K mg base k f fd ps sp) : FnOk P w K mg base (CXD P w) k f fd ps sp :=
 ⟨F.len, fun A outer s H args us vs Q E hr => F.run A outer s H args us vs Q E ⟨fun _ => hr.hd, hr.dp, hr.un⟩⟩
theorem walkX {b : Bool} {l : PySem.W.OpenLaw} {q : Program} {loose : List Str} {XP : (Str → Option Value) → Heap → Prop} {YP : World → Heap → Prop} {d : DefRec} {K : Params → PySem.W.Frag} {op : OpN} {k : Nat} {x : Str} (hn : l.most = some 63) (hdf : d.params.defaults = []) (hr : Room k callerA)
  (hY : ∀ (w : World) (h : Heap), YP w h → (K w.params).In h) (hop : ∀ ns : List Int, ns.length ≤ 63 → ∃ st', op [.lst (ns.map W.int)] st0 = .ok (.bl true) st')
  (F : ∀ (w : World) (mg : Str → Option Value) (fa : Addr) (h : Heap), (K w.params).In h → h.Ns mainGlobals mg → mg d.name = some (.ref fa) →
   ∃ fd : FuncData, (∀ (s : Shared) (u : Value), BindsTo s fd ⟨[u], []⟩ [(x, u)]) ∧ ∀ base : Heap, (K w.params).In base → base.Ns mainGlobals mg → FnX b l.prog w (K w.params) mg base k fa fd [x] (SpX (K w.params) 1 op)) :
  PySem.W.WalkO q loose XP YP l.row.toRowW d [] (fun f vs => PySem.call f vs) :=
 L2.walk_of (n := 63) (k := k) (x := x) (CX := fun w => CXD l.prog w) (sp := fun w => SpX (K w.params) 1 op) hn (by decide) hdf hr hY (fun w mg fa h a1 a2 a3 => let ⟨fd, b1, b2⟩ := F w mg fa h a1 a2 a3; ⟨fd, b1, fun base c1 c2 => DL.FnX.ok (b2 base c1 c2)⟩) (fun _ _ a ns hl _ hS => sp_startX hS (hop ns hl)) fun _ _ _ _ _ ⟨_, _, _, _, _, _, _, _, _, _, _, _, _, _, z⟩ => z
end DL
namespace DL
open PySem PySem.Spec PyProof.Rows L2
section
variable {α β : Type} {st : S} {Γ : Ga}
theorem ev_ok (a : α) (s : S) (f : α → S → R β) : (R.ok a s).bind f = f a s := Eq.trans rfl rfl
theorem ev_ite (c : Prop) [Decidable c] (x y : R α) (f : α → S → R β) : (if c then x else y).bind f = if c then x.bind f else y.bind f := by by_cases h : c <;> simp only [h, if_true, if_false]
theorem ev_calm (a : α) (s : S) : (R.ok a s).calm = R.ok a s := Eq.trans rfl rfl
def kIf (A B : S → R α) (w : W) (s : S) : R α := match w with
 | .bl true => A s
 | .bl false => B s
 | _ => .stuck
theorem kIf_bl (A B : S → R α) (b : Bool) (s : S) : kIf A B (.bl b) s = if b = true then A s else B s := by cases b <;> rfl
def kSeq (b : RunS) (fl : Fl) (s : S) : R Fl := match fl with
 | .nx Γ' => b Γ' s
 | fl => .ok fl s
theorem kSeq_nx (b : RunS) (Γ : Ga) (s : S) : kSeq b (.nx Γ) s = b Γ s := Eq.trans rfl rfl
theorem kSeq_rt (b : RunS) (w : W) (s : S) : kSeq b (.rt w) s = .ok (.rt w) s := Eq.trans rfl rfl
theorem ev_seq (a b : RunS) : sSeq a b Γ st = (a Γ st).bind (kSeq b) := Eq.trans rfl rfl
theorem ev_if (rc : Run) (a b : RunS) : sIf rc a b Γ st = (rc Γ st).bind (kIf (a Γ) (b Γ)) := Eq.trans rfl rfl
theorem ev_ret (r : Run) : sRet r Γ st = (r Γ st).bind fun w s => .ok (.rt w) s := Eq.trans rfl rfl
theorem ev_pass : sPass Γ st = .ok (.nx Γ) st := Eq.trans rfl rfl
theorem ev_v0 (w : W) : rVar 0 (some w :: Γ) st = .ok w st := Eq.trans rfl rfl
theorem ev_v1 (a : Option W) (w : W) : rVar 1 (a :: some w :: Γ) st = .ok w st := Eq.trans rfl rfl
theorem ev_v2 (a b : Option W) (w : W) : rVar 2 (a :: b :: some w :: Γ) st = .ok w st := Eq.trans rfl rfl
theorem ev_v3 (a b c : Option W) (w : W) : rVar 3 (a :: b :: c :: some w :: Γ) st = .ok w st := Eq.trans rfl rfl
theorem ev_v4 (a b c d : Option W) (w : W) : rVar 4 (a :: b :: c :: d :: some w :: Γ) st = .ok w st := Eq.trans rfl rfl
theorem ev_v5 (a b c d e : Option W) (w : W) : rVar 5 (a :: b :: c :: d :: e :: some w :: Γ) st = .ok w st := Eq.trans rfl rfl
theorem ev_v6 (a b c d e f : Option W) (w : W) : rVar 6 (a :: b :: c :: d :: e :: f :: some w :: Γ) st = .ok w st := Eq.trans rfl rfl
theorem ev_v7 (a b c d e f g : Option W) (w : W) : rVar 7 (a :: b :: c :: d :: e :: f :: g :: some w :: Γ) st = .ok w st := Eq.trans rfl rfl
theorem ev_v8 (a b c d e f g h : Option W) (w : W) : rVar 8 (a :: b :: c :: d :: e :: f :: g :: h :: some w :: Γ) st = .ok w st := Eq.trans rfl rfl
theorem ev_v9 (a b c d e f g h i : Option W) (w : W) : rVar 9 (a :: b :: c :: d :: e :: f :: g :: h :: i :: some w :: Γ) st = .ok w st := Eq.trans rfl rfl
theorem ev_s1 (r : Run) (a z : Option W) : sSet 1 r (a :: z :: Γ) st = (r (a :: z :: Γ) st).bind fun w s => .ok (.nx (a :: some w :: Γ)) s := Eq.trans rfl rfl
theorem ev_s2 (r : Run) (a b z : Option W) : sSet 2 r (a :: b :: z :: Γ) st = (r (a :: b :: z :: Γ) st).bind fun w s => .ok (.nx (a :: b :: some w :: Γ)) s := Eq.trans rfl rfl
theorem ev_s3 (r : Run) (a b c z : Option W) : sSet 3 r (a :: b :: c :: z :: Γ) st = (r (a :: b :: c :: z :: Γ) st).bind fun w s => .ok (.nx (a :: b :: c :: some w :: Γ)) s := Eq.trans rfl rfl
theorem ev_rep7 : List.replicate 7 (none : Option W) = [none, none, none, none, none, none, none] := Eq.trans rfl rfl
theorem ev_rep8 : List.replicate 8 (none : Option W) = [none, none, none, none, none, none, none, none] := Eq.trans rfl rfl
theorem ev_rep9 : List.replicate 9 (none : Option W) = [none, none, none, none, none, none, none, none, none] := Eq.trans rfl rfl
theorem ev_for (i : Nat) (src : Src) (body : RunS) : sFor i src body Γ st = (src Γ st).bind fun items s => loopS i body items Γ s := Eq.trans rfl rfl
theorem ev_rng1 (r : Run) (i : Int) (h : r Γ st = .ok (.int i) st) (h0 : -4611686018427387904 ≤ i) (h1 : i < 4611686018427387904) : runRng1 r Γ st = .ok (rangeW 0 i.toNat) st := by
 unfold runRng1
 rw [h]
 exact if_pos ⟨h0, h1⟩
theorem ev_opX1 (nl : Nat) (fz : Bool) (run : RunS) (w : W) : callX 1 nl fz run [w] st = leaveX fz st (run (some w :: List.replicate (nl - 1) none) st) := Eq.trans rfl rfl
theorem ev_opX2 (nl : Nat) (fz : Bool) (run : RunS) (w w' : W) : callX 2 nl fz run [w, w'] st = leaveX fz st (run (some w :: some w' :: List.replicate (nl - 2) none) st) := Eq.trans rfl rfl
theorem ev_rtX (s0 s : S) (w : W) : leaveX false s0 (.ok (.rt w) s) = .ok w s := Eq.trans rfl rfl
theorem ev_nxX (s0 s : S) (Γ : Ga) : leaveX false s0 (.ok (.nx Γ) s) = .ok .non s := Eq.trans rfl rfl
theorem ev_exX (s0 s : S) (c : W) : leaveX false s0 (.ex c s) = .ex c s := Eq.trans rfl rfl
theorem ev_nxXK (s0 s : S) (Γ : Ga) : leaveX true s0 (.ok (.nx Γ) s) = keep s0 s .non := Eq.trans rfl rfl
theorem ev_exXK (s0 s : S) (c : W) : leaveX true s0 (.ex c s) = keepX s0 s c := Eq.trans rfl rfl
theorem ev_exB (c : W) (s : S) (f : α → S → R β) : (R.ex c s : R α).bind f = .ex c s := Eq.trans rfl rfl
def kLo (m : Bool) (w l : W) (s : S) : R W := match l with
 | .int i => opSl m (some i) none w s
 | _ => .stuck
def kHi (m : Bool) (w l : W) (s : S) : R W := match l with
 | .int i => opSl m none (some i) w s
 | _ => .stuck
theorem kLo_int (m : Bool) (w : W) (i : Int) (s : S) : kLo m w (.int i) s = opSl m (some i) none w s := Eq.trans rfl rfl
theorem kHi_int (m : Bool) (w : W) (i : Int) (s : S) : kHi m w (.int i) s = opSl m none (some i) w s := Eq.trans rfl rfl
theorem ev_slSN (m : Bool) (a b : Run) : runSlSN m a b Γ st = (a Γ st).bind fun w s => (b Γ s).bind fun l s => kLo m w l s := Eq.trans rfl rfl
theorem ev_slNS (m : Bool) (a b : Run) : runSlNS m a b Γ st = (a Γ st).bind fun w s => (b Γ s).bind fun l s => kHi m w l s := Eq.trans rfl rfl
theorem ev_slT (ws : List W) (lo hi : Option Int) : opSl false lo hi (.tup ws) st = .ok (.tup (cutW ws lo hi)) st := Eq.trans rfl rfl
theorem ev_con (w : W) : rCon w Γ st = .ok w st := Eq.trans rfl rfl
theorem ev_run1 (r : Run) (o : W → S → R W) : run1 r o Γ st = (r Γ st).bind o := Eq.trans rfl rfl
theorem ev_run2 (a b : Run) (o : Op2) : run2 a b o Γ st = (a Γ st).bind fun x s => (b Γ s).bind fun y s => o x y s := Eq.trans rfl rfl
theorem ev_runN (rr : Runs) (o : OpN) : DL.runN rr o Γ st = (rr Γ st).bind o := Eq.trans rfl rfl
theorem ev_calmOp (o : OpN) (ws : List W) : calmOp o ws st = (o ws st).calm := Eq.trans rfl rfl
theorem ev_nil : runsNil Γ st = .ok [] st := Eq.trans rfl rfl
theorem ev_cons (r : Run) (rr : Runs) : runsCons r rr Γ st = (r Γ st).bind fun w s => (rr Γ s).bind fun ws s => .ok (w :: ws) s := Eq.trans rfl rfl
theorem ev_and (a b : Run) : runAnd a b Γ st = (a Γ st).bind (kIf (b Γ) (fun s => .ok (.bl false) s)) := Eq.trans rfl rfl
theorem ev_or (a b : Run) : runOr a b Γ st = (a Γ st).bind (kIf (fun s => .ok (.bl true) s) (b Γ)) := Eq.trans rfl rfl
def kNot (w : W) (s : S) : R W := match w with
 | .bl b => .ok (.bl (!b)) s
 | _ => .stuck
theorem kNot_bl (b : Bool) (s : S) : kNot (.bl b) s = .ok (.bl (!b)) s := Eq.trans rfl rfl
theorem ev_not (a : Run) : runNot a Γ st = (a Γ st).bind kNot := Eq.trans rfl rfl
theorem ev_runIf (c a b : Run) : runIf c a b Γ st = (c Γ st).bind (kIf (a Γ) (b Γ)) := Eq.trans rfl rfl
theorem ev_chain (a b c : Run) (o o' : Op2) : runC a b c o o' Γ st = (a Γ st).bind fun x s => (b Γ s).bind fun y s => (o x y s).bind (kIf (fun s => (c Γ s).bind fun z s => o' y z s) (fun s => .ok (.bl false) s)) := Eq.trans rfl rfl
theorem ev_rt (s0 s : S) (w : W) : leave false s0 (.ok (.rt w) s) = .ok w s := Eq.trans rfl rfl
theorem ev_nx (s0 s : S) (Γ : Ga) : leave false s0 (.ok (.nx Γ) s) = .ok .non s := Eq.trans rfl rfl
theorem ev_op1 (nl : Nat) (fz : Bool) (run : RunS) (w : W) : callOp 1 nl fz run [w] st = leave fz st (run (some w :: List.replicate (nl - 1) none) st) := Eq.trans rfl rfl
theorem ev_op2 (nl : Nat) (fz : Bool) (run : RunS) (w w' : W) : callOp 2 nl fz run [w, w'] st = leave fz st (run (some w :: some w' :: List.replicate (nl - 2) none) st) := Eq.trans rfl rfl
theorem ev_op3 (nl : Nat) (fz : Bool) (run : RunS) (w w' w2 : W) : callOp 3 nl fz run [w, w', w2] st = leave fz st (run (some w :: some w' :: some w2 :: List.replicate (nl - 3) none) st) := Eq.trans rfl rfl
theorem ev_rep1 : List.replicate 1 (none : Option W) = [none] := Eq.trans rfl rfl
theorem ev_rep2 : List.replicate 2 (none : Option W) = [none, none] := Eq.trans rfl rfl
theorem ev_rep3 : List.replicate 3 (none : Option W) = [none, none, none] := Eq.trans rfl rfl
theorem ev_rep4 : List.replicate 4 (none : Option W) = [none, none, none, none] := Eq.trans rfl rfl
theorem ev_rep5 : List.replicate 5 (none : Option W) = [none, none, none, none, none] := Eq.trans rfl rfl
theorem ev_rep6 : List.replicate 6 (none : Option W) = [none, none, none, none, none, none] := Eq.trans rfl rfl
theorem ev_rep0 : List.replicate 0 (none : Option W) = [] := Eq.trans rfl rfl
theorem ev_addI (i j : Int) : opAdd (.int i) (.int j) st = .ok (.int (i + j)) st := Eq.trans rfl rfl
theorem ev_subI (i j : Int) : opSub (.int i) (.int j) st = .ok (.int (i - j)) st := Eq.trans rfl rfl
theorem ev_mulI (i j : Int) (h : CMul i j) : opMul (.int i) (.int j) st = .ok (.int (i * j)) st := if_pos h
theorem ev_mulR (i j : Int) (h0 : -1000000 ≤ j) (h1 : j ≤ 1000000) : opMul (.int i) (.int j) st = .ok (.int (i * j)) st := ev_mulI i j (.inr ⟨by omega, by omega⟩)
theorem ev_mulL (i j : Int) (h0 : -1000000 ≤ i) (h1 : i ≤ 1000000) : opMul (.int i) (.int j) st = .ok (.int (i * j)) st := ev_mulI i j (.inl ⟨by omega, by omega⟩)
theorem ev_divI (i j : Int) (h : 0 < j) (h' : j < 1073741824) : opDiv (.int i) (.int j) st = .ok (.int (i / j)) st := if_pos ⟨h, h'⟩
theorem ev_modI (i j : Int) (h : 0 < j) : opMod (.int i) (.int j) st = .ok (.int (i % j)) st := if_pos h
theorem ev_negI (i : Int) : opNeg (.int i) st = .ok (.int (-i)) st := Eq.trans rfl rfl
theorem ev_ltI (i j : Int) : opLt (.int i) (.int j) st = .ok (.bl (decide (i < j))) st := Eq.trans rfl rfl
theorem ev_leI (i j : Int) : opLe (.int i) (.int j) st = .ok (.bl (decide (i ≤ j))) st := Eq.trans rfl rfl
theorem ev_gtI (i j : Int) : opGt (.int i) (.int j) st = .ok (.bl (decide (j < i))) st := Eq.trans rfl rfl
theorem ev_geI (i j : Int) : opGe (.int i) (.int j) st = .ok (.bl (decide (j ≤ i))) st := Eq.trans rfl rfl
theorem ev_eqI (i j : Int) : opEq (.int i) (.int j) st = .ok (.bl (i == j)) st := Eq.trans rfl rfl
theorem ev_neI (i j : Int) : opNe (.int i) (.int j) st = .ok (.bl (!(i == j))) st := Eq.trans rfl rfl
theorem ev_eqB (i j : Bool) : opEq (.bl i) (.bl j) st = .ok (.bl (i == j)) st := Eq.trans rfl rfl
theorem ev_neB (i j : Bool) : opNe (.bl i) (.bl j) st = .ok (.bl (!(i == j))) st := Eq.trans rfl rfl
theorem ev_eqS (i j : Str) : opEq (.str i) (.str j) st = .ok (.bl (i == j)) st := Eq.trans rfl rfl
theorem ev_neS (i j : Str) : opNe (.str i) (.str j) st = .ok (.bl (!(i == j))) st := Eq.trans rfl rfl
theorem ev_addS (x y : Str) (h : x.length + y.length ≤ sizeLine) : opAdd (.str x) (.str y) st = .ok (.str (x ++ y)) st := if_pos h
theorem ev_lenL (xs : List W) : opLen [.lst xs] st = .ok (.int xs.length) st := Eq.trans rfl rfl
theorem ev_lenT (xs : List W) : opLen [.tup xs] st = .ok (.int xs.length) st := Eq.trans rfl rfl
theorem ev_lenS (x : Str) (h : x.length ≤ sizeLine) : opLen [.str x] st = .ok (.int x.length) st := if_pos h
theorem ev_lst (ws : List W) (h : ws.length ≤ sizeLine) : opL false ws st = .ok (.lst ws) st := if_pos h
theorem ev_tup (ws : List W) (h : ws.length ≤ sizeLine) : opTup ws st = .ok (.tup ws) st := if_pos h
theorem ev_idxL (ws : List W) (i : Int) (w : W) (h : atI ws i = some w) : opIdx (.lst ws) (.int i) st = .ok w st := by
 show (match atI ws i with | some w => R.ok w st | none => .stuck) = _
 rw [h]
theorem ev_idxT (ws : List W) (i : Int) (w : W) (h : atI ws i = some w) : opIdx (.tup ws) (.int i) st = .ok w st := by
 show (match atI ws i with | some w => R.ok w st | none => .stuck) = _
 rw [h]
theorem ev_idxS (z : Str) (i : Int) (c : Nat) (hz : z.length ≤ sizeLine) (h : atI z.cps.toList i = some c) : opIdx (.str z) (.int i) st = .ok (.str ⟨#[c]⟩) st := by
 show (if z.length ≤ sizeLine then (match atI z.cps.toList i with | some c => R.ok (W.str ⟨#[c]⟩) st | none => .stuck) else .stuck) = _
 rw [if_pos hz, h]
theorem size_small {n : Nat} (h : n ≤ 1000) : n ≤ sizeLine := Nat.le_of_lt (small1000 h)
theorem at_in {γ : Type} (xs : List γ) (i : Int) (h0 : 0 ≤ i) (h1 : i < xs.length) : ∃ x, atI xs i = some x ∧ x ∈ xs := by
 have hj : i.toNat < xs.length := by omega
 refine ⟨xs[i.toNat], ?_, List.getElem_mem hj⟩
 have e : ((i.toNat : Nat) : Int) = i := by omega
 have h := atI_nat (xs := xs) (j := i.toNat) (List.getElem?_eq_getElem hj)
 rw [e] at h
 exact h
theorem at_nat {γ : Type} (xs : List γ) (k : Nat) (x : γ) (h : xs[k]? = some x) : atI xs (k : Int) = some x := atI_nat h
theorem idx0T (x : W) (xs : List W) : opIdx (.tup (x :: xs)) (.int 0) st = .ok x st := ev_idxT _ 0 x (at_nat (x :: xs) 0 x rfl)
theorem idx1T (x y : W) (xs : List W) : opIdx (.tup (x :: y :: xs)) (.int 1) st = .ok y st := ev_idxT _ 1 y (at_nat (x :: y :: xs) 1 y rfl)
end
section
variable {st : S} {Γ : Ga}
def kRet (w : W) (s : S) : R Fl := .ok (.rt w) s
def kSet (i : Nat) (Γ : Ga) (w : W) (s : S) : R Fl := .ok (.nx (Γ.set i (some w))) s
def kDrop (Γ : Ga) (_ : W) (s : S) : R Fl := .ok (.nx Γ) s
def k2 (b : Run) (o : Op2) (Γ : Ga) (x : W) (s : S) : R W := (b Γ s).bind (o x)
def kC2 (w : W) (ws : List W) (s : S) : R (List W) := .ok (w :: ws) s
def kC (rr : Runs) (Γ : Ga) (w : W) (s : S) : R (List W) := (rr Γ s).bind (kC2 w)
def kTru (s : S) : R W := .ok (.bl true) s
def kFls (s : S) : R W := .ok (.bl false) s
def kCh3 (c : Run) (o' : Op2) (Γ : Ga) (y : W) (s : S) : R W := (c Γ s).bind (o' y)
def kCh2 (c : Run) (o o' : Op2) (Γ : Ga) (x y : W) (s : S) : R W := (o x y s).bind (kIf (kCh3 c o' Γ y) kFls)
def kCh1 (b c : Run) (o o' : Op2) (Γ : Ga) (x : W) (s : S) : R W := (b Γ s).bind (kCh2 c o o' Γ x)
def kLo1 (m : Bool) (b : Run) (Γ : Ga) (w : W) (s : S) : R W := (b Γ s).bind (kLo m w)
def kHi1 (m : Bool) (b : Run) (Γ : Ga) (w : W) (s : S) : R W := (b Γ s).bind (kHi m w)
def kFor (i : Nat) (body : RunS) (Γ : Ga) (items : List W) (s : S) : R Fl := loopS i body items Γ s
def kRaise (x : Str) (ws : List W) (s : S) : R Fl := if ws.length ≤ sizeLine then .ex (.str x) s else .stuck
theorem kRet_ (w : W) (s : S) : kRet w s = .ok (.rt w) s := Eq.trans rfl rfl
theorem kDrop_ (Γ : Ga) (w : W) (s : S) : kDrop Γ w s = .ok (.nx Γ) s := Eq.trans rfl rfl
theorem k2_ (b : Run) (o : Op2) (Γ : Ga) (x : W) (s : S) : k2 b o Γ x s = (b Γ s).bind (o x) := Eq.trans rfl rfl
theorem kC2_ (w : W) (ws : List W) (s : S) : kC2 w ws s = .ok (w :: ws) s := Eq.trans rfl rfl
theorem kC_ (rr : Runs) (Γ : Ga) (w : W) (s : S) : kC rr Γ w s = (rr Γ s).bind (kC2 w) := Eq.trans rfl rfl
theorem kTru_ (s : S) : kTru s = .ok (.bl true) s := Eq.trans rfl rfl
theorem kFls_ (s : S) : kFls s = .ok (.bl false) s := Eq.trans rfl rfl
theorem kCh3_ (c : Run) (o' : Op2) (Γ : Ga) (y : W) (s : S) : kCh3 c o' Γ y s = (c Γ s).bind (o' y) := Eq.trans rfl rfl
theorem kCh2_ (c : Run) (o o' : Op2) (Γ : Ga) (x y : W) (s : S) : kCh2 c o o' Γ x y s = (o x y s).bind (kIf (kCh3 c o' Γ y) kFls) := Eq.trans rfl rfl
theorem kCh1_ (b c : Run) (o o' : Op2) (Γ : Ga) (x : W) (s : S) : kCh1 b c o o' Γ x s = (b Γ s).bind (kCh2 c o o' Γ x) := Eq.trans rfl rfl
theorem kLo1_ (m : Bool) (b : Run) (Γ : Ga) (w : W) (s : S) : kLo1 m b Γ w s = (b Γ s).bind (kLo m w) := Eq.trans rfl rfl
theorem kHi1_ (m : Bool) (b : Run) (Γ : Ga) (w : W) (s : S) : kHi1 m b Γ w s = (b Γ s).bind (kHi m w) := Eq.trans rfl rfl
theorem kFor_ (i : Nat) (body : RunS) (Γ : Ga) (items : List W) (s : S) : kFor i body Γ items s = loopS i body items Γ s := Eq.trans rfl rfl
theorem kRaise1_ (x : Str) (w : W) (s : S) : kRaise x [w] s = .ex (.str x) s := if_pos (show 1 ≤ sizeLine by decide)
theorem ks0 (z : Option W) (Γ : Ga) (w : W) (s : S) : kSet 0 (z :: Γ) w s = .ok (.nx (some w :: Γ)) s := Eq.trans rfl rfl
theorem ks1 (a z : Option W) (Γ : Ga) (w : W) (s : S) : kSet 1 (a :: z :: Γ) w s = .ok (.nx (a :: some w :: Γ)) s := Eq.trans rfl rfl
theorem ks2 (a b z : Option W) (Γ : Ga) (w : W) (s : S) : kSet 2 (a :: b :: z :: Γ) w s = .ok (.nx (a :: b :: some w :: Γ)) s := Eq.trans rfl rfl
theorem ks3 (a b c z : Option W) (Γ : Ga) (w : W) (s : S) : kSet 3 (a :: b :: c :: z :: Γ) w s = .ok (.nx (a :: b :: c :: some w :: Γ)) s := Eq.trans rfl rfl
theorem ks4 (a b c d z : Option W) (Γ : Ga) (w : W) (s : S) : kSet 4 (a :: b :: c :: d :: z :: Γ) w s = .ok (.nx (a :: b :: c :: d :: some w :: Γ)) s := Eq.trans rfl rfl
theorem ks5 (a b c d e z : Option W) (Γ : Ga) (w : W) (s : S) : kSet 5 (a :: b :: c :: d :: e :: z :: Γ) w s = .ok (.nx (a :: b :: c :: d :: e :: some w :: Γ)) s := Eq.trans rfl rfl
theorem ks6 (a b c d e f z : Option W) (Γ : Ga) (w : W) (s : S) : kSet 6 (a :: b :: c :: d :: e :: f :: z :: Γ) w s = .ok (.nx (a :: b :: c :: d :: e :: f :: some w :: Γ)) s := Eq.trans rfl rfl
theorem ks7 (a b c d e f g z : Option W) (Γ : Ga) (w : W) (s : S) : kSet 7 (a :: b :: c :: d :: e :: f :: g :: z :: Γ) w s = .ok (.nx (a :: b :: c :: d :: e :: f :: g :: some w :: Γ)) s := Eq.trans rfl rfl
theorem ks8 (a b c d e f g h z : Option W) (Γ : Ga) (w : W) (s : S) : kSet 8 (a :: b :: c :: d :: e :: f :: g :: h :: z :: Γ) w s = .ok (.nx (a :: b :: c :: d :: e :: f :: g :: h :: some w :: Γ)) s := Eq.trans rfl rfl
theorem ks9 (a b c d e f g h i z : Option W) (Γ : Ga) (w : W) (s : S) : kSet 9 (a :: b :: c :: d :: e :: f :: g :: h :: i :: z :: Γ) w s = .ok (.nx (a :: b :: c :: d :: e :: f :: g :: h :: i :: some w :: Γ)) s := Eq.trans rfl rfl
theorem e_ret (r : Run) : sRet r Γ st = (r Γ st).bind kRet := Eq.trans rfl rfl
theorem e_set (i : Nat) (r : Run) : sSet i r Γ st = (r Γ st).bind (kSet i Γ) := Eq.trans rfl rfl
theorem e_drop (r : Run) : sDrop r Γ st = (r Γ st).bind (kDrop Γ) := Eq.trans rfl rfl
theorem e_run2 (a b : Run) (o : Op2) : run2 a b o Γ st = (a Γ st).bind (k2 b o Γ) := Eq.trans rfl rfl
theorem e_cons (r : Run) (rr : Runs) : runsCons r rr Γ st = (r Γ st).bind (kC rr Γ) := Eq.trans rfl rfl
theorem e_and (a b : Run) : runAnd a b Γ st = (a Γ st).bind (kIf (b Γ) kFls) := Eq.trans rfl rfl
theorem e_or (a b : Run) : runOr a b Γ st = (a Γ st).bind (kIf kTru (b Γ)) := Eq.trans rfl rfl
theorem e_chain (a b c : Run) (o o' : Op2) : runC a b c o o' Γ st = (a Γ st).bind (kCh1 b c o o' Γ) := Eq.trans rfl rfl
theorem e_slSN (m : Bool) (a b : Run) : runSlSN m a b Γ st = (a Γ st).bind (kLo1 m b Γ) := Eq.trans rfl rfl
theorem e_slNS (m : Bool) (a b : Run) : runSlNS m a b Γ st = (a Γ st).bind (kHi1 m b Γ) := Eq.trans rfl rfl
theorem e_for (i : Nat) (src : Src) (body : RunS) : sFor i src body Γ st = (src Γ st).bind (kFor i body Γ) := Eq.trans rfl rfl
theorem e_raise (x : Str) (rr : Runs) : sRaise x rr Γ st = (rr Γ st).bind (kRaise x) := Eq.trans rfl rfl
end
def EV := And.intro @ev_seq (And.intro @ev_if (And.intro @e_ret (And.intro @ev_pass (And.intro @e_drop (And.intro @ev_ok (And.intro @ev_ite (And.intro @kIf_bl (And.intro @kSeq_nx (And.intro @kSeq_rt (And.intro @ev_con (And.intro @ev_v0 (And.intro @ev_v1 (And.intro @ev_v2 (And.intro @ev_v3 (And.intro @ev_v4 (And.intro @ev_v5 (And.intro @ev_v6 (And.intro @ev_v7 (And.intro @ev_v8 (And.intro @ev_v9 (And.intro @e_set (And.intro @ks0 (And.intro @ks1 (And.intro @ks2 (And.intro @ks3 (And.intro @ks4 (And.intro @ks5 (And.intro @ks6 (And.intro @ks7 (And.intro @ks8 (And.intro @ks9 (And.intro @ev_run1 (And.intro @e_run2 (And.intro @ev_runN (And.intro @e_cons (And.intro @ev_nil (And.intro @e_and (And.intro @e_or (And.intro @ev_not (And.intro @kNot_bl (And.intro @ev_runIf (And.intro @e_chain (And.intro @ev_calmOp (And.intro @ev_calm (And.intro @ev_addI (And.intro @ev_subI (And.intro @ev_negI (And.intro @ev_divI (And.intro @ev_modI (And.intro @ev_ltI (And.intro @ev_leI (And.intro @ev_gtI (And.intro @ev_geI (And.intro @ev_eqI (And.intro @ev_neI (And.intro @ev_eqS (And.intro @ev_neS (And.intro @ev_eqB (And.intro @ev_neB (And.intro @ev_lenL (And.intro @ev_lenT (And.intro @ev_op1 (And.intro @ev_op2 (And.intro @ev_op3 (And.intro @ev_opX1 (And.intro @ev_opX2 (And.intro @ev_rt (And.intro @ev_nx (And.intro @ev_rtX (And.intro @ev_nxX (And.intro @ev_exX (And.intro @ev_exB (And.intro @e_slSN (And.intro @e_slNS (And.intro @kLo_int (And.intro @kHi_int (And.intro @ev_slT (And.intro @ev_rep0 (And.intro @ev_rep1 (And.intro @ev_rep2 (And.intro @ev_rep3 (And.intro @ev_rep4 (And.intro @ev_rep5 (And.intro @ev_rep6 (And.intro @ev_rep7 (And.intro @ev_rep8 (And.intro @ev_rep9 (And.intro @kRet_ (And.intro @kDrop_ (And.intro @k2_ (And.intro @kC2_ (And.intro @kC_ (And.intro @kTru_ (And.intro @kFls_ (And.intro @kCh3_ (And.intro @kCh2_ (And.intro @kCh1_ (And.intro @kLo1_ (And.intro @kHi1_ (And.intro @kFor_ (And.intro @kRaise1_ (And.intro @e_for @e_raise))))))))))))))))))))))))))))))))))))))))))))))))))))))))))))))))))))))))))))))))))))))))))))))))))))))
end DL
namespace DL
open PySem PySem.Spec PyProof.Rows L2
section
variable {K : PySem.W.Frag}
structure ClsIn (K : PySem.W.Frag) (x : Str) (C : Addr) : Prop where
 ns : PySem.W.nsIn K mainGlobals x = some (some (.ref C))
 ex : PySem.W.excIn K C [.type "ValueError", .type "Exception", .type "BaseException", .type "object"] "ValueError.__new__" = true
 ga : PySem.W.findIn K (.ref C) "__getattribute__" = some (some (.builtin "BaseException.__getattribute__"))
 gh : PySem.W.findIn K (.ref C) "__getattr__" = some none
 sb : PySem.W.subIn K (.ref C) (.type "BaseException") = some true
 ca : PySem.W.findIn K (.ref C) "__class__" = some (some (.builtin "object.__class__"))
 cg : PySem.W.specialIn K (.builtin "object.__class__") "__get__" = some (some (.builtin "getset_descriptor.__get__"))
 ct : PySem.W.takesIn K (.builtin "object.__class__") = some true
 cm : PySem.W.mroIn K C (.type "object") = some true
 rf : PySem.W.subIn K (.ref C) (.ref C) = some true
theorem ClsIn.obj {x : Str} {C : Addr} (c : ClsIn K x C) : (PySem.W.clsIn K C).isSome = true ∧ PySem.W.typeIn K (.ref C) = some (.type "type") := by
 have q := c.ex
 unfold PySem.W.excIn at q
 split at q
 ·rename_i dd cd sl ho
  refine ⟨?_, ?_⟩
  ·unfold PySem.W.clsIn; rw [ho]; rfl
  ·show (K.lookup C).map _ = _
   rw [ho]; rfl
 ·cases q
theorem ClsIn.k {x : Str} {C : Addr} (c : ClsIn K x C) : ClsK K x C := ⟨⟨c.ns, _, _, _, _, c.ex, PySem.F.excBase_ValueError⟩, ⟨c.ga, c.gh, c.sb, c.ca, c.cg, c.ct, c.cm, c.obj.1⟩⟩
theorem ClsIn.pair {x y : Str} {C D : Addr} {b : Bool} (c : ClsIn K x C) (d : ClsIn K y D) (s : PySem.W.subIn K (.ref C) (.ref D) = some b) : PySem.W.kitOne K (.ref C) (.ref D) = some b ∧ PySem.W.exmOne K (.ref C) (.ref D) = some b := by
 have k : PySem.W.kitCls K (.ref C) (.ref D) = some b := by
  show (if ((PySem.W.clsIn K D).isSome && PySem.W.typeIn K (.ref D) == some (.type "type")) = true then PySem.W.subIn K (.ref C) (.ref D) else none) = some b
  rw [if_pos (by rw [d.obj.1, d.obj.2]; decide)]
  exact s
 refine ⟨?_, ?_⟩
 ·unfold PySem.W.kitOne
  by_cases e : C = D
  ·subst e
   rw [d.rf] at s
   cases s
   rw [if_pos (by simp)]
  ·rw [if_neg (by simp [e])]; exact k
 ·unfold PySem.W.exmOne
  rw [if_pos (by rw [d.sb]; decide)]
  exact k
theorem ClsIn.blt {x : Str} {C : Addr} {T : String} {b : Bool} (_ : ClsIn K x C) (hm : PySem.W.kitMeta T = true) (hb : PySem.W.subIn K (.type T) (.type "BaseException") = some true) (s : PySem.W.subIn K (.ref C) (.type T) = some b) : PySem.W.kitOne K (.ref C) (.type T) = some b ∧ PySem.W.exmOne K (.ref C) (.type T) = some b := by
 have k : PySem.W.kitCls K (.ref C) (.type T) = some b := by
  show (if PySem.W.kitMeta T = true then PySem.W.subIn K (.ref C) (.type T) else none) = some b
  rw [if_pos hm]
  exact s
 refine ⟨?_, ?_⟩
 ·unfold PySem.W.kitOne
  rw [if_neg (by simp)]; exact k
 ·unfold PySem.W.exmOne
  rw [if_pos (by rw [hb]; decide)]
  exact k
theorem meta_ValueError : PySem.W.kitMeta "ValueError" = true := by decide +kernel
def TabOk (K : PySem.W.Frag) (cv : Value) (tab : List (Str × Bool)) : Prop := ∀ y b, tab.lookup y = some b → ∃ Cy, ClsK K y Cy ∧ PySem.W.kitOne K (.ref Cy) cv = some b ∧ PySem.W.exmOne K (.ref Cy) cv = some b
theorem TabOk.nil {cv : Value} : TabOk K cv [] := fun _ _ h => by cases h
theorem TabOk.cons {cv : Value} {x : Str} {C : Addr} {b : Bool} {tab : List (Str × Bool)} (c : ClsIn K x C) (p : PySem.W.kitOne K (.ref C) cv = some b ∧ PySem.W.exmOne K (.ref C) cv = some b) (h : TabOk K cv tab) : TabOk K cv ((x, b) :: tab) := fun y b' q => by
 rw [List.lookup_cons] at q
 cases hy : y == x with
 | true =>
  rw [hy] at q
  cases q
  have := eq_of_beq hy
  subst this
  exact ⟨C, c.k, p⟩
 | false => rw [hy] at q; exact h y b' q
inductive DE (w : World) : List DictEntry → List Key → List V → List W → Prop
 | nil : DE w [] [] [] []
 | int {hs : Int} {x : Str} {i : Int} {t t' : Tok} {es : List DictEntry} {ks : List Key} {vs : List V} {ws : List W} : hs = hashStr w x → DE w es ks vs ws → DE w (⟨hs, .str x t, .int i t'⟩ :: es) (.inr x :: ks) (.int i :: vs) (.int i :: ws)
 | str {hs : Int} {x y : Str} {t t' : Tok} {es : List DictEntry} {ks : List Key} {vs : List V} {ws : List W} : hs = hashStr w x → DE w es ks vs ws → DE w (⟨hs, .str x t, .str y t'⟩ :: es) (.inr x :: ks) (.str y :: vs) (.str y :: ws)
theorem DE.out {P : Program} {w : World} {es : List DictEntry} {ks : List Key} {vs : List V} {ws : List W} (d : DE w es ks vs ws) : vs.length = ks.length ∧ (∀ ι N G, RelWs K ι N G vs ws) ∧
  ∃ us : List (Key × Value), KV (ks.zip vs) us ∧ Pairs (mixKind P w) es us ∧ us.map (·.1) = ks ∧ ∀ e ∈ es, ∃ k, (mixKind P w).is k e.key = true ∧ e.hash = (mixKind P w).hash k := by
 induction d with
 | nil => exact ⟨rfl, fun _ _ _ => .nil, [], .nil, .nil, rfl, fun e h => by cases h⟩
 | @int hs x i t t' es ks vs ws hh _ ih =>
  obtain ⟨h1, h2, us, h3, h4, h5, h6⟩ := ih
  refine ⟨by simp [h1], fun ι N G => .cons (.int i) (h2 ι N G), (.inr x, .int i t') :: us, .cons ⟨rfl, ⟨t', rfl⟩⟩ h3, .cons (mixKind_str P w x t) rfl h4, by rw [List.map_cons, h5], fun e he => ?_⟩
  rcases List.mem_cons.mp he with rfl | he
  ·exact ⟨.inr x, mixKind_str P w x t, hh⟩
  ·exact h6 e he
 | @str hs x y t t' es ks vs ws hh _ ih =>
  obtain ⟨h1, h2, us, h3, h4, h5, h6⟩ := ih
  refine ⟨by simp [h1], fun ι N G => .cons (.str y) (h2 ι N G), (.inr x, .str y t') :: us, .cons ⟨rfl, ⟨t', rfl⟩⟩ h3, .cons (mixKind_str P w x t) rfl h4, by rw [List.map_cons, h5], fun e he => ?_⟩
  rcases List.mem_cons.mp he with rfl | he
  ·exact ⟨.inr x, mixKind_str P w x t, hh⟩
  ·exact h6 e he
theorem kds_mk {P : Program} {w : World} {h : Heap} {mg : Str → Option Value} {x : Str} {a : Addr} {es : List DictEntry} {ep : Nat} {ks : List Key} {vs : List V} {ws : List W} (X : K.In h) (G : h.Ns mainGlobals mg) (n : PySem.W.nsIn K mainGlobals x = some (some (.ref a)))
  (l : K.lookup a = some ⟨.type "dict", none, .dict es.toArray ep, #[]⟩) (hs : (a == sysModules) = false) (d : DE w es ks vs ws) (nd : ks.Nodup) : KDs P w K mg x ks ws := by
 obtain ⟨h1, h2, us, h3, h4, h5, h6⟩ := d.out (K := K) (P := P)
 refine ⟨a, vs, PySem.W.mg_of X G n, ⟨hs, _, us, l, h3, fun h' e => ⟨_, _, _, e, ⟨rfl, rfl, rfl⟩, rfl, fun e he => h6 e (by simpa using he), by simpa using h4, by rw [h5]; exact nd⟩⟩, h1, h2⟩
structure DIn (K : PySem.W.Frag) (x : Str) (st : Stmt) : Prop where
 ex : ∃ (f : Addr) (oc : Value) (od : Option Addr) (kV doc pm : Value) (an : Option Addr) (cdv ct : Value) (osl : Array (Option Value)), PySem.W.nsIn K mainGlobals x = some (some (.ref f)) ∧
  K.lookup f = some ⟨oc, od, .func (PySem.W.fnOf x x (defArgs st) (defBody st) (defScope st) .none kV doc pm an cdv ct), osl⟩ ∧ PySem.W.codeIn K cdv x = true ∧ PySem.W.keepIn K (.ref f) = true
theorem DIn.mk' {x : Str} {st : Stmt} {f : Addr} {oc : Value} {od : Option Addr} {kV doc pm : Value} {an : Option Addr} {cdv ct : Value} {osl : Array (Option Value)} (a : PySem.W.nsIn K mainGlobals x = some (some (.ref f)))
  (l : K.lookup f = some ⟨oc, od, .func (PySem.W.fnOf x x (defArgs st) (defBody st) (defScope st) .none kV doc pm an cdv ct), osl⟩) (c : PySem.W.codeIn K cdv x = true) (p : PySem.W.keepIn K (.ref f) = true) : DIn K x st := ⟨_, _, _, _, _, _, _, _, _, _, a, l, c, p⟩
theorem DIn.at_ {x : Str} {st : Stmt} {ps : List Str} {h : Heap} {mg : Str → Option Value} (X : K.In h) (G : h.Ns mainGlobals mg) (d : DIn K x st)
  (hb : ∀ (kV doc pm : Value) (an : Option Addr) (cdv ct : Value) (us : List Value), us.length = ps.length → bindArgs (PySem.W.fnOf x x (defArgs st) (defBody st) (defScope st) .none kV doc pm an cdv ct) ⟨us, []⟩ = pure (ps.zip us)) : DefAt K mg x st ps := by
 obtain ⟨_, _, _, _, _, _, _, _, _, _, a, l, c, p⟩ := d.ex
 exact defAt_mk X G a l c p hb
theorem DIn.law {x : Str} {st : Stmt} {y : Str} {h : Heap} {mg : Str → Option Value} {fa : Addr} {R : FuncData → Prop} (X : K.In h) (G : h.Ns mainGlobals mg) (d : DIn K x st) (hfa : mg x = some (.ref fa))
  (hb : ∀ (kV doc pm : Value) (an : Option Addr) (cdv ct : Value) (s : Shared) (u : Value), BindsTo s (PySem.W.fnOf x x (defArgs st) (defBody st) (defScope st) .none kV doc pm an cdv ct) ⟨[u], []⟩ [(y, u)]) (hR : ∀ fd, Fun K x x st fa fd → R fd) :
  ∃ fd : FuncData, (∀ (s : Shared) (u : Value), BindsTo s fd ⟨[u], []⟩ [(y, u)]) ∧ R fd := by
 obtain ⟨_, _, _, _, _, _, _, _, _, _, a, l, c, p⟩ := d.ex
 have e := hfa.symm.trans (PySem.W.mg_of X G a)
 cases e
 exact ⟨_, fun s u => hb _ _ _ _ _ _ s u, hR _ (fun_mk (st := st) l c p)⟩
theorem ClsIn.mk' {x : Str} {C : Addr} (ns : PySem.W.nsIn K mainGlobals x = some (some (.ref C))) (ex : PySem.W.excIn K C [.type "ValueError", .type "Exception", .type "BaseException", .type "object"] "ValueError.__new__" = true)
  (ga : PySem.W.findIn K (.ref C) "__getattribute__" = some (some (.builtin "BaseException.__getattribute__"))) (gh : PySem.W.findIn K (.ref C) "__getattr__" = some none) (sb : PySem.W.subIn K (.ref C) (.type "BaseException") = some true)
  (ca : PySem.W.findIn K (.ref C) "__class__" = some (some (.builtin "object.__class__"))) (cg : PySem.W.specialIn K (.builtin "object.__class__") "__get__" = some (some (.builtin "getset_descriptor.__get__"))) (ct : PySem.W.takesIn K (.builtin "object.__class__") = some true)
  (cm : PySem.W.mroIn K C (.type "object") = some true) (rf : PySem.W.subIn K (.ref C) (.ref C) = some true) : ClsIn K x C := ⟨ns, ex, ga, gh, sb, ca, cg, ct, cm, rf⟩
end
end DL
namespace DL
open PySem PySem.Spec PyProof.Rows L2
def cp (z : Str) : List Nat := z.cps.toList
theorem cp_len (z : Str) : (cp z).length = z.length := by unfold cp; rw [Array.length_toList]; rfl
theorem cp_app (x y : Str) : cp (x ++ y) = cp x ++ cp y := by
 show (x.cps ++ y.cps).toList = _
 rw [Array.toList_append]; rfl
theorem cp_one (c : Nat) : cp ⟨#[c]⟩ = [c] := rfl
theorem cp_ext {x y : Str} (h : cp x = cp y) : x = y := by
 obtain ⟨a⟩ := x
 obtain ⟨b⟩ := y
 have : a = b := Array.toList_inj.mp h
 rw [this]
theorem cp_join0 : ∀ ys : List Str, cp (Txt.join "" ys) = (ys.map cp).flatten := by
 have e : ∀ ys : List Str, cp (Str.join "" ys) = (ys.map cp).flatten := by
  intro ys
  induction ys with
  | nil => rfl
  | cons x r ih =>
   cases r with
   | nil => show cp x = _; simp
   | cons y r =>
    show cp (x ++ ("" : Str) ++ Str.join "" (y :: r)) = _
    rw [cp_app, cp_app, ih]
    show cp x ++ [] ++ _ = _
    simp
 intro ys
 show cp (Builtin.Str.glued "" ys) = _
 rw [StrLaws.glued_eq_join]
 exact e ys
theorem pick_range (l : List Nat) (s : Nat) : ∀ m : Nat, ((List.range m).map fun (k : Nat) => s + k).filterMap (fun i => l[i]?) = (l.drop s).take m
 | 0 => by simp
 | m + 1 => by
  rw [List.range_succ, List.map_append, List.filterMap_append, pick_range l s m, List.take_succ, List.getElem?_drop]
  congr 1
theorem slice_lo (z : Str) (k : Nat) : cp (Txt.slice z (some (k : Int)) none) = (cp z).drop k := by
 have hi : Builtin.Str.strSliceIndices (some (k : Int)) none 1 z.length = (List.range (z.length - k)).map fun (i : Nat) => min k z.length + i := by
  unfold Builtin.Str.strSliceIndices sliceRange
  simp only [show (1 : Int) > 0 by decide, if_true]
  have c0 : ¬ ((k : Int) < 0) := by omega
  simp only [c0, if_false]
  have e1 : max (0 : Int) (min (k : Int) (z.length : Int)) = ((min k z.length : Nat) : Int) := by omega
  rw [e1]
  by_cases h : k < z.length
  ·rw [if_pos (by omega)]
   have e2 : (((z.length : Int) - ((min k z.length : Nat) : Int) + 1 - 1) / 1).toNat = z.length - k := by rw [Int.ediv_one]; omega
   rw [e2]
   apply List.map_congr_left
   intro i _
   omega
  ·rw [if_neg (by omega)]
   have : z.length - k = 0 := by omega
   rw [this]; rfl
 have hp := pick_range (cp z) (min k z.length) (z.length - k)
 unfold Txt.slice
 rw [hi]
 by_cases h : ((1 : Int) == 1 && ((List.range (z.length - k)).map fun (i : Nat) => min k z.length + i).length == z.length) = true
 ·rw [if_pos h]
  simp only [Bool.and_eq_true, beq_iff_eq, List.length_map, List.length_range] at h
  have h2 := h.2
  by_cases hk : k = 0
  ·rw [hk, List.drop_zero]
  ·have hz : z.length = 0 := by omega
   have : cp z = [] := List.length_eq_zero_iff.mp (by rw [cp_len]; exact hz)
   rw [this]; simp
 ·rw [if_neg h]
  show (List.filterMap _ _).toArray.toList = _
  rw [List.toList_toArray]
  have e3 : (fun (x : Nat) => z.cps[x]?) = fun (i : Nat) => (cp z)[i]? := by funext i; unfold cp; simp
  rw [e3, hp]
  by_cases hk : k ≤ z.length
  ·rw [Nat.min_eq_left hk]
   exact List.take_of_length_le (by rw [List.length_drop, cp_len]; omega)
  ·rw [Nat.min_eq_right (by omega), List.drop_of_length_le (by rw [cp_len]; omega), List.drop_of_length_le (by rw [cp_len]; omega)]
   simp
theorem slice_hi (z : Str) (k : Nat) : cp (Txt.slice z none (some (k : Int))) = (cp z).take k := by
 have hi : Builtin.Str.strSliceIndices none (some (k : Int)) 1 z.length = (List.range (min k z.length)).map fun (i : Nat) => 0 + i := by
  unfold Builtin.Str.strSliceIndices sliceRange
  simp only [show (1 : Int) > 0 by decide, if_true]
  have c0 : ¬ ((k : Int) < 0) := by omega
  simp only [c0, if_false]
  have e1 : max (0 : Int) (min (k : Int) (z.length : Int)) = ((min k z.length : Nat) : Int) := by omega
  rw [e1]
  by_cases h : 0 < min k z.length
  ·rw [if_pos (by omega)]
   have e2 : ((((min k z.length : Nat) : Int) - 0 + 1 - 1) / 1).toNat = min k z.length := by rw [Int.ediv_one]; omega
   rw [e2]
   apply List.map_congr_left
   intro i _
   omega
  ·rw [if_neg (by omega)]
   have : min k z.length = 0 := by omega
   rw [this]; rfl
 have hp := pick_range (cp z) 0 (min k z.length)
 unfold Txt.slice
 rw [hi]
 by_cases h : ((1 : Int) == 1 && ((List.range (min k z.length)).map fun (i : Nat) => 0 + i).length == z.length) = true
 ·rw [if_pos h]
  simp only [Bool.and_eq_true, beq_iff_eq, List.length_map, List.length_range] at h
  have h2 := h.2
  rw [List.take_of_length_le (by rw [cp_len]; omega)]
 ·rw [if_neg h]
  show (List.filterMap _ _).toArray.toList = _
  rw [List.toList_toArray]
  have e3 : (fun (x : Nat) => z.cps[x]?) = fun (i : Nat) => (cp z)[i]? := by funext i; unfold cp; simp
  rw [e3, hp, List.drop_zero]
  by_cases hk : k ≤ z.length
  ·rw [Nat.min_eq_left hk]
  ·rw [Nat.min_eq_right (by omega), List.take_of_length_le (by rw [cp_len]; exact Nat.le_refl _), List.take_of_length_le (by rw [cp_len]; omega)]
def smallC (c : Nat) : Prop := 97 ≤ c ∧ c ≤ 122
def greatC (c : Nat) : Prop := 65 ≤ c ∧ c ≤ 90
theorem small_in {c : Nat} (h : smallC c) : inStr ⟨#[c]⟩ "abcdefghijklmnopqrstuvwxyz" = true := by
 have all : (List.range 26).all (fun k => inStr ⟨#[97 + k]⟩ "abcdefghijklmnopqrstuvwxyz") = true := by decide +kernel
 have := List.all_eq_true.mp all (c - 97) (List.mem_range.mpr (by have := h.1; have := h.2; omega))
 rwa [show 97 + (c - 97) = c from by have := h.1; omega] at this
theorem great_in {c : Nat} (h : greatC c) : inStr ⟨#[c]⟩ "ABCDEFGHIJKLMNOPQRSTUVWXYZ" = true := by
 have all : (List.range 26).all (fun k => inStr ⟨#[65 + k]⟩ "ABCDEFGHIJKLMNOPQRSTUVWXYZ") = true := by decide +kernel
 have := List.all_eq_true.mp all (c - 65) (List.mem_range.mpr (by have := h.1; have := h.2; omega))
 rwa [show 65 + (c - 65) = c from by have := h.1; omega] at this
theorem upper_one {c : Nat} (h : smallC c) : Txt.upper ⟨#[c]⟩ = ⟨#[c - 32]⟩ := by
 have all : (List.range 26).all (fun k => Txt.upper ⟨#[97 + k]⟩ == ⟨#[97 + k - 32]⟩) = true := by decide +kernel
 have := List.all_eq_true.mp all (c - 97) (List.mem_range.mpr (by have := h.1; have := h.2; omega))
 rw [show 97 + (c - 97) = c from by have := h.1; omega] at this
 exact eq_of_beq this
theorem abc_at (i : Nat) (h : i < 26) : (cp "abcdefghijklmnopqrstuvwxyz")[i]? = some (97 + i) := by
 have all : (List.range 26).all (fun k => (cp "abcdefghijklmnopqrstuvwxyz")[k]? == some (97 + k)) = true := by decide +kernel
 exact eq_of_beq (List.all_eq_true.mp all i (List.mem_range.mpr h))
theorem in_one (c : Nat) (x : Str) : inStr ⟨#[c]⟩ x = decide (c ∈ cp x) := StrLaws.found_one x c
theorem both_not {c : Nat} (h : inStr ⟨#[c]⟩ "abcdefghijklmnopqrstuvwxyz" = true) : inStr ⟨#[c]⟩ "ABCDEFGHIJKLMNOPQRSTUVWXYZ" = false := by
 rw [in_one] at h ⊢
 have hc := of_decide_eq_true h
 have all : (cp "abcdefghijklmnopqrstuvwxyz").all (fun c => !decide (c ∈ cp "ABCDEFGHIJKLMNOPQRSTUVWXYZ")) = true := by decide +kernel
 have := List.all_eq_true.mp all c hc
 simpa using this
end DL
namespace DL.My
open PySem L2
def top (i : Nat) : Stmt := PySem.Challenge.pw_whyfacts_k02_forms.main.body.getD i (.Pass ⟨0, 0, 0, 0⟩)
def c_MOST_WIDTH : W := .int 4
def c_MOST_PARTS : W := .int 6
def c_MOST_SIGNS : W := .int 8
def c_MOST_NUMBER : W := .int 999999999
def c_SMALL_LETTERS : W := .str "abcdefghijklmnopqrstuvwxyz"
def c_GREAT_LETTERS : W := .str "ABCDEFGHIJKLMNOPQRSTUVWXYZ"
def c_KEPT_WORDS : W := .tup ((["has", "not", "less", "same", "plus", "if", "by", "is", "count", "sum", "least", "most", "why"] : List Str).map W.str)
def c_PATTERN_PARTS : W := .tup ((["has", "not"] : List Str).map W.str)
def ck_TERM_COUNTS : List Key := [Sum.inr "less", Sum.inr "same", Sum.inr "plus"]
def cw_TERM_COUNTS : List W := [(W.int 2), (W.int 2), (W.int 3)]
def t_BadFact : List (Str × Bool) := [("FactError", false), ("BadFact", true), ("BadRule", false), ("BadWidth", false), ("Unbound", false), ("Ringed", false), ("TooMany", false), ("NoFact", false), ("NoText", false)]
def t_BadRule : List (Str × Bool) := [("FactError", false), ("BadFact", false), ("BadRule", true), ("BadWidth", false), ("Unbound", false), ("Ringed", false), ("TooMany", false), ("NoFact", false), ("NoText", false)]
def t_BadWidth : List (Str × Bool) := [("FactError", false), ("BadFact", false), ("BadRule", false), ("BadWidth", true), ("Unbound", false), ("Ringed", false), ("TooMany", false), ("NoFact", false), ("NoText", false)]
def t_FactError : List (Str × Bool) := [("FactError", true), ("BadFact", true), ("BadRule", true), ("BadWidth", true), ("Unbound", true), ("Ringed", true), ("TooMany", true), ("NoFact", true), ("NoText", true)]
def t_NoFact : List (Str × Bool) := [("FactError", false), ("BadFact", false), ("BadRule", false), ("BadWidth", false), ("Unbound", false), ("Ringed", false), ("TooMany", false), ("NoFact", true), ("NoText", false)]
def t_NoText : List (Str × Bool) := [("FactError", false), ("BadFact", false), ("BadRule", false), ("BadWidth", false), ("Unbound", false), ("Ringed", false), ("TooMany", false), ("NoFact", false), ("NoText", true)]
def t_Ringed : List (Str × Bool) := [("FactError", false), ("BadFact", false), ("BadRule", false), ("BadWidth", false), ("Unbound", false), ("Ringed", true), ("TooMany", false), ("NoFact", false), ("NoText", false)]
def t_TooMany : List (Str × Bool) := [("FactError", false), ("BadFact", false), ("BadRule", false), ("BadWidth", false), ("Unbound", false), ("Ringed", false), ("TooMany", true), ("NoFact", false), ("NoText", false)]
def t_Unbound : List (Str × Bool) := [("FactError", false), ("BadFact", false), ("BadRule", false), ("BadWidth", false), ("Unbound", true), ("Ringed", false), ("TooMany", false), ("NoFact", false), ("NoText", false)]
def t_ValueError : List (Str × Bool) := [("FactError", true), ("BadFact", true), ("BadRule", true), ("BadWidth", true), ("Unbound", true), ("Ringed", true), ("TooMany", true), ("NoFact", true), ("NoText", true)]
def gl0 : List (Str × GV) := [("BadFact", .exc true t_BadFact), ("BadRule", .exc true t_BadRule), ("BadWidth", .exc true t_BadWidth), ("FactError", .exc true t_FactError), ("NoFact", .exc true t_NoFact), ("NoText", .exc true t_NoText), ("Ringed", .exc true t_Ringed), ("TooMany", .exc true t_TooMany), ("Unbound", .exc true t_Unbound), ("ValueError", .exc false t_ValueError), ("MOST_WIDTH", .con c_MOST_WIDTH), ("MOST_PARTS", .con c_MOST_PARTS), ("MOST_SIGNS", .con c_MOST_SIGNS), ("MOST_NUMBER", .con c_MOST_NUMBER), ("SMALL_LETTERS", .con c_SMALL_LETTERS), ("GREAT_LETTERS", .con c_GREAT_LETTERS), ("KEPT_WORDS", .con c_KEPT_WORDS), ("PATTERN_PARTS", .con c_PATTERN_PARTS), ("TERM_COUNTS", .dcon ck_TERM_COUNTS cw_TERM_COUNTS), ("all", .blt), ("any", .blt), ("bool", .blt), ("int", .blt), ("isinstance", .blt), ("len", .blt), ("list", .blt), ("max", .blt), ("range", .blt), ("str", .blt), ("tuple", .blt)]
abbrev s_is_short_text : Stmt := top 18
def N_is_short_text : List Str := ["thing"]
def P_is_short_text : List Str := ["thing"]
def M_is_short_text : List (Nat × Nat) := []
noncomputable def r_is_short_text : RunS :=
 (sSeq (sRet (runAnd (runN (runsCons (rVar 0) (runsCons (rCon (.ty "str")) runsNil)) opIsi) (runC (rCon (W.int 1)) (runN (runsCons (rVar 0) runsNil) opLen) (rCon c_MOST_SIGNS) opLe opLe)))
 sPass)
noncomputable def op_is_short_text : OpN := callOp 1 1 false r_is_short_text
abbrev s_all_small : Stmt := top 19
def N_all_small : List Str := ["text"]
def P_all_small : List Str := ["text"]
def M_all_small : List (Nat × Nat) := []
noncomputable def r_all_small : RunS :=
 (sSeq (sRet (runN (runsCons (runComp false (runSrc (rVar 0)) [] (rCon (.bl true)) (run2 (rVar 0) (rCon c_SMALL_LETTERS) opIn)) runsNil) opAll))
 sPass)
noncomputable def op_all_small : OpN := callOp 1 1 false r_all_small
abbrev s_is_number : Stmt := top 22
def N_is_number : List Str := ["thing"]
def P_is_number : List Str := ["thing"]
def M_is_number : List (Nat × Nat) := []
noncomputable def r_is_number : RunS :=
 (sSeq (sIf (runN (runsCons (rVar 0) (runsCons (rCon (.ty "bool")) runsNil)) opIsi)
  (sSeq (sRet (rCon (W.bl false)))
 sPass)
  sPass)
 (sSeq (sRet (runAnd (runN (runsCons (rVar 0) (runsCons (rCon (.ty "int")) runsNil)) opIsi) (runC (run1 (rCon c_MOST_NUMBER) opNeg) (rVar 0) (rCon c_MOST_NUMBER) opLe opLe)))
 sPass))
noncomputable def op_is_number : OpN := callOp 1 1 false r_is_number
abbrev s_word_ahead : Stmt := top 31
def N_word_ahead : List Str := ["thing"]
def P_word_ahead : List Str := ["thing"]
def M_word_ahead : List (Nat × Nat) := []
noncomputable def r_word_ahead : RunS :=
 (sSeq (sIf (runAnd (runN (runsCons (rVar 0) (runsCons (rCon (.ty "tuple")) runsNil)) opIsi) (runAnd (run2 (runN (runsCons (rVar 0) runsNil) opLen) (rCon (W.int 0)) opGt) (runN (runsCons (run2 (rVar 0) (rCon (W.int 0)) opIdx) (runsCons (rCon (.ty "str")) runsNil)) opIsi)))
  (sSeq (sRet (run2 (rVar 0) (rCon (W.int 0)) opIdx))
 sPass)
  sPass)
 (sSeq (sRet (rCon (W.str "")))
 sPass))
noncomputable def op_word_ahead : OpN := callOp 1 1 false r_word_ahead
abbrev s_l_cell_at : Stmt := top 41
def N_l_cell_at : List Str := ["_law_script", "_law_k"]
def P_l_cell_at : List Str := ["_law_script", "_law_k"]
def M_l_cell_at : List (Nat × Nat) := []
noncomputable def r_l_cell_at : RunS :=
 (sSeq (sIf (run2 (rVar 1) (runN (runsCons (rVar 0) runsNil) opLen) opLt)
  (sSeq (sRet (run2 (rVar 0) (rVar 1) opIdx))
 sPass)
  sPass)
 (sSeq (sRet (rCon (W.int 0)))
 sPass))
noncomputable def op_l_cell_at : OpN := callOp 2 2 false r_l_cell_at
abbrev s_l_free_words : Stmt := top 42
def N_l_free_words : List Str := ["_law_cell", "_law_small", "_law_tail", "_law_at", "_law_found", "_law_k", "_law_letter"]
def P_l_free_words : List Str := ["_law_cell"]
def M_l_free_words : List (Nat × Nat) := [(111, 17)]
noncomputable def r_l_free_words : RunS :=
 (sSeq (sIf (run2 (run2 (rVar 0) (rCon (W.int 3)) opMod) (rCon (W.int 0)) opEq)
  (sSeq (sRet (runN (runsCons (rCon (W.str "X")) (runsCons (rCon (W.str "Y")) (runsCons (rCon (W.str "Zed")) (runsCons (rCon (W.str "T")) (runsCons (rCon (W.str "Result")) runsNil))))) (opL false)))
 sPass)
  sPass)
 (sSeq (sSet 1 (rCon (W.str "abcdefghijklmnopqrstuvwxyz")))
 (sSeq (sSet 2 (runM "str" (rCon (W.str "")) (runsCons (runComp false (runRng1 (run2 (run2 (rVar 0) (rCon (W.int 3)) opDiv) (rCon (W.int 8)) opMod)) [0, 1] (rCon (.bl true)) (run2 (rVar 2) (run2 (run2 (run2 (rVar 1) (rCon (W.int 52)) opDiv) (run2 (rCon (W.int 5)) (rVar 0) opMul) opAdd) (rCon (W.int 26)) opMod) opIdx)) runsNil) opJoin))
 (sSeq (sIf (run2 (run2 (rVar 0) (rCon (W.int 3)) opMod) (rCon (W.int 1)) opEq)
  (sSeq (sRet (runComp false (runRng1 (rCon (W.int 5))) [0, 2] (rCon (.bl true)) (runSlNS false (run2 (rCon (W.str "N")) (runSlNS false (run2 (rVar 2) (rCon (W.str "abcdefg")) opAdd) (rCon (W.int 7))) opAdd) (run2 (rCon (W.int 1)) (run2 (run2 (rVar 0) (run2 (rVar 1) (rCon (W.int 24)) opDiv) opAdd) (rCon (W.int 8)) opMod) opAdd))))
 sPass)
  sPass)
 (sSeq (sSet 3 (run2 (run2 (rVar 0) (rCon (W.int 24)) opDiv) (run2 (runN (runsCons (rVar 2) runsNil) opLen) (rCon (W.int 1)) opAdd) opMod))
 (sSeq (sSet 4 (runN runsNil (opL true)))
 (sSeq (sFor 5 (runRng1 (rCon (W.int 5))) (sSeq (sSet 6 (run2 (rVar 1) (run2 (run2 (run2 (rVar 0) (rCon (W.int 208)) opDiv) (run2 (rCon (W.int 7)) (rVar 5) opMul) opAdd) (rCon (W.int 26)) opMod) opIdx))
 (sSeq (sIf (run2 (rVar 3) (rCon (W.int 0)) opEq)
  (sSeq (sDrop (runM "list" (rVar 4) (runsCons (run2 (runM "str" (rVar 6) runsNil opUpper) (rVar 2) opAdd) runsNil) opAppend))
 sPass)
  (sSeq (sDrop (runM "list" (rVar 4) (runsCons (run2 (run2 (run2 (rCon (W.str "Q")) (runSlNS false (rVar 2) (run2 (rVar 3) (rCon (W.int 1)) opSub)) opAdd) (rVar 6) opAdd) (runSlSN false (rVar 2) (rVar 3)) opAdd) runsNil) opAppend))
 sPass))
 sPass)))
 (sSeq (sRet (rVar 4))
 sPass))))))))
noncomputable def op_l_free_words : OpN := callOp 1 7 true r_l_free_words
abbrev s_l_is_free : Stmt := top 46
def N_l_is_free : List Str := ["_law_term"]
def P_l_is_free : List Str := ["_law_term"]
def M_l_is_free : List (Nat × Nat) := []
noncomputable def r_l_is_free : RunS :=
 (sSeq (sRet (runAnd (runN (runsCons (rVar 0) (runsCons (rCon (.ty "str")) runsNil)) opIsi) (run2 (run2 (rVar 0) (rCon (W.int 0)) opIdx) (rCon (W.str "ABCDEFGHIJKLMNOPQRSTUVWXYZ")) opIn)))
 sPass)
noncomputable def op_l_is_free : OpN := callOp 1 1 false r_l_is_free
abbrev s_l_spoilt_pattern : Stmt := top 48
def N_l_spoilt_pattern : List Str := ["_law_pattern", "_law_cell", "_law_bad", "_law_at", "_law_some"]
def P_l_spoilt_pattern : List Str := ["_law_pattern", "_law_cell"]
def M_l_spoilt_pattern : List (Nat × Nat) := []
noncomputable def r_l_spoilt_pattern : RunS :=
 (sSeq (sSet 2 (run2 (runN (runsCons (rCon (W.str "")) (runsCons (rCon (W.str "if")) (runsCons (rCon (W.str "Road")) (runsCons (rCon (W.str "abcdefghi")) (runsCons (rCon (W.str "a b")) (runsCons (rCon (W.int 5)) (runsCons (rCon W.non) (runsCons (rCon (W.bl true)) (runsCons (rCon (W.str "x1")) (runsCons (runN runsNil (opL false)) (runsCons (runN (runsCons (rCon (W.str "a")) runsNil) opTup) runsNil))))))))))) (opL false)) (run2 (run2 (rVar 1) (rCon (W.int 6)) opDiv) (rCon (W.int 11)) opMod) opIdx))
 (sSeq (sSet 3 (run2 (rCon (W.int 1)) (run2 (run2 (rVar 1) (rCon (W.int 66)) opDiv) (runN (runsCons (rCon (W.int 1)) (runsCons (run2 (runN (runsCons (rVar 0) runsNil) opLen) (rCon (W.int 1)) opSub) runsNil)) opMax) opMod) opAdd))
 (sSeq (sIf (run2 (run2 (rVar 1) (rCon (W.int 6)) opMod) (rCon (W.int 0)) opEq)
  (sSeq (sRet (runN (runsCons (rVar 0) runsNil) (opList false)))
 sPass)
  sPass)
 (sSeq (sIf (run2 (run2 (rVar 1) (rCon (W.int 6)) opMod) (rCon (W.int 1)) opEq)
  (sSeq (sRet (run2 (runN (runsCons (rVar 2) runsNil) opTup) (runSlSN false (rVar 0) (rCon (W.int 1))) opAdd))
 sPass)
  sPass)
 (sSeq (sIf (run2 (run2 (rVar 1) (rCon (W.int 6)) opMod) (rCon (W.int 2)) opEq)
  (sSeq (sSet 4 (runN (runsCons (rCon W.non) (runsCons (rCon (W.bl true)) (runsCons (rCon (W.int 1000000000)) (runsCons (rCon (W.str "")) (runsCons (rCon (W.str "aB")) (runsCons (rCon (W.str "XYZ")) (runsCons (rCon (W.str "not")) (runsCons (runN (runsCons (rCon (W.int 1)) runsNil) opTup) (runsCons (rCon (W.str "abcdefghi")) (runsCons (rCon (W.str "Abcdefghi")) (runsCons (rCon (W.str " a")) (runsCons (run1 (rCon (W.int 1000000000)) opNeg) runsNil)))))))))))) (opL false)))
 (sSeq (sRet (run2 (run2 (runSlNS false (rVar 0) (rVar 3)) (runN (runsCons (run2 (run2 (rVar 4) (runN (runsCons (runN (runsCons (rCon (W.str "a")) runsNil) (opL false)) (runsCons rDict0 runsNil)) (opL false)) opAdd) (run2 (run2 (rVar 1) (rCon (W.int 66)) opDiv) (rCon (W.int 14)) opMod) opIdx) runsNil) opTup) opAdd) (runSlSN false (rVar 0) (run2 (rVar 3) (rCon (W.int 1)) opAdd)) opAdd))
 sPass))
  sPass)
 (sSeq (sIf (run2 (run2 (rVar 1) (rCon (W.int 6)) opMod) (rCon (W.int 3)) opEq)
  (sSeq (sRet (run2 (runSlNS false (rVar 0) (rCon (W.int 1))) (runN (runsCons (rCon (W.int 1)) (runsCons (rCon (W.int 2)) (runsCons (rCon (W.int 3)) (runsCons (rCon (W.int 4)) (runsCons (rCon (W.int 5)) runsNil))))) opTup) opAdd))
 sPass)
  sPass)
 (sSeq (sRet (run2 (runN (runsCons (runN runsNil opTup) (runsCons (rCon W.non) (runsCons (rCon (W.str "road")) (runsCons (rCon (W.int 5)) (runsCons rDict0 runsNil))))) (opL false)) (run2 (run2 (rVar 1) (rCon (W.int 6)) opDiv) (rCon (W.int 5)) opMod) opIdx))
 sPass)))))))
noncomputable def op_l_spoilt_pattern : OpN := callOp 2 5 false r_l_spoilt_pattern
abbrev s_l_spoilt_part : Stmt := top 49
def N_l_spoilt_part : List Str := ["_law_part", "_law_pattern", "_law_cell", "_law_some"]
def P_l_spoilt_part : List Str := ["_law_part", "_law_pattern", "_law_cell"]
def M_l_spoilt_part : List (Nat × Nat) := []
noncomputable def r_l_spoilt_part : RunS :=
 (sSeq (sSet 3 (runN (runsCons (runN (runsCons (rVar 0) runsNil) (opList false)) (runsCons (runSlNS false (rVar 0) (rCon (W.int 1))) (runsCons (run2 (rVar 0) (runN (runsCons (rCon (W.int 1)) runsNil) opTup) opAdd) (runsCons (run2 (runN (runsCons (rCon (W.str "is")) runsNil) opTup) (runSlSN false (rVar 0) (rCon (W.int 1))) opAdd) (runsCons (run2 (runN (runsCons (rCon W.non) runsNil) opTup) (runSlSN false (rVar 0) (rCon (W.int 1))) opAdd) (runsCons (runN (runsCons (rCon (W.str "has")) (runsCons (rVar 1) runsNil)) opTup) (runsCons (rCon W.non) runsNil))))))) (opL false)))
 (sSeq (sSet 3 (run2 (rVar 3) (runN (runsCons (runN (runsCons (rCon (W.str "less")) (runsCons (rCon (W.int 1)) runsNil)) opTup) (runsCons (runN (runsCons (rCon (W.str "plus")) (runsCons (rCon (W.int 1)) (runsCons (rCon (W.int 2)) runsNil))) opTup) (runsCons (runN (runsCons (rCon (W.str "same")) (runsCons (rCon (W.int 1)) (runsCons (rCon (W.int 2)) (runsCons (rCon (W.int 3)) runsNil)))) opTup) (runsCons (runN (runsCons (rCon (W.str "not")) (runsCons (rVar 1) runsNil)) opTup) (runsCons (runN (runsCons (rCon (W.str "less")) (runsCons (rCon (W.int 1)) (runsCons (rCon W.non) runsNil))) opTup) (runsCons (runN runsNil opTup) (runsCons (rCon (W.str "has")) runsNil))))))) (opL false)) opAdd))
 (sSeq (sSet 3 (run2 (rVar 3) (runN (runsCons (run2 (runN (runsCons (runN (runsCons (rCon (W.str "has")) runsNil) (opL false)) runsNil) opTup) (runSlSN false (rVar 0) (rCon (W.int 1))) opAdd) (runsCons (runN (runsCons (rCon (W.str "less")) (runsCons (runN (runsCons (rCon (W.int 1)) runsNil) (opL false)) (runsCons (rCon (W.int 1)) runsNil))) opTup) (runsCons (runN (runsCons (rCon (W.str "has")) (runsCons (runN (runsCons (rCon (W.str "road")) (runsCons (rCon (W.int 1)) runsNil)) (opL false)) runsNil)) opTup) runsNil))) (opL false)) opAdd))
 (sSeq (sRet (run2 (run2 (rVar 3) (runN (runsCons (runN (runsCons (rCon (W.str "plus")) (runsCons (rCon (W.int 1)) (runsCons (rCon (W.int 2)) (runsCons (rCon (W.str "abcdefghi")) runsNil)))) opTup) (runsCons (runN (runsCons (rCon (W.str "less")) (runsCons (runN (runsCons (rCon (W.int 1)) runsNil) opTup) (runsCons (rCon (W.int 1)) runsNil))) opTup) runsNil)) (opL false)) opAdd) (run2 (rVar 2) (rCon (W.int 19)) opMod) opIdx))
 sPass))))
noncomputable def op_l_spoilt_part : OpN := callOp 3 4 false r_l_spoilt_part
abbrev s_l_names : Stmt := top 47
def N_l_names : List Str := ["_law_e", "_law_found"]
def P_l_names : List Str := ["_law_e"]
def M_l_names : List (Nat × Nat) := []
noncomputable def r_l_names : RunS :=
 (sSeq (sSet 1 (runN (runsCons (run1 (rVar 0) (opIsx t_BadFact)) (runsCons (run1 (rVar 0) (opIsx t_BadRule)) (runsCons (run1 (rVar 0) (opIsx t_BadWidth)) (runsCons (run1 (rVar 0) (opIsx t_Unbound)) runsNil)))) (opL false)))
 (sSeq (sSet 1 (run2 (rVar 1) (runN (runsCons (run1 (rVar 0) (opIsx t_Ringed)) (runsCons (run1 (rVar 0) (opIsx t_TooMany)) (runsCons (run1 (rVar 0) (opIsx t_NoFact)) (runsCons (run1 (rVar 0) (opIsx t_NoText)) runsNil)))) (opL false)) opAdd))
 (sSeq (sIf (runOr (run2 (runM "list" (rVar 1) (runsCons (rCon (W.bl true)) runsNil) opCount) (rCon (W.int 1)) opNe) (runNot (run1 (rVar 0) (opIsx t_ValueError))))
  (sSeq (sRet (run1 (rCon (W.int 1)) opNeg))
 sPass)
  sPass)
 (sSeq (sRet (runM "list" (rVar 1) (runsCons (rCon (W.bl true)) runsNil) opIndex))
 sPass))))
noncomputable def op_l_names : OpN := callX 1 2 false r_l_names
abbrev s_need_bound : Stmt := top 37
def N_need_bound : List Str := ["words", "bound", "word"]
def P_need_bound : List Str := ["words", "bound"]
def M_need_bound : List (Nat × Nat) := []
noncomputable def r_need_bound : RunS :=
 (sSeq (sFor 2 (runSrc (rVar 0)) (sSeq (sIf (run2 (rVar 2) (rVar 1) opNotIn)
  (sSeq (sRaise "Unbound" (runsCons (runJ [(rCon (W.str "the free word ")), (run1 (rVar 2) opFmt), (rCon (W.str " is not bound"))] Str.empty) runsNil))
 sPass)
  sPass)
 sPass))
 sPass)
noncomputable def op_need_bound : OpN := callX 2 3 false r_need_bound
noncomputable def gl1 : List (Str × GV) := ("need_bound", .fx 2 true op_need_bound) :: ("_law_names", .fx 1 false op_l_names) :: ("_law_spoilt_part", .fn 3 op_l_spoilt_part) :: ("_law_spoilt_pattern", .fn 2 op_l_spoilt_pattern) :: ("_law_is_free", .fn 1 op_l_is_free) :: ("_law_free_words", .fn 1 op_l_free_words) :: ("_law_cell_at", .fn 2 op_l_cell_at) :: ("word_ahead", .fn 1 op_word_ahead) :: ("is_number", .fn 1 op_is_number) :: ("all_small", .fn 1 op_all_small) :: ("is_short_text", .fn 1 op_is_short_text) :: gl0
abbrev s_is_name : Stmt := top 20
def N_is_name : List Str := ["thing"]
def P_is_name : List Str := ["thing"]
def M_is_name : List (Nat × Nat) := []
noncomputable def r_is_name : RunS :=
 (sSeq (sRet (runAnd (runN (runsCons (rVar 0) runsNil) (calmOp op_is_short_text)) (runAnd (runN (runsCons (rVar 0) runsNil) (calmOp op_all_small)) (run2 (rVar 0) (rCon c_KEPT_WORDS) opNotIn))))
 sPass)
noncomputable def op_is_name : OpN := callOp 1 1 false r_is_name
abbrev s_is_free : Stmt := top 21
def N_is_free : List Str := ["thing"]
def P_is_free : List Str := ["thing"]
def M_is_free : List (Nat × Nat) := []
noncomputable def r_is_free : RunS :=
 (sSeq (sRet (runAnd (runN (runsCons (rVar 0) runsNil) (calmOp op_is_short_text)) (runAnd (run2 (run2 (rVar 0) (rCon (W.int 0)) opIdx) (rCon c_GREAT_LETTERS) opIn) (runN (runsCons (runSlSN false (rVar 0) (rCon (W.int 1))) runsNil) (calmOp op_all_small)))))
 sPass)
noncomputable def op_is_free : OpN := callOp 1 1 false r_is_free
abbrev s_l_term_by : Stmt := top 43
def N_l_term_by : List Str := ["_law_cell"]
def P_l_term_by : List Str := ["_law_cell"]
def M_l_term_by : List (Nat × Nat) := []
noncomputable def r_l_term_by : RunS :=
 (sSeq (sIf (run2 (run2 (rVar 0) (rCon (W.int 3)) opMod) (rCon (W.int 0)) opEq)
  (sSeq (sRet (run2 (runN (runsCons (run2 (rVar 0) (rCon (W.int 12)) opDiv) runsNil) (calmOp op_l_free_words)) (run2 (run2 (rVar 0) (rCon (W.int 3)) opDiv) (rCon (W.int 4)) opMod) opIdx))
 sPass)
  sPass)
 (sSeq (sIf (run2 (run2 (rVar 0) (rCon (W.int 3)) opMod) (rCon (W.int 1)) opEq)
  (sSeq (sRet (run2 (runN (runsCons (rCon (W.str "a")) (runsCons (rCon (W.str "b")) (runsCons (rCon (W.str "town")) (runsCons (rCon (W.str "abcdefgh")) runsNil)))) (opL false)) (run2 (run2 (rVar 0) (rCon (W.int 3)) opDiv) (rCon (W.int 4)) opMod) opIdx))
 sPass)
  sPass)
 (sSeq (sRet (run2 (runN (runsCons (rCon (W.int 0)) (runsCons (rCon (W.int 5)) (runsCons (run1 (rCon (W.int 7)) opNeg) (runsCons (rCon (W.int 999999999)) (runsCons (run1 (rCon (W.int 999999999)) opNeg) (runsCons (run2 (run2 (rVar 0) (rCon (W.int 18)) opDiv) (rCon (W.int 1000)) opMod) runsNil)))))) (opL false)) (run2 (run2 (rVar 0) (rCon (W.int 3)) opDiv) (rCon (W.int 6)) opMod) opIdx))
 sPass)))
noncomputable def op_l_term_by : OpN := callOp 1 1 false r_l_term_by
noncomputable def gl2 : List (Str × GV) := ("_law_term_by", .fn 1 op_l_term_by) :: ("is_free", .fn 1 op_is_free) :: ("is_name", .fn 1 op_is_name) :: gl1
abbrev s_is_value : Stmt := top 23
def N_is_value : List Str := ["thing"]
def P_is_value : List Str := ["thing"]
def M_is_value : List (Nat × Nat) := []
noncomputable def r_is_value : RunS :=
 (sSeq (sRet (runOr (runN (runsCons (rVar 0) runsNil) (calmOp op_is_name)) (runN (runsCons (rVar 0) runsNil) (calmOp op_is_number))))
 sPass)
noncomputable def op_is_value : OpN := callOp 1 1 false r_is_value
abbrev s_l_pattern_by : Stmt := top 44
def N_l_pattern_by : List Str := ["_law_cell", "_law_size", "_law_name"]
def P_l_pattern_by : List Str := ["_law_cell", "_law_size"]
def M_l_pattern_by : List (Nat × Nat) := []
noncomputable def r_l_pattern_by : RunS :=
 (sSeq (sSet 2 (run2 (runN (runsCons (rCon (W.str "road")) (runsCons (rCon (W.str "way")) (runsCons (rCon (W.str "rain")) (runsCons (rCon (W.str "abcdefgh")) runsNil)))) (opL false)) (run2 (rVar 0) (rCon (W.int 4)) opMod) opIdx))
 (sSeq (sRet (runN (runsCons (run2 (runN (runsCons (rVar 2) runsNil) (opL false)) (runComp false (runRng1 (rVar 1)) [0] (rCon (.bl true)) (runN (runsCons (run2 (run2 (run2 (rVar 1) (rCon (W.int 4)) opDiv) (run2 (rCon (W.int 31)) (rVar 0) opMul) opAdd) (run2 (run2 (rVar 1) (rCon (W.int 97)) opDiv) (rVar 0) opMul) opAdd) runsNil) (calmOp op_l_term_by))) opAdd) runsNil) opTuple))
 sPass))
noncomputable def op_l_pattern_by : OpN := callOp 2 3 false r_l_pattern_by
abbrev s_free_among : Stmt := top 34
def N_free_among : List Str := ["terms"]
def P_free_among : List Str := ["terms"]
def M_free_among : List (Nat × Nat) := []
noncomputable def r_free_among : RunS :=
 (sSeq (sRet (runComp false (runSrc (rVar 0)) [] (runN (runsCons (rVar 0) runsNil) (calmOp op_is_free)) (rVar 0)))
 sPass)
noncomputable def op_free_among : OpN := callOp 1 1 false r_free_among
noncomputable def gl3 : List (Str × GV) := ("free_among", .fn 1 op_free_among) :: ("_law_pattern_by", .fn 2 op_l_pattern_by) :: ("is_value", .fn 1 op_is_value) :: gl2
abbrev s_is_term : Stmt := top 24
def N_is_term : List Str := ["thing"]
def P_is_term : List Str := ["thing"]
def M_is_term : List (Nat × Nat) := []
noncomputable def r_is_term : RunS :=
 (sSeq (sRet (runOr (runN (runsCons (rVar 0) runsNil) (calmOp op_is_value)) (runN (runsCons (rVar 0) runsNil) (calmOp op_is_free))))
 sPass)
noncomputable def op_is_term : OpN := callOp 1 1 false r_is_term
abbrev s_l_part_by : Stmt := top 45
def N_l_part_by : List Str := ["_law_cell", "_law_terms"]
def P_l_part_by : List Str := ["_law_cell"]
def M_l_part_by : List (Nat × Nat) := []
noncomputable def r_l_part_by : RunS :=
 (sSeq (sIf (run2 (run2 (rVar 0) (rCon (W.int 6)) opMod) (rCon (W.int 2)) opLt)
  (sSeq (sRet (runN (runsCons (rCon (W.str "has")) (runsCons (runN (runsCons (run2 (rVar 0) (rCon (W.int 6)) opDiv) (runsCons (run2 (run2 (rVar 0) (rCon (W.int 24)) opDiv) (rCon (W.int 5)) opMod) runsNil)) (calmOp op_l_pattern_by)) runsNil)) opTup))
 sPass)
  sPass)
 (sSeq (sIf (run2 (run2 (rVar 0) (rCon (W.int 6)) opMod) (rCon (W.int 2)) opEq)
  (sSeq (sRet (runN (runsCons (rCon (W.str "not")) (runsCons (runN (runsCons (run2 (rVar 0) (rCon (W.int 6)) opDiv) (runsCons (run2 (run2 (rVar 0) (rCon (W.int 24)) opDiv) (rCon (W.int 5)) opMod) runsNil)) (calmOp op_l_pattern_by)) runsNil)) opTup))
 sPass)
  sPass)
 (sSeq (sSet 1 (runComp false (runRng1 (rCon (W.int 3))) [0] (rCon (.bl true)) (runN (runsCons (run2 (run2 (run2 (rVar 1) (rCon (W.int 6)) opDiv) (run2 (rCon (W.int 13)) (rVar 0) opMul) opAdd) (run2 (run2 (rVar 1) (rCon (W.int 41)) opDiv) (rVar 0) opMul) opAdd) runsNil) (calmOp op_l_term_by))))
 (sSeq (sIf (run2 (run2 (rVar 0) (rCon (W.int 6)) opMod) (rCon (W.int 5)) opEq)
  (sSeq (sRet (runN (runsCons (rCon (W.str "plus")) (runsCons (run2 (rVar 1) (rCon (W.int 0)) opIdx) (runsCons (run2 (rVar 1) (rCon (W.int 1)) opIdx) (runsCons (run2 (rVar 1) (rCon (W.int 2)) opIdx) runsNil)))) opTup))
 sPass)
  sPass)
 (sSeq (sRet (runN (runsCons (run2 (runN (runsCons (rCon (W.str "less")) (runsCons (rCon (W.str "same")) runsNil)) (opL false)) (run2 (run2 (rVar 0) (rCon (W.int 6)) opMod) (rCon (W.int 3)) opSub) opIdx) (runsCons (run2 (rVar 1) (rCon (W.int 0)) opIdx) (runsCons (run2 (rVar 1) (rCon (W.int 1)) opIdx) runsNil))) opTup))
 sPass)))))
noncomputable def op_l_part_by : OpN := callOp 1 2 false r_l_part_by
abbrev s_words_of_part : Stmt := top 35
def N_words_of_part : List Str := ["part"]
def P_words_of_part : List Str := ["part"]
def M_words_of_part : List (Nat × Nat) := []
noncomputable def r_words_of_part : RunS :=
 (sSeq (sIf (run2 (run2 (rVar 0) (rCon (W.int 0)) opIdx) (rCon c_PATTERN_PARTS) opIn)
  (sSeq (sRet (runN (runsCons (runSlSN false (run2 (rVar 0) (rCon (W.int 1)) opIdx) (rCon (W.int 1))) runsNil) (calmOp op_free_among)))
 sPass)
  sPass)
 (sSeq (sRet (runN (runsCons (runSlSN false (rVar 0) (rCon (W.int 1))) runsNil) (calmOp op_free_among)))
 sPass))
noncomputable def op_words_of_part : OpN := callOp 1 1 false r_words_of_part
noncomputable def gl4 : List (Str × GV) := ("words_of_part", .fn 1 op_words_of_part) :: ("_law_part_by", .fn 1 op_l_part_by) :: ("is_term", .fn 1 op_is_term) :: gl3
abbrev s_is_pattern : Stmt := top 28
def N_is_pattern : List Str := ["thing"]
def P_is_pattern : List Str := ["thing"]
def M_is_pattern : List (Nat × Nat) := []
noncomputable def r_is_pattern : RunS :=
 (sSeq (sIf (runOr (runNot (runN (runsCons (rVar 0) (runsCons (rCon (.ty "tuple")) runsNil)) opIsi)) (runNot (runC (rCon (W.int 1)) (runN (runsCons (rVar 0) runsNil) opLen) (run2 (rCon (W.int 1)) (rCon c_MOST_WIDTH) opAdd) opLe opLe)))
  (sSeq (sRet (rCon (W.bl false)))
 sPass)
  sPass)
 (sSeq (sRet (runAnd (runN (runsCons (run2 (rVar 0) (rCon (W.int 0)) opIdx) runsNil) (calmOp op_is_name)) (runN (runsCons (runComp false (runSrc (runSlSN false (rVar 0) (rCon (W.int 1)))) [] (rCon (.bl true)) (runN (runsCons (rVar 0) runsNil) (calmOp op_is_term))) runsNil) opAll)))
 sPass))
noncomputable def op_is_pattern : OpN := callOp 1 1 false r_is_pattern
abbrev s_wanted_by : Stmt := top 36
def N_wanted_by : List Str := ["part"]
def P_wanted_by : List Str := ["part"]
def M_wanted_by : List (Nat × Nat) := []
noncomputable def r_wanted_by : RunS :=
 (sSeq (sIf (run2 (run2 (rVar 0) (rCon (W.int 0)) opIdx) (rCon (W.str "has")) opEq)
  (sSeq (sRet (runN runsNil (opL false)))
 sPass)
  sPass)
 (sSeq (sIf (run2 (run2 (rVar 0) (rCon (W.int 0)) opIdx) (rCon (W.str "plus")) opEq)
  (sSeq (sRet (runN (runsCons (runSlSS false (rVar 0) (rCon (W.int 1)) (rCon (W.int 3))) runsNil) (calmOp op_free_among)))
 sPass)
  sPass)
 (sSeq (sRet (runN (runsCons (rVar 0) runsNil) (calmOp op_words_of_part)))
 sPass)))
noncomputable def op_wanted_by : OpN := callOp 1 1 false r_wanted_by
noncomputable def gl5 : List (Str × GV) := ("wanted_by", .fn 1 op_wanted_by) :: ("is_pattern", .fn 1 op_is_pattern) :: gl4
abbrev s_is_fact : Stmt := top 29
def N_is_fact : List Str := ["thing"]
def P_is_fact : List Str := ["thing"]
def M_is_fact : List (Nat × Nat) := []
noncomputable def r_is_fact : RunS :=
 (sSeq (sRet (runAnd (runN (runsCons (rVar 0) runsNil) (calmOp op_is_pattern)) (runN (runsCons (runComp false (runSrc (runSlSN false (rVar 0) (rCon (W.int 1)))) [] (rCon (.bl true)) (runN (runsCons (rVar 0) runsNil) (calmOp op_is_value))) runsNil) opAll)))
 sPass)
noncomputable def op_is_fact : OpN := callOp 1 1 false r_is_fact
abbrev s_is_part : Stmt := top 32
def N_is_part : List Str := ["thing", "word"]
def P_is_part : List Str := ["thing"]
def M_is_part : List (Nat × Nat) := []
noncomputable def r_is_part : RunS :=
 (sSeq (sSet 1 (runN (runsCons (rVar 0) runsNil) (calmOp op_word_ahead)))
 (sSeq (sIf (run2 (rVar 1) (rCon c_PATTERN_PARTS) opIn)
  (sSeq (sRet (runAnd (run2 (runN (runsCons (rVar 0) runsNil) opLen) (rCon (W.int 2)) opEq) (runN (runsCons (run2 (rVar 0) (rCon (W.int 1)) opIdx) runsNil) (calmOp op_is_pattern))))
 sPass)
  sPass)
 (sSeq (sIf (run1 (rVar 1) (opInC ck_TERM_COUNTS cw_TERM_COUNTS false))
  (sSeq (sRet (runAnd (run2 (runN (runsCons (rVar 0) runsNil) opLen) (run2 (rCon (W.int 1)) (run1 (rVar 1) (opIdxC ck_TERM_COUNTS cw_TERM_COUNTS)) opAdd) opEq) (runN (runsCons (runComp false (runSrc (runSlSN false (rVar 0) (rCon (W.int 1)))) [] (rCon (.bl true)) (runN (runsCons (rVar 0) runsNil) (calmOp op_is_term))) runsNil) opAll)))
 sPass)
  sPass)
 (sSeq (sRet (rCon (W.bl false)))
 sPass))))
noncomputable def op_is_part : OpN := callOp 1 2 false r_is_part
abbrev s_need_bound_parts : Stmt := top 38
def N_need_bound_parts : List Str := ["body", "bound", "part"]
def P_need_bound_parts : List Str := ["body"]
def M_need_bound_parts : List (Nat × Nat) := [(89, 12)]
noncomputable def r_need_bound_parts : RunS :=
 (sSeq (sSet 1 (runN runsNil (opL true)))
 (sSeq (sFor 2 (runSrc (rVar 0)) (sSeq (sDrop (runN (runsCons (runN (runsCons (rVar 2) runsNil) (calmOp op_wanted_by)) (runsCons (rVar 1) runsNil)) op_need_bound))
 (sSeq (sDrop (runM "list" (rVar 1) (runsCons (runN (runsCons (rVar 2) runsNil) (calmOp op_words_of_part)) runsNil) opExtend))
 sPass)))
 sPass))
noncomputable def op_need_bound_parts : OpN := callX 1 3 true r_need_bound_parts
noncomputable def gl6 : List (Str × GV) := ("need_bound_parts", .fx 1 true op_need_bound_parts) :: ("is_part", .fn 1 op_is_part) :: ("is_fact", .fn 1 op_is_fact) :: gl5
abbrev s_need_fact : Stmt := top 30
def N_need_fact : List Str := ["fact"]
def P_need_fact : List Str := ["fact"]
def M_need_fact : List (Nat × Nat) := []
noncomputable def r_need_fact : RunS :=
 (sSeq (sIf (runNot (runN (runsCons (rVar 0) runsNil) (calmOp op_is_fact)))
  (sSeq (sRaise "BadFact" (runsCons (rCon (W.str "a fact is a tuple of a name and none to four values")) runsNil))
 sPass)
  sPass)
 (sSeq (sRet (rVar 0))
 sPass))
noncomputable def op_need_fact : OpN := callX 1 1 false r_need_fact
abbrev s_is_body : Stmt := top 33
def N_is_body : List Str := ["thing"]
def P_is_body : List Str := ["thing"]
def M_is_body : List (Nat × Nat) := []
noncomputable def r_is_body : RunS :=
 (sSeq (sIf (runOr (runNot (runN (runsCons (rVar 0) (runsCons (rCon (.ty "tuple")) runsNil)) opIsi)) (runNot (runC (rCon (W.int 1)) (runN (runsCons (rVar 0) runsNil) opLen) (rCon c_MOST_PARTS) opLe opLe)))
  (sSeq (sRet (rCon (W.bl false)))
 sPass)
  sPass)
 (sSeq (sRet (runN (runsCons (runComp false (runSrc (rVar 0)) [] (rCon (.bl true)) (runN (runsCons (rVar 0) runsNil) (calmOp op_is_part))) runsNil) opAll))
 sPass))
noncomputable def op_is_body : OpN := callOp 1 1 false r_is_body
noncomputable def gl7 : List (Str × GV) := ("is_body", .fn 1 op_is_body) :: ("need_fact", .fx 1 true op_need_fact) :: gl6
abbrev s_l_fact_told : Stmt := top 50
def N_l_fact_told : List Str := ["_law_thing", "_law_e"]
def P_l_fact_told : List Str := ["_law_thing"]
def M_l_fact_told : List (Nat × Nat) := []
noncomputable def r_l_fact_told : RunS :=
 (sSeq (sTry 2 1 t_FactError (sSeq (sIf (run2 (runN (runsCons (rVar 0) runsNil) op_need_fact) (rVar 0) opEq)
  (sSeq (sRet (rCon (W.int 9)))
 sPass)
  sPass)
 sPass) (sSeq (sRet (runN (runsCons (rVar 1) runsNil) (calmOp op_l_names)))
 sPass))
 (sSeq (sRet (run1 (rCon (W.int 1)) opNeg))
 sPass))
noncomputable def op_l_fact_told : OpN := callX 1 2 false r_l_fact_told
abbrev s_need_body : Stmt := top 39
def N_need_body : List Str := ["body"]
def P_need_body : List Str := ["body"]
def M_need_body : List (Nat × Nat) := []
noncomputable def r_need_body : RunS :=
 (sSeq (sIf (runNot (runN (runsCons (rVar 0) runsNil) (calmOp op_is_body)))
  (sSeq (sRaise "BadRule" (runsCons (rCon (W.str "a body is a tuple of 1 to 6 parts")) runsNil))
 sPass)
  sPass)
 (sSeq (sDrop (runN (runsCons (rVar 0) runsNil) op_need_bound_parts))
 (sSeq (sRet (rVar 0))
 sPass)))
noncomputable def op_need_body : OpN := callX 1 1 false r_need_body
noncomputable def gl8 : List (Str × GV) := ("need_body", .fx 1 true op_need_body) :: ("_law_fact_told", .fx 1 true op_l_fact_told) :: gl7
abbrev s_l_body_told : Stmt := top 51
def N_l_body_told : List Str := ["_law_thing", "_law_e"]
def P_l_body_told : List Str := ["_law_thing"]
def M_l_body_told : List (Nat × Nat) := []
noncomputable def r_l_body_told : RunS :=
 (sSeq (sTry 2 1 t_FactError (sSeq (sDrop (runN (runsCons (rVar 0) runsNil) op_need_body))
 sPass) (sSeq (sRet (runN (runsCons (rVar 1) runsNil) (calmOp op_l_names)))
 sPass))
 (sSeq (sRet (rCon (W.int 9)))
 sPass))
noncomputable def op_l_body_told : OpN := callX 1 2 false r_l_body_told
noncomputable def gl9 : List (Str × GV) := ("_law_body_told", .fx 1 true op_l_body_told) :: gl8
abbrev s_law : Stmt := top 52
def N_law : List Str := ["_law_script", "_law_cell", "_law_pattern", "_law_bare", "_law_part", "_law_bad", "_law_body", "_law_wrong", "_law_at", "_law_some"]
def P_law : List Str := ["_law_script"]
def M_law : List (Nat × Nat) := []
noncomputable def r_law : RunS :=
 (sSeq (sSet 1 (runN (runsCons (rVar 0) (runsCons (rCon (W.int 0)) runsNil)) (calmOp op_l_cell_at)))
 (sSeq (sSet 2 (runN (runsCons (runN (runsCons (rVar 0) (runsCons (rCon (W.int 1)) runsNil)) (calmOp op_l_cell_at)) (runsCons (run2 (runN (runsCons (rVar 0) (runsCons (rCon (W.int 2)) runsNil)) (calmOp op_l_cell_at)) (rCon (W.int 5)) opMod) runsNil)) (calmOp op_l_pattern_by)))
 (sSeq (sSet 3 (runNot (runN (runsCons (runComp false (runSrc (runSlSN false (rVar 2) (rCon (W.int 1)))) [] (rCon (.bl true)) (runN (runsCons (rVar 0) runsNil) (calmOp op_l_is_free))) runsNil) opAny)))
 (sSeq (sIf (run2 (runN (runsCons (runN (runsCons (rVar 2) runsNil) (calmOp op_is_pattern)) (runsCons (runN (runsCons (rVar 2) runsNil) (calmOp op_is_fact)) runsNil)) (opL false)) (runN (runsCons (rCon (W.bl true)) (runsCons (rVar 3) runsNil)) (opL false)) opNe)
  (sSeq (sRet (rCon (W.bl false)))
 sPass)
  sPass)
 (sSeq (sIf (run2 (runN (runsCons (rVar 2) runsNil) op_l_fact_told) (run2 (rCon (W.int 9)) (runN (runsCons (rVar 3) runsNil) opInt) opMul) opNe)
  (sSeq (sRet (rCon (W.bl false)))
 sPass)
  sPass)
 (sSeq (sSet 4 (runN (runsCons (runN (runsCons (rVar 0) (runsCons (rCon (W.int 3)) runsNil)) (calmOp op_l_cell_at)) runsNil) (calmOp op_l_part_by)))
 (sSeq (sIf (run2 (runN (runsCons (rVar 4) runsNil) (calmOp op_is_part)) (rCon (W.bl true)) opIsNot)
  (sSeq (sRet (rCon (W.bl false)))
 sPass)
  sPass)
 (sSeq (sSet 5 (runN (runsCons (rVar 2) (runsCons (runN (runsCons (rVar 0) (runsCons (rCon (W.int 4)) runsNil)) (calmOp op_l_cell_at)) runsNil)) (calmOp op_l_spoilt_pattern)))
 (sSeq (sIf (runOr (run2 (runN (runsCons (rVar 5) runsNil) (calmOp op_is_pattern)) (rCon (W.bl false)) opIsNot) (runOr (run2 (runN (runsCons (rVar 5) runsNil) (calmOp op_is_fact)) (rCon (W.bl false)) opIsNot) (run2 (runN (runsCons (rVar 5) runsNil) op_l_fact_told) (rCon (W.int 0)) opNe)))
  (sSeq (sRet (rCon (W.bl false)))
 sPass)
  sPass)
 (sSeq (sSet 6 (runComp false (runRng1 (run2 (rCon (W.int 1)) (run2 (rVar 1) (rCon (W.int 6)) opMod) opAdd)) [0] (rCon (.bl true)) (runN (runsCons (runN (runsCons (rVar 1) (runsCons (run2 (rCon (W.int 6)) (rVar 0) opAdd) runsNil)) (calmOp op_l_cell_at)) runsNil) (calmOp op_l_part_by))))
 (sSeq (sIf (run2 (runN (runsCons (runN (runsCons (rVar 6) runsNil) opTuple) runsNil) op_l_body_told) (runN (runsCons (rCon (W.int 3)) (runsCons (rCon (W.int 9)) runsNil)) opTup) opNotIn)
  (sSeq (sRet (rCon (W.bl false)))
 sPass)
  sPass)
 (sSeq (sSet 7 (runN (runsCons (rVar 4) (runsCons (rVar 5) (runsCons (runN (runsCons (rVar 0) (runsCons (rCon (W.int 5)) runsNil)) (calmOp op_l_cell_at)) runsNil))) (calmOp op_l_spoilt_part)))
 (sSeq (sSet 8 (run2 (run2 (rVar 1) (rCon (W.int 6)) opDiv) (runN (runsCons (rVar 6) runsNil) opLen) opMod))
 (sSeq (sSet 9 (runN (runsCons (runN (runsCons (rVar 6) runsNil) (opList false)) (runsCons (runN runsNil opTup) (runsCons (runN (runsCons (run2 (rVar 6) (rCon (W.int 7)) opMul) runsNil) opTuple) (runsCons (runN (runsCons (run2 (run2 (runSlNS false (rVar 6) (rVar 8)) (runN (runsCons (rVar 7) runsNil) (opL false)) opAdd) (runSlSN false (rVar 6) (run2 (rVar 8) (rCon (W.int 1)) opAdd)) opAdd) runsNil) opTuple) (runsCons (rCon W.non) (runsCons (rCon (W.str "has")) runsNil)))))) (opL false)))
 (sSeq (sIf (run2 (runN (runsCons (rVar 7) runsNil) (calmOp op_is_part)) (rCon (W.bl false)) opIsNot)
  (sSeq (sRet (rCon (W.bl false)))
 sPass)
  sPass)
 (sSeq (sRet (run2 (runN (runsCons (run2 (rVar 9) (run2 (run2 (rVar 1) (rCon (W.int 36)) opDiv) (rCon (W.int 6)) opMod) opIdx) runsNil) op_l_body_told) (rCon (W.int 1)) opEq))
 sPass))))))))))))))))
noncomputable def op_law : OpN := callX 1 10 false r_law
end DL.My
namespace DL.My
open PySem L2
theorem sc_is_short_text : scopeOk N_is_short_text P_is_short_text (defScope s_is_short_text) = true := by decide +kernel
theorem de_is_short_text : denSs 60 ⟨N_is_short_text, defScope s_is_short_text, gl0, M_is_short_text, true, false⟩ (defBody s_is_short_text) = some r_is_short_text := by kernel_rfl
theorem sc_all_small : scopeOk N_all_small P_all_small (defScope s_all_small) = true := by decide +kernel
theorem de_all_small : denSs 60 ⟨N_all_small, defScope s_all_small, gl0, M_all_small, true, false⟩ (defBody s_all_small) = some r_all_small := by kernel_rfl
theorem sc_is_name : scopeOk N_is_name P_is_name (defScope s_is_name) = true := by decide +kernel
theorem de_is_name : denSs 60 ⟨N_is_name, defScope s_is_name, gl1, M_is_name, true, false⟩ (defBody s_is_name) = some r_is_name := by kernel_rfl
theorem sc_is_free : scopeOk N_is_free P_is_free (defScope s_is_free) = true := by decide +kernel
theorem de_is_free : denSs 60 ⟨N_is_free, defScope s_is_free, gl1, M_is_free, true, false⟩ (defBody s_is_free) = some r_is_free := by kernel_rfl
theorem sc_is_number : scopeOk N_is_number P_is_number (defScope s_is_number) = true := by decide +kernel
theorem de_is_number : denSs 60 ⟨N_is_number, defScope s_is_number, gl0, M_is_number, true, false⟩ (defBody s_is_number) = some r_is_number := by kernel_rfl
theorem sc_is_value : scopeOk N_is_value P_is_value (defScope s_is_value) = true := by decide +kernel
theorem de_is_value : denSs 60 ⟨N_is_value, defScope s_is_value, gl2, M_is_value, true, false⟩ (defBody s_is_value) = some r_is_value := by kernel_rfl
theorem sc_is_term : scopeOk N_is_term P_is_term (defScope s_is_term) = true := by decide +kernel
theorem de_is_term : denSs 60 ⟨N_is_term, defScope s_is_term, gl3, M_is_term, true, false⟩ (defBody s_is_term) = some r_is_term := by kernel_rfl
theorem sc_is_pattern : scopeOk N_is_pattern P_is_pattern (defScope s_is_pattern) = true := by decide +kernel
theorem de_is_pattern : denSs 60 ⟨N_is_pattern, defScope s_is_pattern, gl4, M_is_pattern, true, false⟩ (defBody s_is_pattern) = some r_is_pattern := by kernel_rfl
theorem sc_is_fact : scopeOk N_is_fact P_is_fact (defScope s_is_fact) = true := by decide +kernel
theorem de_is_fact : denSs 60 ⟨N_is_fact, defScope s_is_fact, gl5, M_is_fact, true, false⟩ (defBody s_is_fact) = some r_is_fact := by kernel_rfl
theorem sc_word_ahead : scopeOk N_word_ahead P_word_ahead (defScope s_word_ahead) = true := by decide +kernel
theorem de_word_ahead : denSs 60 ⟨N_word_ahead, defScope s_word_ahead, gl0, M_word_ahead, true, false⟩ (defBody s_word_ahead) = some r_word_ahead := by kernel_rfl
theorem sc_is_part : scopeOk N_is_part P_is_part (defScope s_is_part) = true := by decide +kernel
theorem de_is_part : denSs 60 ⟨N_is_part, defScope s_is_part, gl5, M_is_part, true, false⟩ (defBody s_is_part) = some r_is_part := by kernel_rfl
theorem sc_l_cell_at : scopeOk N_l_cell_at P_l_cell_at (defScope s_l_cell_at) = true := by decide +kernel
theorem de_l_cell_at : denSs 60 ⟨N_l_cell_at, defScope s_l_cell_at, gl0, M_l_cell_at, true, false⟩ (defBody s_l_cell_at) = some r_l_cell_at := by kernel_rfl
theorem sc_l_free_words : scopeOk N_l_free_words P_l_free_words (defScope s_l_free_words) = true := by decide +kernel
theorem de_l_free_words : denSs 60 ⟨N_l_free_words, defScope s_l_free_words, gl0, M_l_free_words, true, false⟩ (defBody s_l_free_words) = some r_l_free_words := by kernel_rfl
theorem sc_l_term_by : scopeOk N_l_term_by P_l_term_by (defScope s_l_term_by) = true := by decide +kernel
theorem de_l_term_by : denSs 60 ⟨N_l_term_by, defScope s_l_term_by, gl1, M_l_term_by, true, false⟩ (defBody s_l_term_by) = some r_l_term_by := by kernel_rfl
theorem sc_l_pattern_by : scopeOk N_l_pattern_by P_l_pattern_by (defScope s_l_pattern_by) = true := by decide +kernel
theorem de_l_pattern_by : denSs 60 ⟨N_l_pattern_by, defScope s_l_pattern_by, gl2, M_l_pattern_by, true, false⟩ (defBody s_l_pattern_by) = some r_l_pattern_by := by kernel_rfl
theorem sc_l_part_by : scopeOk N_l_part_by P_l_part_by (defScope s_l_part_by) = true := by decide +kernel
theorem de_l_part_by : denSs 60 ⟨N_l_part_by, defScope s_l_part_by, gl3, M_l_part_by, true, false⟩ (defBody s_l_part_by) = some r_l_part_by := by kernel_rfl
theorem sc_l_is_free : scopeOk N_l_is_free P_l_is_free (defScope s_l_is_free) = true := by decide +kernel
theorem de_l_is_free : denSs 60 ⟨N_l_is_free, defScope s_l_is_free, gl0, M_l_is_free, true, false⟩ (defBody s_l_is_free) = some r_l_is_free := by kernel_rfl
theorem sc_l_spoilt_pattern : scopeOk N_l_spoilt_pattern P_l_spoilt_pattern (defScope s_l_spoilt_pattern) = true := by decide +kernel
theorem de_l_spoilt_pattern : denSs 60 ⟨N_l_spoilt_pattern, defScope s_l_spoilt_pattern, gl0, M_l_spoilt_pattern, true, false⟩ (defBody s_l_spoilt_pattern) = some r_l_spoilt_pattern := by kernel_rfl
theorem sc_l_spoilt_part : scopeOk N_l_spoilt_part P_l_spoilt_part (defScope s_l_spoilt_part) = true := by decide +kernel
theorem de_l_spoilt_part : denSs 60 ⟨N_l_spoilt_part, defScope s_l_spoilt_part, gl0, M_l_spoilt_part, true, false⟩ (defBody s_l_spoilt_part) = some r_l_spoilt_part := by kernel_rfl
theorem sc_need_fact : scopeOk N_need_fact P_need_fact (defScope s_need_fact) = true := by decide +kernel
theorem de_need_fact : denSs 60 ⟨N_need_fact, defScope s_need_fact, gl6, M_need_fact, true, true⟩ (defBody s_need_fact) = some r_need_fact := by kernel_rfl
theorem sc_l_names : scopeOk N_l_names P_l_names (defScope s_l_names) = true := by decide +kernel
theorem de_l_names : denSs 60 ⟨N_l_names, defScope s_l_names, gl0, M_l_names, false, true⟩ (defBody s_l_names) = some r_l_names := by kernel_rfl
theorem sc_l_fact_told : scopeOk N_l_fact_told P_l_fact_told (defScope s_l_fact_told) = true := by decide +kernel
theorem de_l_fact_told : denSs 60 ⟨N_l_fact_told, defScope s_l_fact_told, gl7, M_l_fact_told, true, true⟩ (defBody s_l_fact_told) = some r_l_fact_told := by kernel_rfl
theorem sc_is_body : scopeOk N_is_body P_is_body (defScope s_is_body) = true := by decide +kernel
theorem de_is_body : denSs 60 ⟨N_is_body, defScope s_is_body, gl6, M_is_body, true, false⟩ (defBody s_is_body) = some r_is_body := by kernel_rfl
theorem sc_free_among : scopeOk N_free_among P_free_among (defScope s_free_among) = true := by decide +kernel
theorem de_free_among : denSs 60 ⟨N_free_among, defScope s_free_among, gl2, M_free_among, true, false⟩ (defBody s_free_among) = some r_free_among := by kernel_rfl
theorem sc_words_of_part : scopeOk N_words_of_part P_words_of_part (defScope s_words_of_part) = true := by decide +kernel
theorem de_words_of_part : denSs 60 ⟨N_words_of_part, defScope s_words_of_part, gl3, M_words_of_part, true, false⟩ (defBody s_words_of_part) = some r_words_of_part := by kernel_rfl
theorem sc_wanted_by : scopeOk N_wanted_by P_wanted_by (defScope s_wanted_by) = true := by decide +kernel
theorem de_wanted_by : denSs 60 ⟨N_wanted_by, defScope s_wanted_by, gl4, M_wanted_by, true, false⟩ (defBody s_wanted_by) = some r_wanted_by := by kernel_rfl
theorem sc_need_bound : scopeOk N_need_bound P_need_bound (defScope s_need_bound) = true := by decide +kernel
theorem de_need_bound : denSs 60 ⟨N_need_bound, defScope s_need_bound, gl0, M_need_bound, true, true⟩ (defBody s_need_bound) = some r_need_bound := by kernel_rfl
theorem sc_need_bound_parts : scopeOk N_need_bound_parts P_need_bound_parts (defScope s_need_bound_parts) = true := by decide +kernel
theorem de_need_bound_parts : denSs 60 ⟨N_need_bound_parts, defScope s_need_bound_parts, gl5, M_need_bound_parts, true, true⟩ (defBody s_need_bound_parts) = some r_need_bound_parts := by kernel_rfl
theorem sc_need_body : scopeOk N_need_body P_need_body (defScope s_need_body) = true := by decide +kernel
theorem de_need_body : denSs 60 ⟨N_need_body, defScope s_need_body, gl7, M_need_body, true, true⟩ (defBody s_need_body) = some r_need_body := by kernel_rfl
theorem sc_l_body_told : scopeOk N_l_body_told P_l_body_told (defScope s_l_body_told) = true := by decide +kernel
theorem de_l_body_told : denSs 60 ⟨N_l_body_told, defScope s_l_body_told, gl8, M_l_body_told, true, true⟩ (defBody s_l_body_told) = some r_l_body_told := by kernel_rfl
theorem sc_law : scopeOk N_law P_law (defScope s_law) = true := by decide +kernel
theorem de_law : denSs 60 ⟨N_law, defScope s_law, gl9, M_law, true, true⟩ (defBody s_law) = some r_law := by kernel_rfl
end DL.My
namespace DL.My
open PySem L2
structure Tx (P : Program) (w : World) (K : PySem.W.Frag) (mg : Str → Option Value) : Prop where
 e_BadFact : ∃ cv vc, ExcOk K mg "BadFact" true t_BadFact cv vc
 e_BadRule : ∃ cv vc, ExcOk K mg "BadRule" true t_BadRule cv vc
 e_BadWidth : ∃ cv vc, ExcOk K mg "BadWidth" true t_BadWidth cv vc
 e_FactError : ∃ cv vc, ExcOk K mg "FactError" true t_FactError cv vc
 e_NoFact : ∃ cv vc, ExcOk K mg "NoFact" true t_NoFact cv vc
 e_NoText : ∃ cv vc, ExcOk K mg "NoText" true t_NoText cv vc
 e_Ringed : ∃ cv vc, ExcOk K mg "Ringed" true t_Ringed cv vc
 e_TooMany : ∃ cv vc, ExcOk K mg "TooMany" true t_TooMany cv vc
 e_Unbound : ∃ cv vc, ExcOk K mg "Unbound" true t_Unbound cv vc
 e_ValueError : ∃ cv vc, ExcOk K mg "ValueError" false t_ValueError cv vc
 k_MOST_WIDTH : ∃ u, mg "MOST_WIDTH" = some u ∧ ConK K u c_MOST_WIDTH
 k_MOST_PARTS : ∃ u, mg "MOST_PARTS" = some u ∧ ConK K u c_MOST_PARTS
 k_MOST_SIGNS : ∃ u, mg "MOST_SIGNS" = some u ∧ ConK K u c_MOST_SIGNS
 k_MOST_NUMBER : ∃ u, mg "MOST_NUMBER" = some u ∧ ConK K u c_MOST_NUMBER
 k_SMALL_LETTERS : ∃ u, mg "SMALL_LETTERS" = some u ∧ ConK K u c_SMALL_LETTERS
 k_GREAT_LETTERS : ∃ u, mg "GREAT_LETTERS" = some u ∧ ConK K u c_GREAT_LETTERS
 k_KEPT_WORDS : ∃ u, mg "KEPT_WORDS" = some u ∧ ConK K u c_KEPT_WORDS
 k_PATTERN_PARTS : ∃ u, mg "PATTERN_PARTS" = some u ∧ ConK K u c_PATTERN_PARTS
 k_TERM_COUNTS : KDs P w K mg "TERM_COUNTS" ck_TERM_COUNTS cw_TERM_COUNTS
 b_all : mg "all" = none
 b_any : mg "any" = none
 b_bool : mg "bool" = none
 b_int : mg "int" = none
 b_isinstance : mg "isinstance" = none
 b_len : mg "len" = none
 b_list : mg "list" = none
 b_max : mg "max" = none
 b_range : mg "range" = none
 b_str : mg "str" = none
 b_tuple : mg "tuple" = none
 d_is_short_text : DefAt K mg "is_short_text" s_is_short_text P_is_short_text
 d_all_small : DefAt K mg "all_small" s_all_small P_all_small
 d_is_name : DefAt K mg "is_name" s_is_name P_is_name
 d_is_free : DefAt K mg "is_free" s_is_free P_is_free
 d_is_number : DefAt K mg "is_number" s_is_number P_is_number
 d_is_value : DefAt K mg "is_value" s_is_value P_is_value
 d_is_term : DefAt K mg "is_term" s_is_term P_is_term
 d_is_pattern : DefAt K mg "is_pattern" s_is_pattern P_is_pattern
 d_is_fact : DefAt K mg "is_fact" s_is_fact P_is_fact
 d_word_ahead : DefAt K mg "word_ahead" s_word_ahead P_word_ahead
 d_is_part : DefAt K mg "is_part" s_is_part P_is_part
 d_l_cell_at : DefAt K mg "_law_cell_at" s_l_cell_at P_l_cell_at
 d_l_free_words : DefAt K mg "_law_free_words" s_l_free_words P_l_free_words
 d_l_term_by : DefAt K mg "_law_term_by" s_l_term_by P_l_term_by
 d_l_pattern_by : DefAt K mg "_law_pattern_by" s_l_pattern_by P_l_pattern_by
 d_l_part_by : DefAt K mg "_law_part_by" s_l_part_by P_l_part_by
 d_l_is_free : DefAt K mg "_law_is_free" s_l_is_free P_l_is_free
 d_l_spoilt_pattern : DefAt K mg "_law_spoilt_pattern" s_l_spoilt_pattern P_l_spoilt_pattern
 d_l_spoilt_part : DefAt K mg "_law_spoilt_part" s_l_spoilt_part P_l_spoilt_part
 d_need_fact : DefAt K mg "need_fact" s_need_fact P_need_fact
 d_l_names : DefAt K mg "_law_names" s_l_names P_l_names
 d_l_fact_told : DefAt K mg "_law_fact_told" s_l_fact_told P_l_fact_told
 d_is_body : DefAt K mg "is_body" s_is_body P_is_body
 d_free_among : DefAt K mg "free_among" s_free_among P_free_among
 d_words_of_part : DefAt K mg "words_of_part" s_words_of_part P_words_of_part
 d_wanted_by : DefAt K mg "wanted_by" s_wanted_by P_wanted_by
 d_need_bound : DefAt K mg "need_bound" s_need_bound P_need_bound
 d_need_bound_parts : DefAt K mg "need_bound_parts" s_need_bound_parts P_need_bound_parts
 d_need_body : DefAt K mg "need_body" s_need_body P_need_body
 d_l_body_told : DefAt K mg "_law_body_told" s_l_body_told P_l_body_told
 d_law : DefAt K mg "law" s_law P_law
section
variable {P : Program} {w : World} {K : PySem.W.Frag} {mg : Str → Option Value} {base : Heap}
theorem tx0 (t : Tx P w K mg) : TX P w K mg base gl0 0 := by
 obtain ⟨u_MOST_WIDTH, m_MOST_WIDTH, h_MOST_WIDTH⟩ := t.k_MOST_WIDTH
 obtain ⟨u_MOST_PARTS, m_MOST_PARTS, h_MOST_PARTS⟩ := t.k_MOST_PARTS
 obtain ⟨u_MOST_SIGNS, m_MOST_SIGNS, h_MOST_SIGNS⟩ := t.k_MOST_SIGNS
 obtain ⟨u_MOST_NUMBER, m_MOST_NUMBER, h_MOST_NUMBER⟩ := t.k_MOST_NUMBER
 obtain ⟨u_SMALL_LETTERS, m_SMALL_LETTERS, h_SMALL_LETTERS⟩ := t.k_SMALL_LETTERS
 obtain ⟨u_GREAT_LETTERS, m_GREAT_LETTERS, h_GREAT_LETTERS⟩ := t.k_GREAT_LETTERS
 obtain ⟨u_KEPT_WORDS, m_KEPT_WORDS, h_KEPT_WORDS⟩ := t.k_KEPT_WORDS
 obtain ⟨u_PATTERN_PARTS, m_PATTERN_PARTS, h_PATTERN_PARTS⟩ := t.k_PATTERN_PARTS
 exact (TX.exc1 (TX.exc1 (TX.exc1 (TX.exc1 (TX.exc1 (TX.exc1 (TX.exc1 (TX.exc1 (TX.exc1 (TX.exc1 (TX.con1 (TX.con1 (TX.con1 (TX.con1 (TX.con1 (TX.con1 (TX.con1 (TX.con1 (TX.dcon1 (TX.blt1 (TX.blt1 (TX.blt1 (TX.blt1 (TX.blt1 (TX.blt1 (TX.blt1 (TX.blt1 (TX.blt1 (TX.blt1 (TX.blt1 TX.nil t.b_tuple) t.b_str) t.b_range) t.b_max) t.b_list) t.b_len) t.b_isinstance) t.b_int) t.b_bool) t.b_any) t.b_all) t.k_TERM_COUNTS) m_PATTERN_PARTS h_PATTERN_PARTS) m_KEPT_WORDS h_KEPT_WORDS) m_GREAT_LETTERS h_GREAT_LETTERS) m_SMALL_LETTERS h_SMALL_LETTERS) m_MOST_NUMBER h_MOST_NUMBER) m_MOST_SIGNS h_MOST_SIGNS) m_MOST_PARTS h_MOST_PARTS) m_MOST_WIDTH h_MOST_WIDTH) t.e_ValueError) t.e_Unbound) t.e_TooMany) t.e_Ringed) t.e_NoText) t.e_NoFact) t.e_FactError) t.e_BadWidth) t.e_BadRule) t.e_BadFact)
theorem tx1 (t : Tx P w K mg) : TX P w K mg base gl1 3 := by
 have T : TX P w K mg base gl0 0 := tx0 t
 exact (TX.consX (TX.consX (TX.cons (TX.cons (TX.cons (TX.cons (TX.cons (TX.cons (TX.cons (TX.cons (TX.cons (T.mono (by decide)) (TX.fnOf (fz := false) T t.d_is_short_text sc_is_short_text de_is_short_text)) (TX.fnOf (fz := false) T t.d_all_small sc_all_small de_all_small)) (TX.fnOf (fz := false) T t.d_is_number sc_is_number de_is_number)) (TX.fnOf (fz := false) T t.d_word_ahead sc_word_ahead de_word_ahead)) (TX.fnOf (fz := false) T t.d_l_cell_at sc_l_cell_at de_l_cell_at)) (TX.fnOf (fz := true) T t.d_l_free_words sc_l_free_words de_l_free_words)) (TX.fnOf (fz := false) T t.d_l_is_free sc_l_is_free de_l_is_free)) (TX.fnOf (fz := false) T t.d_l_spoilt_pattern sc_l_spoilt_pattern de_l_spoilt_pattern)) (TX.fnOf (fz := false) T t.d_l_spoilt_part sc_l_spoilt_part de_l_spoilt_part)) (TX.fxOf (fz := false) T t.d_l_names sc_l_names de_l_names)) (TX.fxOf (fz := false) T t.d_need_bound sc_need_bound de_need_bound))
theorem tx2 (t : Tx P w K mg) : TX P w K mg base gl2 6 := by
 have T : TX P w K mg base gl1 3 := tx1 t
 exact (TX.cons (TX.cons (TX.cons (T.mono (by decide)) (TX.fnOf (fz := false) T t.d_is_name sc_is_name de_is_name)) (TX.fnOf (fz := false) T t.d_is_free sc_is_free de_is_free)) (TX.fnOf (fz := false) T t.d_l_term_by sc_l_term_by de_l_term_by))
theorem tx3 (t : Tx P w K mg) : TX P w K mg base gl3 9 := by
 have T : TX P w K mg base gl2 6 := tx2 t
 exact (TX.cons (TX.cons (TX.cons (T.mono (by decide)) (TX.fnOf (fz := false) T t.d_is_value sc_is_value de_is_value)) (TX.fnOf (fz := false) T t.d_l_pattern_by sc_l_pattern_by de_l_pattern_by)) (TX.fnOf (fz := false) T t.d_free_among sc_free_among de_free_among))
theorem tx4 (t : Tx P w K mg) : TX P w K mg base gl4 12 := by
 have T : TX P w K mg base gl3 9 := tx3 t
 exact (TX.cons (TX.cons (TX.cons (T.mono (by decide)) (TX.fnOf (fz := false) T t.d_is_term sc_is_term de_is_term)) (TX.fnOf (fz := false) T t.d_l_part_by sc_l_part_by de_l_part_by)) (TX.fnOf (fz := false) T t.d_words_of_part sc_words_of_part de_words_of_part))
theorem tx5 (t : Tx P w K mg) : TX P w K mg base gl5 15 := by
 have T : TX P w K mg base gl4 12 := tx4 t
 exact (TX.cons (TX.cons (T.mono (by decide)) (TX.fnOf (fz := false) T t.d_is_pattern sc_is_pattern de_is_pattern)) (TX.fnOf (fz := false) T t.d_wanted_by sc_wanted_by de_wanted_by))
theorem tx6 (t : Tx P w K mg) : TX P w K mg base gl6 18 := by
 have T : TX P w K mg base gl5 15 := tx5 t
 exact (TX.consX (TX.cons (TX.cons (T.mono (by decide)) (TX.fnOf (fz := false) T t.d_is_fact sc_is_fact de_is_fact)) (TX.fnOf (fz := false) T t.d_is_part sc_is_part de_is_part)) (TX.fxOf (fz := true) T t.d_need_bound_parts sc_need_bound_parts de_need_bound_parts))
theorem tx7 (t : Tx P w K mg) : TX P w K mg base gl7 21 := by
 have T : TX P w K mg base gl6 18 := tx6 t
 exact (TX.cons (TX.consX (T.mono (by decide)) (TX.fxOf (fz := false) T t.d_need_fact sc_need_fact de_need_fact)) (TX.fnOf (fz := false) T t.d_is_body sc_is_body de_is_body))
theorem tx8 (t : Tx P w K mg) : TX P w K mg base gl8 24 := by
 have T : TX P w K mg base gl7 21 := tx7 t
 exact (TX.consX (TX.consX (T.mono (by decide)) (TX.fxOf (fz := false) T t.d_l_fact_told sc_l_fact_told de_l_fact_told)) (TX.fxOf (fz := false) T t.d_need_body sc_need_body de_need_body))
theorem tx9 (t : Tx P w K mg) : TX P w K mg base gl9 27 := by
 have T : TX P w K mg base gl8 24 := tx8 t
 exact (TX.consX (T.mono (by decide)) (TX.fxOf (fz := false) T t.d_l_body_told sc_l_body_told de_l_body_told))
theorem law_ok (t : Tx P w K mg) {f : Addr} {fd : FuncData} (F : Fun K "law" "law" s_law f fd) : FnX true P w K mg base 30 f fd P_law (SpX K 1 op_law) :=
 def_okX (fz := false) (tx9 t : TX P w K mg base gl9 27) F sc_law de_law
end
theorem all_mk {l : PySem.W.OpenLaw} {w : World} {K : PySem.W.Frag} {h : Heap} {mg : Str → Option Value} {fa : Addr} (X : K.In h) (G : h.Ns mainGlobals mg) (hfa : mg "law" = some (.ref fa))
  {C_FactError C_BadFact C_BadRule C_BadWidth C_Unbound C_Ringed C_TooMany C_NoFact C_NoText a_KEPT_WORDS a_PATTERN_PARTS a_TERM_COUNTS : Addr} {o_KEPT_WORDS o_PATTERN_PARTS : Option Addr} {s_lKEPT_WORDS s_lPATTERN_PARTS : Array (Option Value)}
  {t_MOST_WIDTH : Tok} {t_MOST_PARTS : Tok} {t_MOST_SIGNS : Tok} {t_MOST_NUMBER : Tok} {t_SMALL_LETTERS : Tok} {t_GREAT_LETTERS : Tok} {t0_KEPT_WORDS t1_KEPT_WORDS t2_KEPT_WORDS t3_KEPT_WORDS t4_KEPT_WORDS t5_KEPT_WORDS t6_KEPT_WORDS t7_KEPT_WORDS t8_KEPT_WORDS t9_KEPT_WORDS t10_KEPT_WORDS t11_KEPT_WORDS t12_KEPT_WORDS : Tok} {n_KEPT_WORDS : Nat} {t0_PATTERN_PARTS t1_PATTERN_PARTS : Tok} {n_PATTERN_PARTS : Nat} {t0_TERM_COUNTS t1_TERM_COUNTS t2_TERM_COUNTS t3_TERM_COUNTS t4_TERM_COUNTS t5_TERM_COUNTS : Tok} {h0_TERM_COUNTS h1_TERM_COUNTS h2_TERM_COUNTS : Int} {n_TERM_COUNTS : Nat}
  (cl_FactError : ClsIn K "FactError" C_FactError)
  (cl_BadFact : ClsIn K "BadFact" C_BadFact)
  (cl_BadRule : ClsIn K "BadRule" C_BadRule)
  (cl_BadWidth : ClsIn K "BadWidth" C_BadWidth)
  (cl_Unbound : ClsIn K "Unbound" C_Unbound)
  (cl_Ringed : ClsIn K "Ringed" C_Ringed)
  (cl_TooMany : ClsIn K "TooMany" C_TooMany)
  (cl_NoFact : ClsIn K "NoFact" C_NoFact)
  (cl_NoText : ClsIn K "NoText" C_NoText)
  (s_FactError_BadFact : PySem.W.subIn K (.ref C_FactError) (.ref C_BadFact) = some false)
  (s_BadRule_BadFact : PySem.W.subIn K (.ref C_BadRule) (.ref C_BadFact) = some false)
  (s_BadWidth_BadFact : PySem.W.subIn K (.ref C_BadWidth) (.ref C_BadFact) = some false)
  (s_Unbound_BadFact : PySem.W.subIn K (.ref C_Unbound) (.ref C_BadFact) = some false)
  (s_Ringed_BadFact : PySem.W.subIn K (.ref C_Ringed) (.ref C_BadFact) = some false)
  (s_TooMany_BadFact : PySem.W.subIn K (.ref C_TooMany) (.ref C_BadFact) = some false)
  (s_NoFact_BadFact : PySem.W.subIn K (.ref C_NoFact) (.ref C_BadFact) = some false)
  (s_NoText_BadFact : PySem.W.subIn K (.ref C_NoText) (.ref C_BadFact) = some false)
  (s_FactError_BadRule : PySem.W.subIn K (.ref C_FactError) (.ref C_BadRule) = some false)
  (s_BadFact_BadRule : PySem.W.subIn K (.ref C_BadFact) (.ref C_BadRule) = some false)
  (s_BadWidth_BadRule : PySem.W.subIn K (.ref C_BadWidth) (.ref C_BadRule) = some false)
  (s_Unbound_BadRule : PySem.W.subIn K (.ref C_Unbound) (.ref C_BadRule) = some false)
  (s_Ringed_BadRule : PySem.W.subIn K (.ref C_Ringed) (.ref C_BadRule) = some false)
  (s_TooMany_BadRule : PySem.W.subIn K (.ref C_TooMany) (.ref C_BadRule) = some false)
  (s_NoFact_BadRule : PySem.W.subIn K (.ref C_NoFact) (.ref C_BadRule) = some false)
  (s_NoText_BadRule : PySem.W.subIn K (.ref C_NoText) (.ref C_BadRule) = some false)
  (s_FactError_BadWidth : PySem.W.subIn K (.ref C_FactError) (.ref C_BadWidth) = some false)
  (s_BadFact_BadWidth : PySem.W.subIn K (.ref C_BadFact) (.ref C_BadWidth) = some false)
  (s_BadRule_BadWidth : PySem.W.subIn K (.ref C_BadRule) (.ref C_BadWidth) = some false)
  (s_Unbound_BadWidth : PySem.W.subIn K (.ref C_Unbound) (.ref C_BadWidth) = some false)
  (s_Ringed_BadWidth : PySem.W.subIn K (.ref C_Ringed) (.ref C_BadWidth) = some false)
  (s_TooMany_BadWidth : PySem.W.subIn K (.ref C_TooMany) (.ref C_BadWidth) = some false)
  (s_NoFact_BadWidth : PySem.W.subIn K (.ref C_NoFact) (.ref C_BadWidth) = some false)
  (s_NoText_BadWidth : PySem.W.subIn K (.ref C_NoText) (.ref C_BadWidth) = some false)
  (s_BadFact_FactError : PySem.W.subIn K (.ref C_BadFact) (.ref C_FactError) = some true)
  (s_BadRule_FactError : PySem.W.subIn K (.ref C_BadRule) (.ref C_FactError) = some true)
  (s_BadWidth_FactError : PySem.W.subIn K (.ref C_BadWidth) (.ref C_FactError) = some true)
  (s_Unbound_FactError : PySem.W.subIn K (.ref C_Unbound) (.ref C_FactError) = some true)
  (s_Ringed_FactError : PySem.W.subIn K (.ref C_Ringed) (.ref C_FactError) = some true)
  (s_TooMany_FactError : PySem.W.subIn K (.ref C_TooMany) (.ref C_FactError) = some true)
  (s_NoFact_FactError : PySem.W.subIn K (.ref C_NoFact) (.ref C_FactError) = some true)
  (s_NoText_FactError : PySem.W.subIn K (.ref C_NoText) (.ref C_FactError) = some true)
  (s_FactError_NoFact : PySem.W.subIn K (.ref C_FactError) (.ref C_NoFact) = some false)
  (s_BadFact_NoFact : PySem.W.subIn K (.ref C_BadFact) (.ref C_NoFact) = some false)
  (s_BadRule_NoFact : PySem.W.subIn K (.ref C_BadRule) (.ref C_NoFact) = some false)
  (s_BadWidth_NoFact : PySem.W.subIn K (.ref C_BadWidth) (.ref C_NoFact) = some false)
  (s_Unbound_NoFact : PySem.W.subIn K (.ref C_Unbound) (.ref C_NoFact) = some false)
  (s_Ringed_NoFact : PySem.W.subIn K (.ref C_Ringed) (.ref C_NoFact) = some false)
  (s_TooMany_NoFact : PySem.W.subIn K (.ref C_TooMany) (.ref C_NoFact) = some false)
  (s_NoText_NoFact : PySem.W.subIn K (.ref C_NoText) (.ref C_NoFact) = some false)
  (s_FactError_NoText : PySem.W.subIn K (.ref C_FactError) (.ref C_NoText) = some false)
  (s_BadFact_NoText : PySem.W.subIn K (.ref C_BadFact) (.ref C_NoText) = some false)
  (s_BadRule_NoText : PySem.W.subIn K (.ref C_BadRule) (.ref C_NoText) = some false)
  (s_BadWidth_NoText : PySem.W.subIn K (.ref C_BadWidth) (.ref C_NoText) = some false)
  (s_Unbound_NoText : PySem.W.subIn K (.ref C_Unbound) (.ref C_NoText) = some false)
  (s_Ringed_NoText : PySem.W.subIn K (.ref C_Ringed) (.ref C_NoText) = some false)
  (s_TooMany_NoText : PySem.W.subIn K (.ref C_TooMany) (.ref C_NoText) = some false)
  (s_NoFact_NoText : PySem.W.subIn K (.ref C_NoFact) (.ref C_NoText) = some false)
  (s_FactError_Ringed : PySem.W.subIn K (.ref C_FactError) (.ref C_Ringed) = some false)
  (s_BadFact_Ringed : PySem.W.subIn K (.ref C_BadFact) (.ref C_Ringed) = some false)
  (s_BadRule_Ringed : PySem.W.subIn K (.ref C_BadRule) (.ref C_Ringed) = some false)
  (s_BadWidth_Ringed : PySem.W.subIn K (.ref C_BadWidth) (.ref C_Ringed) = some false)
  (s_Unbound_Ringed : PySem.W.subIn K (.ref C_Unbound) (.ref C_Ringed) = some false)
  (s_TooMany_Ringed : PySem.W.subIn K (.ref C_TooMany) (.ref C_Ringed) = some false)
  (s_NoFact_Ringed : PySem.W.subIn K (.ref C_NoFact) (.ref C_Ringed) = some false)
  (s_NoText_Ringed : PySem.W.subIn K (.ref C_NoText) (.ref C_Ringed) = some false)
  (s_FactError_TooMany : PySem.W.subIn K (.ref C_FactError) (.ref C_TooMany) = some false)
  (s_BadFact_TooMany : PySem.W.subIn K (.ref C_BadFact) (.ref C_TooMany) = some false)
  (s_BadRule_TooMany : PySem.W.subIn K (.ref C_BadRule) (.ref C_TooMany) = some false)
  (s_BadWidth_TooMany : PySem.W.subIn K (.ref C_BadWidth) (.ref C_TooMany) = some false)
  (s_Unbound_TooMany : PySem.W.subIn K (.ref C_Unbound) (.ref C_TooMany) = some false)
  (s_Ringed_TooMany : PySem.W.subIn K (.ref C_Ringed) (.ref C_TooMany) = some false)
  (s_NoFact_TooMany : PySem.W.subIn K (.ref C_NoFact) (.ref C_TooMany) = some false)
  (s_NoText_TooMany : PySem.W.subIn K (.ref C_NoText) (.ref C_TooMany) = some false)
  (s_FactError_Unbound : PySem.W.subIn K (.ref C_FactError) (.ref C_Unbound) = some false)
  (s_BadFact_Unbound : PySem.W.subIn K (.ref C_BadFact) (.ref C_Unbound) = some false)
  (s_BadRule_Unbound : PySem.W.subIn K (.ref C_BadRule) (.ref C_Unbound) = some false)
  (s_BadWidth_Unbound : PySem.W.subIn K (.ref C_BadWidth) (.ref C_Unbound) = some false)
  (s_Ringed_Unbound : PySem.W.subIn K (.ref C_Ringed) (.ref C_Unbound) = some false)
  (s_TooMany_Unbound : PySem.W.subIn K (.ref C_TooMany) (.ref C_Unbound) = some false)
  (s_NoFact_Unbound : PySem.W.subIn K (.ref C_NoFact) (.ref C_Unbound) = some false)
  (s_NoText_Unbound : PySem.W.subIn K (.ref C_NoText) (.ref C_Unbound) = some false)
  (nb_ValueError : PySem.W.nsIn K mainGlobals "ValueError" = some none)
  (sbb_ValueError : PySem.W.subIn K (.type "ValueError") (.type "BaseException") = some true)
  (s_FactError_ValueError : PySem.W.subIn K (.ref C_FactError) (.type "ValueError") = some true)
  (s_BadFact_ValueError : PySem.W.subIn K (.ref C_BadFact) (.type "ValueError") = some true)
  (s_BadRule_ValueError : PySem.W.subIn K (.ref C_BadRule) (.type "ValueError") = some true)
  (s_BadWidth_ValueError : PySem.W.subIn K (.ref C_BadWidth) (.type "ValueError") = some true)
  (s_Unbound_ValueError : PySem.W.subIn K (.ref C_Unbound) (.type "ValueError") = some true)
  (s_Ringed_ValueError : PySem.W.subIn K (.ref C_Ringed) (.type "ValueError") = some true)
  (s_TooMany_ValueError : PySem.W.subIn K (.ref C_TooMany) (.type "ValueError") = some true)
  (s_NoFact_ValueError : PySem.W.subIn K (.ref C_NoFact) (.type "ValueError") = some true)
  (s_NoText_ValueError : PySem.W.subIn K (.ref C_NoText) (.type "ValueError") = some true)
  (k1_MOST_WIDTH : PySem.W.nsIn K mainGlobals "MOST_WIDTH" = some (some (Value.int 4 t_MOST_WIDTH)))
  (k1_MOST_PARTS : PySem.W.nsIn K mainGlobals "MOST_PARTS" = some (some (Value.int 6 t_MOST_PARTS)))
  (k1_MOST_SIGNS : PySem.W.nsIn K mainGlobals "MOST_SIGNS" = some (some (Value.int 8 t_MOST_SIGNS)))
  (k1_MOST_NUMBER : PySem.W.nsIn K mainGlobals "MOST_NUMBER" = some (some (Value.int 999999999 t_MOST_NUMBER)))
  (k1_SMALL_LETTERS : PySem.W.nsIn K mainGlobals "SMALL_LETTERS" = some (some (Value.str "abcdefghijklmnopqrstuvwxyz" t_SMALL_LETTERS)))
  (k1_GREAT_LETTERS : PySem.W.nsIn K mainGlobals "GREAT_LETTERS" = some (some (Value.str "ABCDEFGHIJKLMNOPQRSTUVWXYZ" t_GREAT_LETTERS)))
  (k1_KEPT_WORDS : PySem.W.nsIn K mainGlobals "KEPT_WORDS" = some (some (.ref a_KEPT_WORDS)))
  (k2_KEPT_WORDS : K.lookup a_KEPT_WORDS = some ⟨.type "tuple", o_KEPT_WORDS, .seq (List.toArray [Value.str "has" t0_KEPT_WORDS, Value.str "not" t1_KEPT_WORDS, Value.str "less" t2_KEPT_WORDS, Value.str "same" t3_KEPT_WORDS, Value.str "plus" t4_KEPT_WORDS, Value.str "if" t5_KEPT_WORDS, Value.str "by" t6_KEPT_WORDS, Value.str "is" t7_KEPT_WORDS, Value.str "count" t8_KEPT_WORDS, Value.str "sum" t9_KEPT_WORDS, Value.str "least" t10_KEPT_WORDS, Value.str "most" t11_KEPT_WORDS, Value.str "why" t12_KEPT_WORDS]) n_KEPT_WORDS, s_lKEPT_WORDS⟩)
  (k1_PATTERN_PARTS : PySem.W.nsIn K mainGlobals "PATTERN_PARTS" = some (some (.ref a_PATTERN_PARTS)))
  (k2_PATTERN_PARTS : K.lookup a_PATTERN_PARTS = some ⟨.type "tuple", o_PATTERN_PARTS, .seq (List.toArray [Value.str "has" t0_PATTERN_PARTS, Value.str "not" t1_PATTERN_PARTS]) n_PATTERN_PARTS, s_lPATTERN_PARTS⟩)
  (k1_TERM_COUNTS : PySem.W.nsIn K mainGlobals "TERM_COUNTS" = some (some (.ref a_TERM_COUNTS)))
  (k2_TERM_COUNTS : K.lookup a_TERM_COUNTS = some ⟨.type "dict", none, .dict (List.toArray [⟨h0_TERM_COUNTS, .str "less" t0_TERM_COUNTS, .int 2 t1_TERM_COUNTS⟩, ⟨h1_TERM_COUNTS, .str "same" t2_TERM_COUNTS, .int 2 t3_TERM_COUNTS⟩, ⟨h2_TERM_COUNTS, .str "plus" t4_TERM_COUNTS, .int 3 t5_TERM_COUNTS⟩]) n_TERM_COUNTS, #[]⟩)
  (k3_TERM_COUNTS : (a_TERM_COUNTS == sysModules) = false)
  (k4_0_TERM_COUNTS : h0_TERM_COUNTS = hashStr w "less")
  (k4_1_TERM_COUNTS : h1_TERM_COUNTS = hashStr w "same")
  (k4_2_TERM_COUNTS : h2_TERM_COUNTS = hashStr w "plus")
  (b_all : PySem.W.nsIn K mainGlobals "all" = some none)
  (b_any : PySem.W.nsIn K mainGlobals "any" = some none)
  (b_bool : PySem.W.nsIn K mainGlobals "bool" = some none)
  (b_int : PySem.W.nsIn K mainGlobals "int" = some none)
  (b_isinstance : PySem.W.nsIn K mainGlobals "isinstance" = some none)
  (b_len : PySem.W.nsIn K mainGlobals "len" = some none)
  (b_list : PySem.W.nsIn K mainGlobals "list" = some none)
  (b_max : PySem.W.nsIn K mainGlobals "max" = some none)
  (b_range : PySem.W.nsIn K mainGlobals "range" = some none)
  (b_str : PySem.W.nsIn K mainGlobals "str" = some none)
  (b_tuple : PySem.W.nsIn K mainGlobals "tuple" = some none)
  (d_is_short_text : DIn K "is_short_text" s_is_short_text)
  (d_all_small : DIn K "all_small" s_all_small)
  (d_is_name : DIn K "is_name" s_is_name)
  (d_is_free : DIn K "is_free" s_is_free)
  (d_is_number : DIn K "is_number" s_is_number)
  (d_is_value : DIn K "is_value" s_is_value)
  (d_is_term : DIn K "is_term" s_is_term)
  (d_is_pattern : DIn K "is_pattern" s_is_pattern)
  (d_is_fact : DIn K "is_fact" s_is_fact)
  (d_word_ahead : DIn K "word_ahead" s_word_ahead)
  (d_is_part : DIn K "is_part" s_is_part)
  (d_l_cell_at : DIn K "_law_cell_at" s_l_cell_at)
  (d_l_free_words : DIn K "_law_free_words" s_l_free_words)
  (d_l_term_by : DIn K "_law_term_by" s_l_term_by)
  (d_l_pattern_by : DIn K "_law_pattern_by" s_l_pattern_by)
  (d_l_part_by : DIn K "_law_part_by" s_l_part_by)
  (d_l_is_free : DIn K "_law_is_free" s_l_is_free)
  (d_l_spoilt_pattern : DIn K "_law_spoilt_pattern" s_l_spoilt_pattern)
  (d_l_spoilt_part : DIn K "_law_spoilt_part" s_l_spoilt_part)
  (d_need_fact : DIn K "need_fact" s_need_fact)
  (d_l_names : DIn K "_law_names" s_l_names)
  (d_l_fact_told : DIn K "_law_fact_told" s_l_fact_told)
  (d_is_body : DIn K "is_body" s_is_body)
  (d_free_among : DIn K "free_among" s_free_among)
  (d_words_of_part : DIn K "words_of_part" s_words_of_part)
  (d_wanted_by : DIn K "wanted_by" s_wanted_by)
  (d_need_bound : DIn K "need_bound" s_need_bound)
  (d_need_bound_parts : DIn K "need_bound_parts" s_need_bound_parts)
  (d_need_body : DIn K "need_body" s_need_body)
  (d_l_body_told : DIn K "_law_body_told" s_l_body_told)
  (d_law : DIn K "law" s_law)
  : ∃ fd : FuncData, (∀ (s : Shared) (v : Value), BindsTo s fd ⟨[v], []⟩ [("_law_script", v)]) ∧ ∀ base : Heap, K.In base → base.Ns mainGlobals mg → FnX true l.prog w K mg base 30 fa fd ["_law_script"] (SpX K 1 op_law) := by
 have ee_BadFact : ∃ cv vc, ExcOk K mg "BadFact" true t_BadFact cv vc := exc_own (PySem.W.mg_of X G cl_BadFact.ns) cl_BadFact.k.cls (show TabOk K (.ref C_BadFact) t_BadFact from (TabOk.cons cl_FactError (cl_FactError.pair cl_BadFact s_FactError_BadFact) (TabOk.cons cl_BadFact (cl_BadFact.pair cl_BadFact cl_BadFact.rf) (TabOk.cons cl_BadRule (cl_BadRule.pair cl_BadFact s_BadRule_BadFact) (TabOk.cons cl_BadWidth (cl_BadWidth.pair cl_BadFact s_BadWidth_BadFact) (TabOk.cons cl_Unbound (cl_Unbound.pair cl_BadFact s_Unbound_BadFact) (TabOk.cons cl_Ringed (cl_Ringed.pair cl_BadFact s_Ringed_BadFact) (TabOk.cons cl_TooMany (cl_TooMany.pair cl_BadFact s_TooMany_BadFact) (TabOk.cons cl_NoFact (cl_NoFact.pair cl_BadFact s_NoFact_BadFact) (TabOk.cons cl_NoText (cl_NoText.pair cl_BadFact s_NoText_BadFact) TabOk.nil))))))))))
 have ee_BadRule : ∃ cv vc, ExcOk K mg "BadRule" true t_BadRule cv vc := exc_own (PySem.W.mg_of X G cl_BadRule.ns) cl_BadRule.k.cls (show TabOk K (.ref C_BadRule) t_BadRule from (TabOk.cons cl_FactError (cl_FactError.pair cl_BadRule s_FactError_BadRule) (TabOk.cons cl_BadFact (cl_BadFact.pair cl_BadRule s_BadFact_BadRule) (TabOk.cons cl_BadRule (cl_BadRule.pair cl_BadRule cl_BadRule.rf) (TabOk.cons cl_BadWidth (cl_BadWidth.pair cl_BadRule s_BadWidth_BadRule) (TabOk.cons cl_Unbound (cl_Unbound.pair cl_BadRule s_Unbound_BadRule) (TabOk.cons cl_Ringed (cl_Ringed.pair cl_BadRule s_Ringed_BadRule) (TabOk.cons cl_TooMany (cl_TooMany.pair cl_BadRule s_TooMany_BadRule) (TabOk.cons cl_NoFact (cl_NoFact.pair cl_BadRule s_NoFact_BadRule) (TabOk.cons cl_NoText (cl_NoText.pair cl_BadRule s_NoText_BadRule) TabOk.nil))))))))))
 have ee_BadWidth : ∃ cv vc, ExcOk K mg "BadWidth" true t_BadWidth cv vc := exc_own (PySem.W.mg_of X G cl_BadWidth.ns) cl_BadWidth.k.cls (show TabOk K (.ref C_BadWidth) t_BadWidth from (TabOk.cons cl_FactError (cl_FactError.pair cl_BadWidth s_FactError_BadWidth) (TabOk.cons cl_BadFact (cl_BadFact.pair cl_BadWidth s_BadFact_BadWidth) (TabOk.cons cl_BadRule (cl_BadRule.pair cl_BadWidth s_BadRule_BadWidth) (TabOk.cons cl_BadWidth (cl_BadWidth.pair cl_BadWidth cl_BadWidth.rf) (TabOk.cons cl_Unbound (cl_Unbound.pair cl_BadWidth s_Unbound_BadWidth) (TabOk.cons cl_Ringed (cl_Ringed.pair cl_BadWidth s_Ringed_BadWidth) (TabOk.cons cl_TooMany (cl_TooMany.pair cl_BadWidth s_TooMany_BadWidth) (TabOk.cons cl_NoFact (cl_NoFact.pair cl_BadWidth s_NoFact_BadWidth) (TabOk.cons cl_NoText (cl_NoText.pair cl_BadWidth s_NoText_BadWidth) TabOk.nil))))))))))
 have ee_FactError : ∃ cv vc, ExcOk K mg "FactError" true t_FactError cv vc := exc_own (PySem.W.mg_of X G cl_FactError.ns) cl_FactError.k.cls (show TabOk K (.ref C_FactError) t_FactError from (TabOk.cons cl_FactError (cl_FactError.pair cl_FactError cl_FactError.rf) (TabOk.cons cl_BadFact (cl_BadFact.pair cl_FactError s_BadFact_FactError) (TabOk.cons cl_BadRule (cl_BadRule.pair cl_FactError s_BadRule_FactError) (TabOk.cons cl_BadWidth (cl_BadWidth.pair cl_FactError s_BadWidth_FactError) (TabOk.cons cl_Unbound (cl_Unbound.pair cl_FactError s_Unbound_FactError) (TabOk.cons cl_Ringed (cl_Ringed.pair cl_FactError s_Ringed_FactError) (TabOk.cons cl_TooMany (cl_TooMany.pair cl_FactError s_TooMany_FactError) (TabOk.cons cl_NoFact (cl_NoFact.pair cl_FactError s_NoFact_FactError) (TabOk.cons cl_NoText (cl_NoText.pair cl_FactError s_NoText_FactError) TabOk.nil))))))))))
 have ee_NoFact : ∃ cv vc, ExcOk K mg "NoFact" true t_NoFact cv vc := exc_own (PySem.W.mg_of X G cl_NoFact.ns) cl_NoFact.k.cls (show TabOk K (.ref C_NoFact) t_NoFact from (TabOk.cons cl_FactError (cl_FactError.pair cl_NoFact s_FactError_NoFact) (TabOk.cons cl_BadFact (cl_BadFact.pair cl_NoFact s_BadFact_NoFact) (TabOk.cons cl_BadRule (cl_BadRule.pair cl_NoFact s_BadRule_NoFact) (TabOk.cons cl_BadWidth (cl_BadWidth.pair cl_NoFact s_BadWidth_NoFact) (TabOk.cons cl_Unbound (cl_Unbound.pair cl_NoFact s_Unbound_NoFact) (TabOk.cons cl_Ringed (cl_Ringed.pair cl_NoFact s_Ringed_NoFact) (TabOk.cons cl_TooMany (cl_TooMany.pair cl_NoFact s_TooMany_NoFact) (TabOk.cons cl_NoFact (cl_NoFact.pair cl_NoFact cl_NoFact.rf) (TabOk.cons cl_NoText (cl_NoText.pair cl_NoFact s_NoText_NoFact) TabOk.nil))))))))))
 have ee_NoText : ∃ cv vc, ExcOk K mg "NoText" true t_NoText cv vc := exc_own (PySem.W.mg_of X G cl_NoText.ns) cl_NoText.k.cls (show TabOk K (.ref C_NoText) t_NoText from (TabOk.cons cl_FactError (cl_FactError.pair cl_NoText s_FactError_NoText) (TabOk.cons cl_BadFact (cl_BadFact.pair cl_NoText s_BadFact_NoText) (TabOk.cons cl_BadRule (cl_BadRule.pair cl_NoText s_BadRule_NoText) (TabOk.cons cl_BadWidth (cl_BadWidth.pair cl_NoText s_BadWidth_NoText) (TabOk.cons cl_Unbound (cl_Unbound.pair cl_NoText s_Unbound_NoText) (TabOk.cons cl_Ringed (cl_Ringed.pair cl_NoText s_Ringed_NoText) (TabOk.cons cl_TooMany (cl_TooMany.pair cl_NoText s_TooMany_NoText) (TabOk.cons cl_NoFact (cl_NoFact.pair cl_NoText s_NoFact_NoText) (TabOk.cons cl_NoText (cl_NoText.pair cl_NoText cl_NoText.rf) TabOk.nil))))))))))
 have ee_Ringed : ∃ cv vc, ExcOk K mg "Ringed" true t_Ringed cv vc := exc_own (PySem.W.mg_of X G cl_Ringed.ns) cl_Ringed.k.cls (show TabOk K (.ref C_Ringed) t_Ringed from (TabOk.cons cl_FactError (cl_FactError.pair cl_Ringed s_FactError_Ringed) (TabOk.cons cl_BadFact (cl_BadFact.pair cl_Ringed s_BadFact_Ringed) (TabOk.cons cl_BadRule (cl_BadRule.pair cl_Ringed s_BadRule_Ringed) (TabOk.cons cl_BadWidth (cl_BadWidth.pair cl_Ringed s_BadWidth_Ringed) (TabOk.cons cl_Unbound (cl_Unbound.pair cl_Ringed s_Unbound_Ringed) (TabOk.cons cl_Ringed (cl_Ringed.pair cl_Ringed cl_Ringed.rf) (TabOk.cons cl_TooMany (cl_TooMany.pair cl_Ringed s_TooMany_Ringed) (TabOk.cons cl_NoFact (cl_NoFact.pair cl_Ringed s_NoFact_Ringed) (TabOk.cons cl_NoText (cl_NoText.pair cl_Ringed s_NoText_Ringed) TabOk.nil))))))))))
 have ee_TooMany : ∃ cv vc, ExcOk K mg "TooMany" true t_TooMany cv vc := exc_own (PySem.W.mg_of X G cl_TooMany.ns) cl_TooMany.k.cls (show TabOk K (.ref C_TooMany) t_TooMany from (TabOk.cons cl_FactError (cl_FactError.pair cl_TooMany s_FactError_TooMany) (TabOk.cons cl_BadFact (cl_BadFact.pair cl_TooMany s_BadFact_TooMany) (TabOk.cons cl_BadRule (cl_BadRule.pair cl_TooMany s_BadRule_TooMany) (TabOk.cons cl_BadWidth (cl_BadWidth.pair cl_TooMany s_BadWidth_TooMany) (TabOk.cons cl_Unbound (cl_Unbound.pair cl_TooMany s_Unbound_TooMany) (TabOk.cons cl_Ringed (cl_Ringed.pair cl_TooMany s_Ringed_TooMany) (TabOk.cons cl_TooMany (cl_TooMany.pair cl_TooMany cl_TooMany.rf) (TabOk.cons cl_NoFact (cl_NoFact.pair cl_TooMany s_NoFact_TooMany) (TabOk.cons cl_NoText (cl_NoText.pair cl_TooMany s_NoText_TooMany) TabOk.nil))))))))))
 have ee_Unbound : ∃ cv vc, ExcOk K mg "Unbound" true t_Unbound cv vc := exc_own (PySem.W.mg_of X G cl_Unbound.ns) cl_Unbound.k.cls (show TabOk K (.ref C_Unbound) t_Unbound from (TabOk.cons cl_FactError (cl_FactError.pair cl_Unbound s_FactError_Unbound) (TabOk.cons cl_BadFact (cl_BadFact.pair cl_Unbound s_BadFact_Unbound) (TabOk.cons cl_BadRule (cl_BadRule.pair cl_Unbound s_BadRule_Unbound) (TabOk.cons cl_BadWidth (cl_BadWidth.pair cl_Unbound s_BadWidth_Unbound) (TabOk.cons cl_Unbound (cl_Unbound.pair cl_Unbound cl_Unbound.rf) (TabOk.cons cl_Ringed (cl_Ringed.pair cl_Unbound s_Ringed_Unbound) (TabOk.cons cl_TooMany (cl_TooMany.pair cl_Unbound s_TooMany_Unbound) (TabOk.cons cl_NoFact (cl_NoFact.pair cl_Unbound s_NoFact_Unbound) (TabOk.cons cl_NoText (cl_NoText.pair cl_Unbound s_NoText_Unbound) TabOk.nil))))))))))
 have ee_ValueError : ∃ cv vc, ExcOk K mg "ValueError" false t_ValueError cv vc := exc_blt (PySem.W.mg_none_of X G nb_ValueError) (by decide +kernel) (show TabOk K (.type "ValueError") t_ValueError from (TabOk.cons cl_FactError (cl_FactError.blt meta_ValueError sbb_ValueError s_FactError_ValueError) (TabOk.cons cl_BadFact (cl_BadFact.blt meta_ValueError sbb_ValueError s_BadFact_ValueError) (TabOk.cons cl_BadRule (cl_BadRule.blt meta_ValueError sbb_ValueError s_BadRule_ValueError) (TabOk.cons cl_BadWidth (cl_BadWidth.blt meta_ValueError sbb_ValueError s_BadWidth_ValueError) (TabOk.cons cl_Unbound (cl_Unbound.blt meta_ValueError sbb_ValueError s_Unbound_ValueError) (TabOk.cons cl_Ringed (cl_Ringed.blt meta_ValueError sbb_ValueError s_Ringed_ValueError) (TabOk.cons cl_TooMany (cl_TooMany.blt meta_ValueError sbb_ValueError s_TooMany_ValueError) (TabOk.cons cl_NoFact (cl_NoFact.blt meta_ValueError sbb_ValueError s_NoFact_ValueError) (TabOk.cons cl_NoText (cl_NoText.blt meta_ValueError sbb_ValueError s_NoText_ValueError) TabOk.nil))))))))))
 have kk_MOST_WIDTH : ∃ u, mg "MOST_WIDTH" = some u ∧ ConK K u c_MOST_WIDTH := ⟨_, PySem.W.mg_of X G k1_MOST_WIDTH, .int _ _⟩
 have kk_MOST_PARTS : ∃ u, mg "MOST_PARTS" = some u ∧ ConK K u c_MOST_PARTS := ⟨_, PySem.W.mg_of X G k1_MOST_PARTS, .int _ _⟩
 have kk_MOST_SIGNS : ∃ u, mg "MOST_SIGNS" = some u ∧ ConK K u c_MOST_SIGNS := ⟨_, PySem.W.mg_of X G k1_MOST_SIGNS, .int _ _⟩
 have kk_MOST_NUMBER : ∃ u, mg "MOST_NUMBER" = some u ∧ ConK K u c_MOST_NUMBER := ⟨_, PySem.W.mg_of X G k1_MOST_NUMBER, .int _ _⟩
 have kk_SMALL_LETTERS : ∃ u, mg "SMALL_LETTERS" = some u ∧ ConK K u c_SMALL_LETTERS := ⟨_, PySem.W.mg_of X G k1_SMALL_LETTERS, .str _ _⟩
 have kk_GREAT_LETTERS : ∃ u, mg "GREAT_LETTERS" = some u ∧ ConK K u c_GREAT_LETTERS := ⟨_, PySem.W.mg_of X G k1_GREAT_LETTERS, .str _ _⟩
 have kk_KEPT_WORDS : ∃ u, mg "KEPT_WORDS" = some u ∧ ConK K u c_KEPT_WORDS := ⟨_, PySem.W.mg_of X G k1_KEPT_WORDS, .txts k2_KEPT_WORDS (by show 13 ≤ sizeLine; decide) (.cons ⟨_, rfl⟩ (.cons ⟨_, rfl⟩ (.cons ⟨_, rfl⟩ (.cons ⟨_, rfl⟩ (.cons ⟨_, rfl⟩ (.cons ⟨_, rfl⟩ (.cons ⟨_, rfl⟩ (.cons ⟨_, rfl⟩ (.cons ⟨_, rfl⟩ (.cons ⟨_, rfl⟩ (.cons ⟨_, rfl⟩ (.cons ⟨_, rfl⟩ (.cons ⟨_, rfl⟩ (.nil))))))))))))))⟩
 have kk_PATTERN_PARTS : ∃ u, mg "PATTERN_PARTS" = some u ∧ ConK K u c_PATTERN_PARTS := ⟨_, PySem.W.mg_of X G k1_PATTERN_PARTS, .txts k2_PATTERN_PARTS (by show 2 ≤ sizeLine; decide) (.cons ⟨_, rfl⟩ (.cons ⟨_, rfl⟩ (.nil)))⟩
 have kk_TERM_COUNTS : KDs l.prog w K mg "TERM_COUNTS" ck_TERM_COUNTS cw_TERM_COUNTS := kds_mk X G k1_TERM_COUNTS k2_TERM_COUNTS k3_TERM_COUNTS (DE.int k4_0_TERM_COUNTS (DE.int k4_1_TERM_COUNTS (DE.int k4_2_TERM_COUNTS DE.nil))) (by decide)
 have t : Tx l.prog w K mg := ⟨ee_BadFact, ee_BadRule, ee_BadWidth, ee_FactError, ee_NoFact, ee_NoText, ee_Ringed, ee_TooMany, ee_Unbound, ee_ValueError, kk_MOST_WIDTH, kk_MOST_PARTS, kk_MOST_SIGNS, kk_MOST_NUMBER, kk_SMALL_LETTERS, kk_GREAT_LETTERS, kk_KEPT_WORDS, kk_PATTERN_PARTS, kk_TERM_COUNTS, PySem.W.mg_none_of X G b_all, PySem.W.mg_none_of X G b_any, PySem.W.mg_none_of X G b_bool, PySem.W.mg_none_of X G b_int, PySem.W.mg_none_of X G b_isinstance, PySem.W.mg_none_of X G b_len, PySem.W.mg_none_of X G b_list, PySem.W.mg_none_of X G b_max, PySem.W.mg_none_of X G b_range, PySem.W.mg_none_of X G b_str, PySem.W.mg_none_of X G b_tuple, (d_is_short_text.at_ X G fun _ _ _ _ _ _ us hl => match us, hl with | [_], _ => rfl), (d_all_small.at_ X G fun _ _ _ _ _ _ us hl => match us, hl with | [_], _ => rfl), (d_is_name.at_ X G fun _ _ _ _ _ _ us hl => match us, hl with | [_], _ => rfl), (d_is_free.at_ X G fun _ _ _ _ _ _ us hl => match us, hl with | [_], _ => rfl), (d_is_number.at_ X G fun _ _ _ _ _ _ us hl => match us, hl with | [_], _ => rfl), (d_is_value.at_ X G fun _ _ _ _ _ _ us hl => match us, hl with | [_], _ => rfl), (d_is_term.at_ X G fun _ _ _ _ _ _ us hl => match us, hl with | [_], _ => rfl), (d_is_pattern.at_ X G fun _ _ _ _ _ _ us hl => match us, hl with | [_], _ => rfl), (d_is_fact.at_ X G fun _ _ _ _ _ _ us hl => match us, hl with | [_], _ => rfl), (d_word_ahead.at_ X G fun _ _ _ _ _ _ us hl => match us, hl with | [_], _ => rfl), (d_is_part.at_ X G fun _ _ _ _ _ _ us hl => match us, hl with | [_], _ => rfl), (d_l_cell_at.at_ X G fun _ _ _ _ _ _ us hl => match us, hl with | [_, _], _ => rfl), (d_l_free_words.at_ X G fun _ _ _ _ _ _ us hl => match us, hl with | [_], _ => rfl), (d_l_term_by.at_ X G fun _ _ _ _ _ _ us hl => match us, hl with | [_], _ => rfl), (d_l_pattern_by.at_ X G fun _ _ _ _ _ _ us hl => match us, hl with | [_, _], _ => rfl), (d_l_part_by.at_ X G fun _ _ _ _ _ _ us hl => match us, hl with | [_], _ => rfl), (d_l_is_free.at_ X G fun _ _ _ _ _ _ us hl => match us, hl with | [_], _ => rfl), (d_l_spoilt_pattern.at_ X G fun _ _ _ _ _ _ us hl => match us, hl with | [_, _], _ => rfl), (d_l_spoilt_part.at_ X G fun _ _ _ _ _ _ us hl => match us, hl with | [_, _, _], _ => rfl), (d_need_fact.at_ X G fun _ _ _ _ _ _ us hl => match us, hl with | [_], _ => rfl), (d_l_names.at_ X G fun _ _ _ _ _ _ us hl => match us, hl with | [_], _ => rfl), (d_l_fact_told.at_ X G fun _ _ _ _ _ _ us hl => match us, hl with | [_], _ => rfl), (d_is_body.at_ X G fun _ _ _ _ _ _ us hl => match us, hl with | [_], _ => rfl), (d_free_among.at_ X G fun _ _ _ _ _ _ us hl => match us, hl with | [_], _ => rfl), (d_words_of_part.at_ X G fun _ _ _ _ _ _ us hl => match us, hl with | [_], _ => rfl), (d_wanted_by.at_ X G fun _ _ _ _ _ _ us hl => match us, hl with | [_], _ => rfl), (d_need_bound.at_ X G fun _ _ _ _ _ _ us hl => match us, hl with | [_, _], _ => rfl), (d_need_bound_parts.at_ X G fun _ _ _ _ _ _ us hl => match us, hl with | [_], _ => rfl), (d_need_body.at_ X G fun _ _ _ _ _ _ us hl => match us, hl with | [_], _ => rfl), (d_l_body_told.at_ X G fun _ _ _ _ _ _ us hl => match us, hl with | [_], _ => rfl), (d_law.at_ X G fun _ _ _ _ _ _ us hl => match us, hl with | [_], _ => rfl)⟩
 exact d_law.law X G hfa (fun _ _ _ _ _ _ s v => .of_eq rfl) fun fd F base _ _ => law_ok t F
end DL.My
namespace DL.My
open PySem L2
theorem ret_ok {r : Run} {Γ : Ga} {st : S} {w : W} (h : r Γ st = .ok w st) : sSeq (sRet r) sPass Γ st = .ok (.rt w) st := by
 rw [ev_seq, ev_ret, h]; rfl
theorem compGo_map {re : Run} {Γc : Ga} {st : S} (f : W → W) : ∀ (items acc : List W), (∀ x ∈ items, re (some x :: Γc) st = .ok (f x) st) → compGo (rCon (.bl true)) re Γc items acc st = .ok (acc ++ items.map f) st
 | [], acc, _ => by simp [compGo]
 | x :: xs, acc, h => by
  show ((rCon (.bl true) (some x :: Γc) st).calm.bind fun b st1 => match b with
   | .bl true => (re (some x :: Γc) st1).calm.bind fun y st2 => compGo (rCon (.bl true)) re Γc xs (acc ++ [y]) st2
   | .bl false => compGo (rCon (.bl true)) re Γc xs acc st1
   | _ => .stuck) = _
  show ((re (some x :: Γc) st).calm.bind fun y st2 => compGo (rCon (.bl true)) re Γc xs (acc ++ [y]) st2) = _
  rw [h x List.mem_cons_self, ev_calm, ev_ok, compGo_map f xs (acc ++ [f x]) fun y hy => h y (List.mem_cons_of_mem _ hy)]
  simp
theorem comp_map {src : Src} {cap : List Nat} {re : Run} {Γ : Ga} {st : S} {items : List W} (f : W → W) (hs : src Γ st = .ok items st) (hl : items.length < sizeLine) (h : ∀ x ∈ items, re (some x :: capG cap Γ) st = .ok (f x) st) :
  runComp false src cap (rCon (.bl true)) re Γ st = .ok (.lst (items.map f)) st := by
 unfold runComp
 rw [hs, ev_ok, if_pos hl, compGo_map f items [] h, ev_ok, List.nil_append]
 exact ev_lst _ (by rw [List.length_map]; exact Nat.le_of_lt hl)
theorem bools_of {α : Type} (g : α → Bool) : ∀ xs : List α, bools (xs.map fun x => W.bl (g x)) = some (xs.map g)
 | [] => rfl
 | x :: xs => by
  show (bools (xs.map fun x => W.bl (g x))).map (g x :: ·) = _
  rw [bools_of g xs]; rfl
theorem inD_txt (z : Str) : ∀ ks : List Str, inD (.str z) (ks.map W.str) = some (ks.any fun a => a == z)
 | [] => rfl
 | k :: ks => by
  show (match eqD 12 (.str k) (.str z), inD (.str z) (ks.map W.str) with | some a, some b => some (a || b) | _, _ => none) = _
  rw [inD_txt z ks]; rfl
def abc : Str := "abcdefghijklmnopqrstuvwxyz"
def ABC : Str := "ABCDEFGHIJKLMNOPQRSTUVWXYZ"
def sm (z : Str) : Bool := (z.cps.toList.map fun c => inStr ⟨#[c]⟩ abc).all id
theorem small_run {Γ : Ga} {st : S} {z : Str} {r : Run} (hr : r Γ st = .ok (.str abc) st) (hz : z.length < sizeLine) (hr2 : ∀ w, r (some w :: []) st = .ok (.str abc) st) : runN (runsCons (runComp false (runSrc (rVar 0)) [] (rCon (.bl true)) (run2 (rVar 0) r opIn)) runsNil) opAll (some (.str z) :: Γ) st = .ok (.bl (sm z)) st := by
 rw [ev_runN, ev_cons]
 have hsrc : runSrc (rVar 0) (some (.str z) :: Γ) st = .ok (signs z) st := rfl
 have hl : (signs z).length < sizeLine := by unfold signs; rw [List.length_map]; exact hz
 have hc : runComp false (runSrc (rVar 0)) [] (rCon (.bl true)) (run2 (rVar 0) r opIn) (some (.str z) :: Γ) st = .ok (.lst ((signs z).map fun w => match w with | .str x => W.bl (inStr x abc) | w => w)) st := by
  refine comp_map _ hsrc hl fun w hw => ?_
  unfold signs at hw
  obtain ⟨c, _, rfl⟩ := List.mem_map.mp hw
  rw [ev_run2, ev_v0, ev_ok]
  show (r [some (W.str ⟨#[c]⟩)] st).bind _ = _
  rw [hr2, ev_ok]; rfl
 rw [hc, ev_ok, ev_nil, ev_ok, ev_ok]
 have e : ((signs z).map fun w => match w with | .str x => W.bl (inStr x abc) | w => w) = z.cps.toList.map fun c => W.bl (inStr ⟨#[c]⟩ abc) := by
  unfold signs; rw [List.map_map]; rfl
 rw [e]
 show (match bools (z.cps.toList.map fun c => W.bl (inStr ⟨#[c]⟩ abc)) with | some bs => R.ok (W.bl (bs.all id)) st | none => .stuck) = _
 rw [bools_of]; rfl
theorem all_small_ok (z : Str) (st : S) (hz : z.length < sizeLine) : op_all_small [.str z] st = .ok (.bl (sm z)) st := by
 unfold op_all_small
 rw [ev_op1]
 unfold r_all_small
 rw [ret_ok (small_run (z := z) rfl hz fun _ => rfl)]; rfl
inductive Th : W → Prop
 | str (z : Str) : z.length ≤ 100 → Th (.str z)
 | int (i : Int) : Th (.int i)
 | bl (b : Bool) : Th (.bl b)
 | non : Th .non
 | lst (ws : List W) : Th (.lst ws)
 | tup (ws : List W) : ws.length ≤ 1000 → (∀ w ∈ ws, Th w) → Th (.tup ws)
 | dct (ks : List Key) (ws : List W) : Th (.dct ks ws)
def short (z : Str) : Bool := if decide ((1 : Int) ≤ (z.length : Int)) = true then decide ((z.length : Int) ≤ 8) else false
theorem big100 {n : Nat} (h : n ≤ 100) : n < sizeLine := Nat.lt_of_le_of_lt h (by decide)
theorem short_run {Γ : Ga} {st : S} {z : Str} (h : z.length ≤ 100) : runC (rCon (W.int 1)) (runN (runsCons (rVar 0) runsNil) opLen) (rCon (.int 8)) opLe opLe (some (.str z) :: Γ) st = .ok (.bl (short z)) st := by
 simp only [ev_chain, ev_con, ev_ok, ev_runN, ev_cons, ev_v0, ev_nil, ev_lenS z (Nat.le_of_lt (big100 h)), ev_leI, kIf_bl]
 unfold short
 split <;> rfl
theorem is_short_str (z : Str) (st : S) (h : z.length ≤ 100) : op_is_short_text [.str z] st = .ok (.bl (short z)) st := by
 unfold op_is_short_text
 rw [ev_op1]
 unfold r_is_short_text
 have e : runAnd (runN (runsCons (rVar 0) (runsCons (rCon (.ty "str")) runsNil)) opIsi) (runC (rCon (W.int 1)) (runN (runsCons (rVar 0) runsNil) opLen) (rCon c_MOST_SIGNS) opLe opLe) (some (.str z) :: List.replicate (1 - 1) none) st = .ok (.bl (short z)) st := by
  have h1 : runN (runsCons (rVar 0) (runsCons (rCon (.ty "str")) runsNil)) opIsi (some (.str z) :: List.replicate (1 - 1) none) st = .ok (.bl true) st := rfl
  rw [ev_and, h1, ev_ok, kIf_bl, if_pos rfl]
  exact short_run h
 rw [ret_ok e]; rfl
theorem is_short_no {w : W} (st : S) (h : Th w) (hs : ∀ z, w ≠ .str z) : op_is_short_text [w] st = .ok (.bl false) st := by
 cases h with
 | str z _ => exact absurd rfl (hs z)
 | _ => rfl
def kw : List Str := ["has", "not", "less", "same", "plus", "if", "by", "is", "count", "sum", "least", "most", "why"]
def kept (z : Str) : Bool := kw.any fun a => a == z
def nameB (z : Str) : Bool := if short z = true then (if sm z = true then !kept z else false) else false
def greatB (z : Str) : Bool := inStr ⟨#[z.cps.toList.headD 0]⟩ ABC
def freeB (z : Str) : Bool := if short z = true then (if greatB z = true then sm (Txt.slice z (some 1) none) else false) else false
theorem notIn_kept (z : Str) (st : S) : opNotIn (.str z) c_KEPT_WORDS st = .ok (.bl (!kept z)) st := by
 show (match inD (.str z) (kw.map W.str) with | some r => R.ok (W.bl (!r)) st | none => .stuck) = _
 rw [inD_txt]; rfl
theorem call1 {op : OpN} {Γ : Ga} {st : S} {w w' : W} (h : op [w] st = .ok w' st) : runN (runsCons (rVar 0) runsNil) (calmOp op) (some w :: Γ) st = .ok w' st := by
 rw [ev_runN, ev_cons, ev_v0, ev_ok, ev_nil, ev_ok, ev_ok, ev_calmOp, h]; rfl
theorem is_name_str (z : Str) (st : S) (h : z.length ≤ 100) : op_is_name [.str z] st = .ok (.bl (nameB z)) st := by
 unfold op_is_name
 rw [ev_op1]
 unfold r_is_name
 have e : runAnd (runN (runsCons (rVar 0) runsNil) (calmOp op_is_short_text)) (runAnd (runN (runsCons (rVar 0) runsNil) (calmOp op_all_small)) (run2 (rVar 0) (rCon c_KEPT_WORDS) opNotIn)) (some (.str z) :: List.replicate (1 - 1) none) st = .ok (.bl (nameB z)) st := by
  rw [ev_and, call1 (is_short_str z st h), ev_ok, kIf_bl, ev_and, call1 (all_small_ok z st (big100 h)), ev_ok, kIf_bl, ev_run2, ev_v0, ev_ok, ev_con, ev_ok, notIn_kept]
  unfold nameB
  split
  ·split <;> rfl
  ·rfl
 rw [ret_ok e]; rfl
theorem is_name_no {w : W} (st : S) (h : Th w) (hs : ∀ z, w ≠ .str z) : op_is_name [w] st = .ok (.bl false) st := by
 unfold op_is_name
 rw [ev_op1]
 unfold r_is_name
 have e : runAnd (runN (runsCons (rVar 0) runsNil) (calmOp op_is_short_text)) (runAnd (runN (runsCons (rVar 0) runsNil) (calmOp op_all_small)) (run2 (rVar 0) (rCon c_KEPT_WORDS) opNotIn)) (some w :: List.replicate (1 - 1) none) st = .ok (.bl false) st := by
  rw [ev_and, call1 (is_short_no st h hs), ev_ok, kIf_bl]; rfl
 rw [ret_ok e]; rfl
theorem slice1_len (z : Str) : (Txt.slice z (some 1) none).length ≤ z.length := Txt.slice_le z _ _
theorem head_run {Γ : Ga} {st : S} {z : Str} {G : Run} (hG : ∀ Γ, G Γ st = .ok (.str ABC) st) (h : z.length ≤ 100) (hs : short z = true) : run2 (run2 (rVar 0) (rCon (W.int 0)) opIdx) G opIn (some (.str z) :: Γ) st = .ok (.bl (greatB z)) st := by
 have hl : 1 ≤ z.length := by
  unfold short at hs
  by_cases h1 : (1 : Int) ≤ (z.length : Int)
  ·omega
  ·rw [decide_eq_false h1] at hs; simp at hs
 have hl' : 0 < z.cps.toList.length := by
  have : z.cps.toList.length = z.length := by simp [Str.length]
  omega
 have ha : atI z.cps.toList (0 : Int) = some (z.cps.toList.headD 0) := by
  have := at_nat z.cps.toList 0 (z.cps.toList.headD 0) (by
   cases e : z.cps.toList with
   | nil => rw [e] at hl'; simp at hl'
   | cons a b => rfl)
  exact this
 rw [ev_run2, ev_run2, ev_v0, ev_ok, ev_con, ev_ok, ev_idxS z 0 _ (Nat.le_of_lt (big100 h)) ha, ev_ok, hG, ev_ok]
 rfl
theorem tail_run {Γ : Ga} {st : S} {z : Str} {op : OpN} (hop : ∀ y : Str, y.length < sizeLine → op [.str y] st = .ok (.bl (sm y)) st) (h : z.length ≤ 100) : runN (runsCons (runSlSN false (rVar 0) (rCon (W.int 1))) runsNil) (calmOp op) (some (.str z) :: Γ) st = .ok (.bl (sm (Txt.slice z (some 1) none))) st := by
 have e : runSlSN false (rVar 0) (rCon (W.int 1)) (some (.str z) :: Γ) st = .ok (.str (Txt.slice z (some 1) none)) st := by
  show (if z.length ≤ sizeLine then R.ok (W.str (Txt.slice z (some 1) none)) st else .stuck) = _
  rw [if_pos (Nat.le_of_lt (big100 h))]
 rw [ev_runN, ev_cons, e, ev_ok, ev_nil, ev_ok, ev_ok, ev_calmOp, hop _ (big100 (Nat.le_trans (slice1_len z) h))]; rfl
theorem is_free_str (z : Str) (st : S) (h : z.length ≤ 100) : op_is_free [.str z] st = .ok (.bl (freeB z)) st := by
 unfold op_is_free
 rw [ev_op1]
 unfold r_is_free
 have e : runAnd (runN (runsCons (rVar 0) runsNil) (calmOp op_is_short_text)) (runAnd (run2 (run2 (rVar 0) (rCon (W.int 0)) opIdx) (rCon c_GREAT_LETTERS) opIn) (runN (runsCons (runSlSN false (rVar 0) (rCon (W.int 1))) runsNil) (calmOp op_all_small))) (some (.str z) :: List.replicate (1 - 1) none) st = .ok (.bl (freeB z)) st := by
  rw [ev_and, call1 (is_short_str z st h), ev_ok, kIf_bl]
  unfold freeB
  split
  ·rename_i hs
   rw [ev_and, head_run (G := rCon c_GREAT_LETTERS) (fun _ => rfl) h hs, ev_ok, kIf_bl]
   split
   ·exact tail_run (fun y hy => all_small_ok y st hy) h
   ·rfl
  ·rfl
 rw [ret_ok e]; rfl
theorem is_free_no {w : W} (st : S) (h : Th w) (hs : ∀ z, w ≠ .str z) : op_is_free [w] st = .ok (.bl false) st := by
 unfold op_is_free
 rw [ev_op1]
 unfold r_is_free
 have e : runAnd (runN (runsCons (rVar 0) runsNil) (calmOp op_is_short_text)) (runAnd (run2 (run2 (rVar 0) (rCon (W.int 0)) opIdx) (rCon c_GREAT_LETTERS) opIn) (runN (runsCons (runSlSN false (rVar 0) (rCon (W.int 1))) runsNil) (calmOp op_all_small))) (some w :: List.replicate (1 - 1) none) st = .ok (.bl false) st := by
  rw [ev_and, call1 (is_short_no st h hs), ev_ok, kIf_bl]; rfl
 rw [ret_ok e]; rfl
def numB (i : Int) : Bool := if decide ((-999999999 : Int) ≤ i) = true then decide (i ≤ 999999999) else false
theorem is_number_int (i : Int) (st : S) : op_is_number [.int i] st = .ok (.bl (numB i)) st := by
 unfold op_is_number
 rw [ev_op1]
 unfold r_is_number
 have h1 : runN (runsCons (rVar 0) (runsCons (rCon (.ty "bool")) runsNil)) opIsi (some (.int i) :: List.replicate (1 - 1) none) st = .ok (.bl false) st := rfl
 have h2 : runN (runsCons (rVar 0) (runsCons (rCon (.ty "int")) runsNil)) opIsi (some (.int i) :: List.replicate (1 - 1) none) st = .ok (.bl true) st := rfl
 have e : runAnd (runN (runsCons (rVar 0) (runsCons (rCon (.ty "int")) runsNil)) opIsi) (runC (run1 (rCon c_MOST_NUMBER) opNeg) (rVar 0) (rCon c_MOST_NUMBER) opLe opLe) (some (.int i) :: List.replicate (1 - 1) none) st = .ok (.bl (numB i)) st := by
  rw [ev_and, h2, ev_ok, kIf_bl, if_pos rfl, ev_chain, ev_run1, ev_con, ev_ok]
  show ((R.ok (W.int (-999999999)) st).bind _) = _
  rw [ev_ok, ev_v0, ev_ok, ev_leI, ev_ok, kIf_bl]
  unfold numB
  split
  ·rw [ev_con, ev_ok]; rfl
  ·rfl
 rw [ev_seq, ev_if, h1, ev_ok, kIf_bl, if_neg Bool.false_ne_true, ev_pass, ev_ok, kSeq_nx, ret_ok e]; rfl
theorem is_number_no {w : W} (st : S) (h : Th w) (hs : ∀ i, w ≠ .int i) : op_is_number [w] st = .ok (.bl false) st := by
 cases h with
 | int i => exact absurd rfl (hs i)
 | _ => rfl
theorem is_value_of {w : W} {st : S} {a b : Bool} (h1 : op_is_name [w] st = .ok (.bl a) st) (h2 : op_is_number [w] st = .ok (.bl b) st) : op_is_value [w] st = .ok (.bl (a || b)) st := by
 unfold op_is_value
 rw [ev_op1]
 unfold r_is_value
 have e : runOr (runN (runsCons (rVar 0) runsNil) (calmOp op_is_name)) (runN (runsCons (rVar 0) runsNil) (calmOp op_is_number)) (some w :: List.replicate (1 - 1) none) st = .ok (.bl (a || b)) st := by
  rw [ev_or, call1 h1, ev_ok, kIf_bl, call1 h2]
  cases a <;> rfl
 rw [ret_ok e]; rfl
theorem is_term_of {w : W} {st : S} {a b : Bool} (h1 : op_is_value [w] st = .ok (.bl a) st) (h2 : op_is_free [w] st = .ok (.bl b) st) : op_is_term [w] st = .ok (.bl (a || b)) st := by
 unfold op_is_term
 rw [ev_op1]
 unfold r_is_term
 have e : runOr (runN (runsCons (rVar 0) runsNil) (calmOp op_is_value)) (runN (runsCons (rVar 0) runsNil) (calmOp op_is_free)) (some w :: List.replicate (1 - 1) none) st = .ok (.bl (a || b)) st := by
  rw [ev_or, call1 h1, ev_ok, kIf_bl, call1 h2]
  cases a <;> rfl
 rw [ret_ok e]; rfl
def nameW : W → Bool
 | .str z => nameB z
 | _ => false
def freeW : W → Bool
 | .str z => freeB z
 | _ => false
def numW : W → Bool
 | .int i => numB i
 | _ => false
def valueW (w : W) : Bool := nameW w || numW w
def termW (w : W) : Bool := valueW w || freeW w
theorem is_name_W {w : W} (st : S) (h : Th w) : op_is_name [w] st = .ok (.bl (nameW w)) st := by
 cases h with
 | str z hz => exact is_name_str z st hz
 | int i => exact is_name_no st (.int i) (by intro i e; cases e)
 | bl b => exact is_name_no st (.bl b) (by intro i e; cases e)
 | non => exact is_name_no st .non (by intro i e; cases e)
 | lst b => exact is_name_no st (.lst b) (by intro i e; cases e)
 | tup b h1 h2 => exact is_name_no st (.tup b h1 h2) (by intro i e; cases e)
 | dct k b => exact is_name_no st (.dct k b) (by intro i e; cases e)
theorem is_free_W {w : W} (st : S) (h : Th w) : op_is_free [w] st = .ok (.bl (freeW w)) st := by
 cases h with
 | str z hz => exact is_free_str z st hz
 | int i => exact is_free_no st (.int i) (by intro i e; cases e)
 | bl b => exact is_free_no st (.bl b) (by intro i e; cases e)
 | non => exact is_free_no st .non (by intro i e; cases e)
 | lst b => exact is_free_no st (.lst b) (by intro i e; cases e)
 | tup b h1 h2 => exact is_free_no st (.tup b h1 h2) (by intro i e; cases e)
 | dct k b => exact is_free_no st (.dct k b) (by intro i e; cases e)
theorem is_number_W {w : W} (st : S) (h : Th w) : op_is_number [w] st = .ok (.bl (numW w)) st := by
 cases h with
 | str z hz => exact is_number_no st (.str z hz) (by intro i e; cases e)
 | int i => exact is_number_int i st
 | bl b => exact is_number_no st (.bl b) (by intro i e; cases e)
 | non => exact is_number_no st .non (by intro i e; cases e)
 | lst b => exact is_number_no st (.lst b) (by intro i e; cases e)
 | tup b h1 h2 => exact is_number_no st (.tup b h1 h2) (by intro i e; cases e)
 | dct k b => exact is_number_no st (.dct k b) (by intro i e; cases e)
theorem is_value_W {w : W} (st : S) (h : Th w) : op_is_value [w] st = .ok (.bl (valueW w)) st := is_value_of (is_name_W st h) (is_number_W st h)
theorem is_term_W {w : W} (st : S) (h : Th w) : op_is_term [w] st = .ok (.bl (termW w)) st := is_term_of (is_value_W st h) (is_free_W st h)
end DL.My
namespace DL.My
open PySem L2
theorem cut_lo (ws : List W) (k : Nat) : cutW ws (some (k : Int)) none = ws.drop k := by
 unfold cutW
 rw [HT.sIx_nat, HT.sIx_none]
 by_cases h : k ≤ ws.length
 ·rw [Nat.min_eq_left h]
  exact List.take_of_length_le (by rw [List.length_drop]; omega)
 ·rw [Nat.min_eq_right (by omega), List.drop_of_length_le (Nat.le_refl _), List.drop_of_length_le (by omega)]
  simp
theorem cut_hi (ws : List W) (k : Nat) : cutW ws none (some (k : Int)) = ws.take k := by
 unfold cutW
 rw [HT.sIx_nat, HT.sIx_none, List.drop_zero, Nat.sub_zero]
 by_cases h : k ≤ ws.length
 ·rw [Nat.min_eq_left h]
 ·rw [Nat.min_eq_right (by omega), List.take_of_length_le (Nat.le_refl _), List.take_of_length_le (by omega)]
theorem cut1 (x : W) (xs : List W) : cutW (x :: xs) (some 1) none = xs := cut_lo (x :: xs) 1
theorem cut13 (x : W) (xs : List W) : cutW (x :: xs) (some 1) (some 3) = xs.take 2 := by
 unfold cutW
 rw [show (some (1 : Int)) = some ((1 : Nat) : Int) from rfl, show (some (3 : Int)) = some ((3 : Nat) : Int) from rfl, HT.sIx_nat, HT.sIx_nat, List.length_cons, Nat.min_eq_left (show 1 ≤ xs.length + 1 by omega), List.drop_succ_cons, List.drop_zero]
 by_cases h : 2 ≤ xs.length
 ·rw [Nat.min_eq_left (by omega)]
 ·rw [Nat.min_eq_right (by omega), List.take_of_length_le (by omega), List.take_of_length_le (by omega)]
theorem all_run {Γ : Ga} {st : S} {src : Src} {op : OpN} {items : List W} (f : W → Bool) (hs : src Γ st = .ok items st) (hl : items.length ≤ 1000) (h : ∀ x ∈ items, op [x] st = .ok (.bl (f x)) st) :
  runN (runsCons (runComp false src [] (rCon (.bl true)) (runN (runsCons (rVar 0) runsNil) (calmOp op))) runsNil) opAll Γ st = .ok (.bl (items.all f)) st := by
 have hc := comp_map (src := src) (cap := []) (re := runN (runsCons (rVar 0) runsNil) (calmOp op)) (Γ := Γ) (st := st) (items := items) (fun w => W.bl (f w)) hs (Nat.lt_of_le_of_lt hl (by decide)) fun x hx => call1 (h x hx)
 rw [ev_runN, ev_cons, hc, ev_ok, ev_nil, ev_ok, ev_ok]
 show (match bools (items.map fun w => W.bl (f w)) with | some bs => R.ok (W.bl (bs.all id)) st | none => .stuck) = _
 rw [bools_of]
 simp
theorem any_run {Γ : Ga} {st : S} {src : Src} {op : OpN} {items : List W} (f : W → Bool) (hs : src Γ st = .ok items st) (hl : items.length ≤ 1000) (h : ∀ x ∈ items, op [x] st = .ok (.bl (f x)) st) :
  runN (runsCons (runComp false src [] (rCon (.bl true)) (runN (runsCons (rVar 0) runsNil) (calmOp op))) runsNil) opAny Γ st = .ok (.bl (items.any f)) st := by
 have hc := comp_map (src := src) (cap := []) (re := runN (runsCons (rVar 0) runsNil) (calmOp op)) (Γ := Γ) (st := st) (items := items) (fun w => W.bl (f w)) hs (Nat.lt_of_le_of_lt hl (by decide)) fun x hx => call1 (h x hx)
 rw [ev_runN, ev_cons, hc, ev_ok, ev_nil, ev_ok, ev_ok]
 show (match bools (items.map fun w => W.bl (f w)) with | some bs => R.ok (W.bl (bs.any id)) st | none => .stuck) = _
 rw [bools_of]
 simp
def patW : W → Bool
 | .tup (x :: xs) => decide (xs.length ≤ 4) && (nameW x && xs.all termW)
 | _ => false
def factW : W → Bool
 | .tup (x :: xs) => patW (.tup (x :: xs)) && xs.all valueW
 | _ => false
theorem src_cut {Γ : Ga} {st : S} {x : W} {xs : List W} : runSrc (runSlSN false (rVar 0) (rCon (W.int 1))) (some (.tup (x :: xs)) :: Γ) st = .ok xs st := by
 have e : runSlSN false (rVar 0) (rCon (W.int 1)) (some (.tup (x :: xs)) :: Γ) st = .ok (.tup xs) st := by
  rw [ev_slSN, ev_v0, ev_ok, ev_con, ev_ok, kLo_int, ev_slT, cut1]
 unfold runSrc
 rw [e]; rfl
theorem is_pattern_W {w : W} (st : S) (h : Th w) : op_is_pattern [w] st = .ok (.bl (patW w)) st := by
 cases h with
 | tup ws hl hw =>
  cases ws with
  | nil => rfl
  | cons x xs =>
   unfold op_is_pattern
   rw [ev_op1]
   unfold r_is_pattern
   have h1 : ∀ Γ : Ga, runN (runsCons (rVar 0) (runsCons (rCon (.ty "tuple")) runsNil)) opIsi (some (.tup (x :: xs)) :: Γ) st = .ok (.bl true) st := fun _ => rfl
   have hx : ∀ y ∈ xs, Th y := fun y hy => hw y (List.mem_cons_of_mem _ hy)
   have hn := is_name_W st (hw x List.mem_cons_self)
   have ha := all_run (Γ := some (.tup (x :: xs)) :: []) termW (src_cut (Γ := []) (st := st) (x := x) (xs := xs)) (by rw [List.length_cons] at hl; omega) fun y hy => is_term_W st (hx y hy)
   have h0 : opIdx (.tup (x :: xs)) (.int 0) st = .ok x st := idx0T x xs
   have hle : (((x :: xs).length : Int) ≤ 1 + 4) ↔ xs.length ≤ 4 := by rw [List.length_cons]; omega
   have hge : (1 : Int) ≤ ((x :: xs).length : Int) := by rw [List.length_cons]; omega
   simp only [Nat.sub_self, ev_rep0]
   by_cases h4 : xs.length ≤ 4
   ·have d : decide (((x :: xs).length : Int) ≤ 1 + 4) = true := decide_eq_true (hle.mpr h4)
    simp only [EV, Nat.reduceSub, ↓h1, c_MOST_WIDTH, decide_eq_true hge, d, h0, hn, ↓ha, Bool.not_true, Bool.false_eq_true, if_true, if_false]
    show _ = R.ok (W.bl (decide (xs.length ≤ 4) && (nameW x && xs.all termW))) st
    rw [decide_eq_true h4]
    cases nameW x <;> rfl
   ·have d : decide (((x :: xs).length : Int) ≤ 1 + 4) = false := decide_eq_false fun z => h4 (hle.mp z)
    simp only [EV, Nat.reduceSub, ↓h1, c_MOST_WIDTH, decide_eq_true hge, d, Bool.not_true, Bool.not_false, Bool.false_eq_true, if_true, if_false]
    show _ = R.ok (W.bl (decide (xs.length ≤ 4) && (nameW x && xs.all termW))) st
    rw [decide_eq_false h4]; rfl
 | _ => rfl
theorem is_fact_W {w : W} (st : S) (h : Th w) : op_is_fact [w] st = .ok (.bl (factW w)) st := by
 have hp := is_pattern_W st h
 unfold op_is_fact
 rw [ev_op1]
 unfold r_is_fact
 cases e : patW w with
 | false =>
  rw [e] at hp
  have hf : factW w = false := by
   unfold factW
   split
   ·rw [e]; rfl
   ·rfl
  simp only [Nat.sub_self, ev_rep0]
  simp only [EV, Nat.reduceSub, hp, Bool.false_eq_true, if_false, hf]
 | true =>
  rw [e] at hp
  cases h with
  | tup ws hl hw =>
   cases ws with
   | nil => cases e
   | cons x xs =>
    have ha := all_run (Γ := some (.tup (x :: xs)) :: []) valueW (src_cut (Γ := []) (st := st) (x := x) (xs := xs)) (by rw [List.length_cons] at hl; omega) fun y hy => is_value_W st (hw y (List.mem_cons_of_mem _ hy))
    have hf : factW (.tup (x :: xs)) = xs.all valueW := by
     show (patW (.tup (x :: xs)) && xs.all valueW) = _
     rw [e]; rfl
    simp only [Nat.sub_self, ev_rep0]
    simp only [EV, Nat.reduceSub, hp, ↓ha, if_true, hf]
  | _ => cases e
theorem need_fact_W {w : W} (st : S) (h : Th w) : op_need_fact [w] st = if factW w = true then .ok w st else .ex (.str "BadFact") st := by
 have hf := is_fact_W st h
 unfold op_need_fact
 rw [ev_opX1]
 unfold r_need_fact
 simp only [Nat.sub_self, ev_rep0]
 cases e : factW w with
 | true =>
  rw [e] at hf
  simp only [EV, Nat.reduceSub, hf, Bool.not_true, Bool.false_eq_true, if_false, if_true]
 | false =>
  rw [e] at hf
  simp only [EV, Nat.reduceSub, hf, Bool.not_false, Bool.false_eq_true, if_false, if_true]
def headT : W → Str
 | .tup (.str z :: _) => z
 | _ => ""
theorem word_ahead_W {w : W} (st : S) (h : Th w) : op_word_ahead [w] st = .ok (.str (headT w)) st := by
  cases h with
  | tup ws hl hw =>
    cases ws with
    | nil => rfl
    | cons x xs =>
      have hx := hw x List.mem_cons_self
      have h1 : ∀ Γ : Ga, runN (runsCons (rVar 0) (runsCons (rCon (.ty "tuple")) runsNil)) opIsi (some (.tup (x :: xs)) :: Γ) st = .ok (.bl true) st := fun _ => rfl
      have h0 : opIdx (.tup (x :: xs)) (.int 0) st = .ok x st := idx0T x xs
      have hg : decide ((0 : Int) < ((x :: xs).length : Int)) = true := decide_eq_true (by rw [List.length_cons]; omega)
      unfold op_word_ahead
      rw [ev_op1]
      unfold r_word_ahead
      simp only [Nat.sub_self, ev_rep0]
      cases hx with
      | str z hz =>
        have h2 : opIsi [.str z, .ty "str"] st = .ok (.bl true) st := rfl
        simp only [EV, Nat.reduceSub, ↓h1, hg, h0, h2, if_true]
        rfl
      | int i => have h2 : opIsi [.int i, .ty "str"] st = .ok (.bl false) st := rfl
                 simp only [EV, Nat.reduceSub, ↓h1, hg, h0, h2, if_true, if_false, Bool.false_eq_true]; rfl
      | bl i => have h2 : opIsi [.bl i, .ty "str"] st = .ok (.bl false) st := rfl
                simp only [EV, Nat.reduceSub, ↓h1, hg, h0, h2, if_true, if_false, Bool.false_eq_true]; rfl
      | non => have h2 : opIsi [.non, .ty "str"] st = .ok (.bl false) st := rfl
               simp only [EV, Nat.reduceSub, ↓h1, hg, h0, h2, if_true, if_false, Bool.false_eq_true]; rfl
      | lst i => have h2 : opIsi [.lst i, .ty "str"] st = .ok (.bl false) st := rfl
                 simp only [EV, Nat.reduceSub, ↓h1, hg, h0, h2, if_true, if_false, Bool.false_eq_true]; rfl
      | tup i j k => have h2 : opIsi [.tup i, .ty "str"] st = .ok (.bl false) st := rfl
                     simp only [EV, Nat.reduceSub, ↓h1, hg, h0, h2, if_true, if_false, Bool.false_eq_true]; rfl
      | dct i j => have h2 : opIsi [.dct i j, .ty "str"] st = .ok (.bl false) st := rfl
                   simp only [EV, Nat.reduceSub, ↓h1, hg, h0, h2, if_true, if_false, Bool.false_eq_true]; rfl
  | _ => rfl
def pwB (z : Str) : Bool := z == "has" || z == "not"
def cntW (z : Str) : Option Nat := if z = "less" then some 2 else if z = "same" then some 2 else if z = "plus" then some 3 else none
def onePat : List W → Bool
 | [p] => patW p
 | _ => false
def partW : W → Bool
 | .tup (.str z :: xs) => if pwB z = true then onePat xs
  else (match cntW z with
   | some n => xs.length == n && xs.all termW
   | none => false)
 | _ => false
theorem in_pp (z : Str) (st : S) : opIn (.str z) c_PATTERN_PARTS st = .ok (.bl (pwB z)) st := by
 show (match inD (.str z) ((["has", "not"] : List Str).map W.str) with | some r => R.ok (W.bl r) st | none => .stuck) = _
 rw [inD_txt]
 show R.ok (W.bl (("has" == z) || (("not" == z) || false))) st = _
 unfold pwB
 rw [Bool.or_false, Bool.beq_comm (a := z) (b := "has"), Bool.beq_comm (a := z) (b := "not")]
theorem val_tc (z : Str) : valW ck_TERM_COUNTS cw_TERM_COUNTS (.inr z) = (cntW z).map fun n => W.int n := by
 unfold ck_TERM_COUNTS cw_TERM_COUNTS cntW
 simp only [valW, Sum.inr.injEq]
 by_cases h1 : z = "less"
 ·subst h1; rfl
 ·rw [if_neg (fun e => h1 e.symm), if_neg h1]
  by_cases h2 : z = "same"
  ·subst h2; rfl
  ·rw [if_neg (fun e => h2 e.symm), if_neg h2]
   by_cases h3 : z = "plus"
   ·subst h3; rfl
   ·rw [if_neg (fun e => h3 e.symm), if_neg h3]; rfl
theorem in_tc (z : Str) (st : S) : opInC ck_TERM_COUNTS cw_TERM_COUNTS false (.str z) st = .ok (.bl (cntW z).isSome) st := by
 show R.ok (W.bl ((valW ck_TERM_COUNTS cw_TERM_COUNTS (.inr z)).isSome != false)) st = _
 rw [val_tc]
 cases cntW z <;> rfl
theorem ix_tc (z : Str) (st : S) (n : Nat) (h : cntW z = some n) : opIdxC ck_TERM_COUNTS cw_TERM_COUNTS (.str z) st = .ok (.int n) st := by
 show (match valW ck_TERM_COUNTS cw_TERM_COUNTS (.inr z) with | some u => R.ok u st | none => .stuck) = _
 rw [val_tc, h]; rfl
theorem is_part_no {w : W} (st : S) (h : Th w) (hh : headT w = "") : op_is_part [w] st = .ok (.bl false) st := by
 have hw := word_ahead_W st h
 rw [hh] at hw
 unfold op_is_part
 rw [ev_op1]
 unfold r_is_part
 have p1 : opIn (.str "") c_PATTERN_PARTS st = .ok (.bl false) st := rfl
 have p2 : opInC ck_TERM_COUNTS cw_TERM_COUNTS false (.str "") st = .ok (.bl false) st := rfl
 simp only [EV, Nat.reduceSub, hw, p1, p2, if_false, Bool.false_eq_true]
theorem is_part_W {w : W} (st : S) (h : Th w) : op_is_part [w] st = .ok (.bl (partW w)) st := by
 by_cases hz : ∃ z xs, w = .tup (.str z :: xs)
 ·obtain ⟨z, xs, rfl⟩ := hz
  have hw := word_ahead_W st h
  cases h with
  | tup ws hl hw' =>
   have hx : ∀ y ∈ xs, Th y := fun y hy => hw' y (List.mem_cons_of_mem _ hy)
   have hw2 : op_word_ahead [.tup (.str z :: xs)] st = .ok (.str z) st := hw
   unfold op_is_part
   rw [ev_op1]
   unfold r_is_part
   cases e : pwB z with
   | true =>
    have p1 : opIn (.str z) c_PATTERN_PARTS st = .ok (.bl true) st := by rw [in_pp, e]
    have hp : partW (.tup (.str z :: xs)) = onePat xs := if_pos e
    rw [hp]
    by_cases h1 : ∃ p, xs = [p]
    ·obtain ⟨p, rfl⟩ := h1
     have i1 : opIdx (.tup [.str z, p]) (.int 1) st = .ok p st := idx1T _ _ _
     have l1 : ((([.str z, p] : List W).length : Int) == 2) = true := rfl
     simp only [EV, Nat.reduceSub, hw2, p1, if_true, l1, i1, is_pattern_W st (hx p List.mem_cons_self)]
     rfl
    ·have l1 : (((W.str z :: xs).length : Int) == 2) = false := by
      apply beq_false_of_ne
      intro q
      rw [List.length_cons] at q
      match xs, h1, q with
      | [], _, q => simp at q
      | [p], h1, _ => exact h1 ⟨p, rfl⟩
      | a :: b :: c, _, q => rw [List.length_cons, List.length_cons] at q; omega
     simp only [EV, Nat.reduceSub, hw2, p1, if_true, l1, if_false, Bool.false_eq_true]
     match xs, h1 with
     | [], _ => rfl
     | [p], h1 => exact absurd ⟨p, rfl⟩ h1
     | a :: b :: c, _ => rfl
   | false =>
    have p1 : opIn (.str z) c_PATTERN_PARTS st = .ok (.bl false) st := by rw [in_pp, e]
    have hp : partW (.tup (.str z :: xs)) = (match cntW z with | some n => xs.length == n && xs.all termW | none => false) := by
     show (if pwB z = true then _ else (match cntW z with | some n => xs.length == n && xs.all termW | none => false)) = _
     rw [e]; rfl
    rw [hp]
    cases ec : cntW z with
    | none =>
     have p2 : opInC ck_TERM_COUNTS cw_TERM_COUNTS false (.str z) st = .ok (.bl false) st := by rw [in_tc, ec]; rfl
     simp only [EV, Nat.reduceSub, hw2, p1, p2, if_false, Bool.false_eq_true]
    | some n =>
     have p2 : opInC ck_TERM_COUNTS cw_TERM_COUNTS false (.str z) st = .ok (.bl true) st := by rw [in_tc, ec]; rfl
     have ha := all_run (Γ := [some (.tup (.str z :: xs)), some (.str z)]) termW (src_cut (Γ := [some (.str z)]) (st := st) (x := .str z) (xs := xs)) (by rw [List.length_cons] at hl; omega) fun y hy => is_term_W st (hx y hy)
     have l1 : (((W.str z :: xs).length : Int) == 1 + (n : Int)) = (xs.length == n) := by
      rw [List.length_cons]
      rw [Bool.eq_iff_iff]
      simp only [beq_iff_eq]
      omega
     simp only [EV, Nat.reduceSub, hw2, p1, p2, if_false, Bool.false_eq_true, if_true, ix_tc z st n ec, l1, ↓ha]
     cases xs.length == n <;> rfl
 ·rw [is_part_no st h ?_]
  ·have : partW w = false := by
    unfold partW
    split
    ·exact absurd ⟨_, _, rfl⟩ hz
    ·rfl
   rw [this]
  ·unfold headT
   split
   ·exact absurd ⟨_, _, rfl⟩ hz
   ·rfl
def bodyW : W → Bool
 | .tup ws => decide (1 ≤ ws.length ∧ ws.length ≤ 6) && ws.all partW
 | _ => false
theorem is_body_W {w : W} (st : S) (h : Th w) : op_is_body [w] st = .ok (.bl (bodyW w)) st := by
 cases h with
 | tup ws hl hw =>
  have h1 : ∀ Γ : Ga, runN (runsCons (rVar 0) (runsCons (rCon (.ty "tuple")) runsNil)) opIsi (some (.tup ws) :: Γ) st = .ok (.bl true) st := fun _ => rfl
  have ha := all_run (Γ := [some (.tup ws)]) partW (src := runSrc (rVar 0)) (items := ws) (st := st) rfl hl fun y hy => is_part_W st (hw y hy)
  unfold op_is_body
  rw [ev_op1]
  unfold r_is_body
  simp only [Nat.sub_self, ev_rep0]
  by_cases c1 : 1 ≤ ws.length
  ·have d1 : decide ((1 : Int) ≤ (ws.length : Int)) = true := decide_eq_true (by omega)
   by_cases c2 : ws.length ≤ 6
   ·have d2 : decide ((ws.length : Int) ≤ 6) = true := decide_eq_true (by omega)
    simp only [EV, Nat.reduceSub, ↓h1, c_MOST_PARTS, d1, d2, ↓ha, Bool.not_true, Bool.false_eq_true, if_true, if_false]
    show _ = R.ok (W.bl (decide (1 ≤ ws.length ∧ ws.length ≤ 6) && ws.all partW)) st
    rw [decide_eq_true ⟨c1, c2⟩]; rfl
   ·have d2 : decide ((ws.length : Int) ≤ 6) = false := decide_eq_false (by omega)
    simp only [EV, Nat.reduceSub, ↓h1, c_MOST_PARTS, d1, d2, Bool.not_true, Bool.not_false, Bool.false_eq_true, if_true, if_false]
    show _ = R.ok (W.bl (decide (1 ≤ ws.length ∧ ws.length ≤ 6) && ws.all partW)) st
    rw [decide_eq_false (fun z => c2 z.2)]; rfl
  ·have d1 : decide ((1 : Int) ≤ (ws.length : Int)) = false := decide_eq_false (by omega)
   simp only [EV, Nat.reduceSub, ↓h1, c_MOST_PARTS, d1, Bool.not_true, Bool.not_false, Bool.false_eq_true, if_true, if_false]
   show _ = R.ok (W.bl (decide (1 ≤ ws.length ∧ ws.length ≤ 6) && ws.all partW)) st
   rw [decide_eq_false (fun z => c1 z.1)]; rfl
 | _ => rfl
end DL.My
namespace DL.My
open PySem L2
theorem compGo_filter {rt : Run} {Γc : Ga} {st : S} (p : W → Bool) : ∀ (items acc : List W), (∀ x ∈ items, rt (some x :: Γc) st = .ok (.bl (p x)) st) → compGo rt (rVar 0) Γc items acc st = .ok (acc ++ items.filter p) st
 | [], acc, _ => by simp [compGo]
 | x :: xs, acc, h => by
  have hx := h x List.mem_cons_self
  have ih := fun acc => compGo_filter p xs acc fun y hy => h y (List.mem_cons_of_mem _ hy)
  show ((rt (some x :: Γc) st).calm.bind fun b st1 => match b with
   | .bl true => (rVar 0 (some x :: Γc) st1).calm.bind fun y st2 => compGo rt (rVar 0) Γc xs (acc ++ [y]) st2
   | .bl false => compGo rt (rVar 0) Γc xs acc st1
   | _ => .stuck) = _
  rw [hx, ev_calm, ev_ok]
  cases e : p x with
  | true =>
   show ((rVar 0 (some x :: Γc) st).calm.bind fun y st2 => compGo rt (rVar 0) Γc xs (acc ++ [y]) st2) = _
   rw [ev_v0, ev_calm, ev_ok, ih, List.filter_cons_of_pos e]
   simp
  | false =>
   show compGo rt (rVar 0) Γc xs acc st = _
   rw [ih, List.filter_cons_of_neg (by rw [e]; exact Bool.false_ne_true)]
def frS : W → Option Str
 | .str z => if freeB z = true then some z else none
 | _ => none
def frees (ws : List W) : List Str := ws.filterMap frS
theorem filter_free (ws : List W) : ws.filter freeW = (frees ws).map W.str := by
 induction ws with
 | nil => rfl
 | cons w ws ih =>
  unfold frees at ih ⊢
  cases e : freeW w with
  | true =>
   cases w with
   | str z =>
    have e' : frS (.str z) = some z := if_pos e
    rw [List.filter_cons_of_pos e, List.filterMap_cons, e', List.map_cons, ih]
   | _ => cases e
  | false =>
   have e' : frS w = none := by
    cases w with
    | str z => exact if_neg (by rw [show freeB z = false from e]; exact Bool.false_ne_true)
    | _ => rfl
   rw [List.filter_cons_of_neg (by rw [e]; exact Bool.false_ne_true), List.filterMap_cons, e', ih]
theorem frees_short {ws : List W} {z : Str} (h : z ∈ frees ws) : z.length ≤ 8 := by
 obtain ⟨w, _, e⟩ := List.mem_filterMap.mp h
 cases w with
 | str y =>
  have e : (if freeB y = true then some y else none) = some z := e
  by_cases hf : freeB y = true
  ·rw [if_pos hf] at e
   cases e
   unfold freeB at hf
   by_cases hs : short z = true
   ·unfold short at hs
    by_cases h1 : (1 : Int) ≤ (z.length : Int)
    ·rw [decide_eq_true h1, if_pos rfl] at hs
     have := of_decide_eq_true hs
     omega
    ·rw [decide_eq_false h1] at hs; cases hs
   ·rw [if_neg hs] at hf; cases hf
  ·rw [if_neg hf] at e; cases e
 | _ => cases e
theorem frees_len (ws : List W) : (frees ws).length ≤ ws.length := List.length_filterMap_le _ _
theorem free_among_W {w : W} {ws : List W} (st : S) (hs : srcOf w = some ws) (hl : ws.length ≤ 1000) (hw : ∀ y ∈ ws, Th y) : op_free_among [w] st = .ok (.lst ((frees ws).map W.str)) st := by
 unfold op_free_among
 rw [ev_op1]
 unfold r_free_among
 have e : runComp false (runSrc (rVar 0)) [] (runN (runsCons (rVar 0) runsNil) (calmOp op_is_free)) (rVar 0) (some w :: List.replicate (1 - 1) none) st = .ok (.lst ((frees ws).map W.str)) st := by
  unfold runComp
  have h1 : runSrc (rVar 0) (some w :: List.replicate (1 - 1) none) st = .ok ws st := by
   unfold runSrc
   rw [ev_v0, ev_ok, hs]
  rw [h1, ev_ok, if_pos (Nat.lt_of_le_of_lt hl (by decide)), compGo_filter freeW ws [] fun x hx => call1 (is_free_W st (hw x hx)), ev_ok, List.nil_append, filter_free]
  exact ev_lst _ (by rw [List.length_map]; exact Nat.le_trans (frees_len ws) (size_small hl))
 rw [ret_ok e]; rfl
def wordsP : W → List Str
 | .tup (.str z :: xs) => if pwB z = true then (match xs with
   | [.tup (_ :: ts)] => frees ts
   | _ => [])
  else frees xs
 | _ => []
def wantedP : W → List Str
 | .tup (.str z :: xs) => if z = "has" then [] else if z = "plus" then frees (xs.take 2) else wordsP (.tup (.str z :: xs))
 | _ => []
theorem part_shape {w : W} (h : Th w) (hp : partW w = true) : ∃ z xs, w = .tup (.str z :: xs) ∧ z.length ≤ 100 ∧ xs.length ≤ 1000 ∧ (∀ y ∈ xs, Th y) ∧ ((pwB z = true ∧ ∃ n ts, xs = [.tup (n :: ts)] ∧ ts.length ≤ 4 ∧ ∀ y ∈ ts, Th y) ∨ (pwB z = false ∧ ∃ n, cntW z = some n ∧ xs.length = n)) := by
 unfold partW at hp
 split at hp
 ·rename_i z xs
  cases h with
  | tup ws hl hw =>
   have hx : ∀ y ∈ xs, Th y := fun y hy => hw y (List.mem_cons_of_mem _ hy)
   have hz : z.length ≤ 100 := by
    have := hw (.str z) List.mem_cons_self
    cases this; assumption
   refine ⟨z, xs, rfl, hz, by rw [List.length_cons] at hl; omega, hx, ?_⟩
   cases e : pwB z with
   | true =>
    rw [e, if_pos rfl] at hp
    unfold onePat at hp
    split at hp
    ·rename_i p
     unfold patW at hp
     split at hp
     ·rename_i n ts
      refine .inl ⟨rfl, n, ts, rfl, ?_, fun y hy => ?_⟩
      ·simp only [Bool.and_eq_true, decide_eq_true_eq] at hp; exact hp.1
      ·have := hx _ List.mem_cons_self
       cases this with
       | tup _ _ h3 => exact h3 y (List.mem_cons_of_mem _ hy)
     ·cases hp
    ·cases hp
   | false =>
    rw [e, if_neg Bool.false_ne_true] at hp
    split at hp
    ·rename_i n hn
     simp only [Bool.and_eq_true, beq_iff_eq] at hp
     exact .inr ⟨rfl, n, hn, hp.1⟩
    ·cases hp
 ·cases hp
theorem words_of_part_W {w : W} (st : S) (h : Th w) (hp : partW w = true) : op_words_of_part [w] st = .ok (.lst ((wordsP w).map W.str)) st := by
 obtain ⟨z, xs, rfl, hz, hl, hx, hc⟩ := part_shape h hp
 have i0 : opIdx (.tup (.str z :: xs)) (.int 0) st = .ok (.str z) st := idx0T _ _
 unfold op_words_of_part
 rw [ev_op1]
 unfold r_words_of_part
 simp only [Nat.sub_self, ev_rep0]
 rcases hc with ⟨e, n, ts, rfl, hts, hth⟩ | ⟨e, n, hn, hxl⟩
 ·have i1 : opIdx (.tup [.str z, .tup (n :: ts)]) (.int 1) st = .ok (.tup (n :: ts)) st := idx1T _ _ _
  have hw : wordsP (.tup [.str z, .tup (n :: ts)]) = frees ts := by
   show (if pwB z = true then frees ts else _) = _
   rw [if_pos e]
  simp only [EV, Nat.reduceSub, i0, in_pp, e, if_true, i1, cut1, free_among_W (w := .tup ts) st rfl (by omega) hth, hw]
 ·have hw : wordsP (.tup (.str z :: xs)) = frees xs := by
   show (if pwB z = true then _ else frees xs) = _
   rw [e]; rfl
  simp only [EV, Nat.reduceSub, i0, in_pp, e, if_false, Bool.false_eq_true, cut1, free_among_W (w := .tup xs) st rfl hl hx, hw]
theorem wanted_by_W {w : W} (st : S) (h : Th w) (hp : partW w = true) : op_wanted_by [w] st = .ok (.lst ((wantedP w).map W.str)) st := by
 have hwo := words_of_part_W st h hp
 obtain ⟨z, xs, rfl, hz, hl, hx, hc⟩ := part_shape h hp
 have i0 : opIdx (.tup (.str z :: xs)) (.int 0) st = .ok (.str z) st := idx0T _ _
 unfold op_wanted_by
 rw [ev_op1]
 unfold r_wanted_by
 simp only [Nat.sub_self, ev_rep0]
 by_cases h1 : z = "has"
 ·have b1 : (z == ("has" : Str)) = true := by rw [h1]; rfl
  have hw : wantedP (.tup (.str z :: xs)) = [] := if_pos h1
  simp only [EV, Nat.reduceSub, i0, b1, if_true, hw]
  rfl
 ·have b1 : (z == ("has" : Str)) = false := beq_false_of_ne h1
  by_cases h2 : z = "plus"
  ·have b2 : (z == ("plus" : Str)) = true := by rw [h2]; rfl
   have hw : wantedP (.tup (.str z :: xs)) = frees (xs.take 2) := by
    show (if z = "has" then _ else if z = "plus" then frees (xs.take 2) else _) = _
    rw [if_neg h1, if_pos h2]
   have hs : runSlSS false (rVar 0) (rCon (W.int 1)) (rCon (W.int 3)) [some (.tup (.str z :: xs))] st = .ok (.tup (xs.take 2)) st := by
    show R.ok (W.tup (cutW (.str z :: xs) (some 1) (some 3))) st = _
    rw [cut13]
   simp only [EV, Nat.reduceSub, i0, b1, b2, if_false, if_true, Bool.false_eq_true, ↓hs, free_among_W (w := .tup (xs.take 2)) st rfl (by rw [List.length_take]; omega) (fun y hy => hx y (List.mem_of_mem_take hy)), hw]
  ·have b2 : (z == ("plus" : Str)) = false := beq_false_of_ne h2
   have hw : wantedP (.tup (.str z :: xs)) = wordsP (.tup (.str z :: xs)) := by
    show (if z = "has" then _ else if z = "plus" then _ else wordsP (.tup (.str z :: xs))) = _
    rw [if_neg h1, if_neg h2]
   simp only [EV, Nat.reduceSub, i0, b1, b2, if_false, Bool.false_eq_true, hwo, hw]
theorem words_short {w : W} {z : Str} (h : z ∈ wordsP w) : z.length ≤ 8 := by
 unfold wordsP at h
 split at h
 ·split at h
  ·split at h
   ·exact frees_short h
   ·cases h
  ·exact frees_short h
 ·cases h
theorem wanted_short {w : W} {z : Str} (h : z ∈ wantedP w) : z.length ≤ 8 := by
 unfold wantedP at h
 split at h
 ·split at h
  ·cases h
  ·split at h
   ·exact frees_short h
   ·exact words_short h
 ·cases h
def allIn (zs bs : List Str) : Bool := zs.all fun z => bs.any fun b => b == z
def boundBody : RunS := sSeq (sIf (run2 (rVar 2) (rVar 1) opNotIn) (sSeq (sRaise "Unbound" (runsCons (runJ [(rCon (W.str "the free word ")), (run1 (rVar 2) opFmt), (rCon (W.str " is not bound"))] Str.empty) runsNil)) sPass) sPass) sPass
theorem notIn_strs {st : S} {b : W} {bs : List Str} (hb : itemsOf st b = some (bs.map W.str)) (z : Str) : opNotIn (.str z) b st = .ok (.bl (!(bs.any fun a => a == z))) st := by
 have e : inW st (.str z) b = some (bs.any fun a => a == z) := by
  cases b with
  | lst xs => show inD (.str z) xs = _; cases hb; exact inD_txt z bs
  | tup xs => show inD (.str z) xs = _; cases hb; exact inD_txt z bs
  | ref n =>
   show (match MO.items (st.mu n) with | some ys => inD (.str z) ys | none => none) = _
   rw [show MO.items (st.mu n) = some (bs.map W.str) from hb]; exact inD_txt z bs
  | _ => cases hb
 have e0 : inDct st (.str z) b = none := by
  unfold inDct
  cases b with
  | ref n =>
   show (match some (Sum.inr z : Key), (match st.mu n with | some (.dct ks ws) => some (ks, ws) | _ => none) with | some k, some (ks, ws) => some (valW ks ws k).isSome | _, _ => none) = none
   have hb : MO.items (st.mu n) = some (bs.map W.str) := hb
   cases em : st.mu n with
   | none => rfl
   | some o => cases o with
    | lst xs => rfl
    | dct ks ws => rw [em] at hb; cases hb
  | dct ks ws => cases hb
  | _ => rfl
 unfold opNotIn
 rw [e0]
 show opNotIn0 (.str z) b st = _
 unfold opNotIn0
 rw [e]
theorem joined3 (a c z : Str) (w0 b : Option W) (st : S) (ha : a.length ≤ 100) (hc : c.length ≤ 100) (hz : z.length ≤ 100) : ∃ y, runJ [rCon (W.str a), run1 (rVar 2) opFmt, rCon (W.str c)] Str.empty [w0, b, some (.str z)] st = .ok (.str y) st := by
 have n0 : Str.empty.length = 0 := rfl
 have l1 : (Str.empty ++ a).length ≤ sizeLine := by rw [Str.length_append, n0]; exact size_small (by omega)
 have l2 : (Str.empty ++ a ++ z).length ≤ sizeLine := by rw [Str.length_append, Str.length_append, n0]; exact size_small (by omega)
 have l3 : (Str.empty ++ a ++ z ++ c).length ≤ sizeLine := by rw [Str.length_append, Str.length_append, Str.length_append, n0]; exact size_small (by omega)
 have l4 : z.length ≤ sizeLine := size_small (by omega)
 refine ⟨Str.empty ++ a ++ z ++ c, ?_⟩
 show (if (Str.empty ++ a).length ≤ sizeLine then ((if z.length ≤ sizeLine then R.ok (W.str z) st else .stuck).bind fun w st1 => match w with
  | .str y => if (Str.empty ++ a ++ y).length ≤ sizeLine then runJ [rCon (W.str c)] (Str.empty ++ a ++ y) [w0, b, some (.str z)] st1 else .stuck
  | _ => .stuck) else .stuck) = _
 rw [if_pos l1, if_pos l4, ev_ok]
 show (if (Str.empty ++ a ++ z).length ≤ sizeLine then (if (Str.empty ++ a ++ z ++ c).length ≤ sizeLine then (if (Str.empty ++ a ++ z ++ c).length ≤ sizeLine then R.ok (W.str (Str.empty ++ a ++ z ++ c)) st else .stuck) else .stuck) else .stuck) = _
 rw [if_pos l2, if_pos l3, if_pos l3]
theorem bound_loop {b : W} {bs : List Str} {w0 : Option W} (st : S) (hb : itemsOf st b = some (bs.map W.str)) : ∀ (zs : List Str) (x0 : Option W), (∀ z ∈ zs, z.length ≤ 8) →
  (allIn zs bs = true ∧ ∃ x1, loopS 2 boundBody (zs.map W.str) [w0, some b, x0] st = .ok (.nx [w0, some b, x1]) st) ∨ (allIn zs bs = false ∧ loopS 2 boundBody (zs.map W.str) [w0, some b, x0] st = .ex (.str "Unbound") st)
 | [], x0, _ => .inl ⟨rfl, x0, rfl⟩
 | z :: zs, x0, h => by
  have hn := notIn_strs hb z
  have hz := h z List.mem_cons_self
  have e0 : loopS 2 boundBody ((z :: zs).map W.str) [w0, some b, x0] st = (boundBody [w0, some b, some (.str z)] st).bind fun fl st' => match fl with
   | .nx Γ' => loopS 2 boundBody (zs.map W.str) Γ' st'
   | .ct Γ' => loopS 2 boundBody (zs.map W.str) Γ' st'
   | .bk Γ' => .ok (.nx Γ') st'
   | .rt w => .ok (.rt w) st' := rfl
  cases e : (bs.any fun a => a == z) with
  | true =>
   have hb1 : boundBody [w0, some b, some (.str z)] st = .ok (.nx [w0, some b, some (.str z)]) st := by
    unfold boundBody
    simp only [EV, Nat.reduceSub, hn, e, Bool.not_true, if_false, Bool.false_eq_true]
   rw [e0, hb1, ev_ok]
   have ea : allIn (z :: zs) bs = allIn zs bs := by
    unfold allIn
    rw [List.all_cons, e, Bool.true_and]
   rw [ea]
   exact bound_loop st hb zs (some (.str z)) fun y hy => h y (List.mem_cons_of_mem _ hy)
  | false =>
   obtain ⟨y, hj⟩ := joined3 "the free word " " is not bound" z w0 (some b) st (by decide) (by decide) (by omega)
   have hb1 : boundBody [w0, some b, some (.str z)] st = .ex (.str "Unbound") st := by
    unfold boundBody
    simp only [EV, Nat.reduceSub, hn, e, Bool.not_false, if_true, ↓hj]
   refine .inr ⟨?_, ?_⟩
   ·unfold allIn
    rw [List.all_cons, e]; rfl
   ·rw [e0, hb1]; rfl
theorem need_bound_W {b : W} {bs zs : List Str} (st : S) (hb : itemsOf st b = some (bs.map W.str)) (h : ∀ z ∈ zs, z.length ≤ 8) : op_need_bound [.lst (zs.map W.str), b] st = if allIn zs bs = true then .ok .non st else .ex (.str "Unbound") st := by
 unfold op_need_bound
 rw [ev_opX2]
 unfold r_need_bound
 show leaveX false st (sSeq (sFor 2 (runSrc (rVar 0)) boundBody) sPass [some (.lst (zs.map W.str)), some b, none] st) = _
 have hs : runSrc (rVar 0) [some (.lst (zs.map W.str)), some b, none] st = .ok (zs.map W.str) st := rfl
 rcases bound_loop (w0 := some (.lst (zs.map W.str))) st hb zs none h with ⟨e, x1, el⟩ | ⟨e, el⟩
 ·rw [ev_seq, ev_for, hs, ev_ok, el, e]; rfl
 ·rw [ev_seq, ev_for, hs, ev_ok, el, e]; rfl
def boundParts : List W → List Str → Bool
 | [], _ => true
 | p :: ps, bs => allIn (wantedP p) bs && boundParts ps (bs ++ wordsP p)
theorem new_put (st : S) (a b : MO) : (st.new a).put st.nxt b = st.new b := by
 unfold S.put S.new
 congr 1
 funext m
 by_cases h : m = st.nxt <;> simp [h]
theorem new_at (st : S) (a : MO) : (st.new a).mu st.nxt = some a := if_pos rfl
theorem new_old (st : S) (a : MO) : ∀ n, n < st.nxt → (st.new a).mu n = st.mu n := fun n h => if_neg (Nat.ne_of_lt h)
noncomputable def partsBody : RunS := sSeq (sDrop (runN (runsCons (runN (runsCons (rVar 2) runsNil) (calmOp op_wanted_by)) (runsCons (rVar 1) runsNil)) op_need_bound))
 (sSeq (sDrop (runM "list" (rVar 1) (runsCons (runN (runsCons (rVar 2) runsNil) (calmOp op_words_of_part)) runsNil) opExtend)) sPass)
theorem words_len {w : W} (h : Th w) (hp : partW w = true) : (wordsP w).length ≤ 4 := by
 obtain ⟨z, xs, rfl, hz, hl, hx, hc⟩ := part_shape h hp
 rcases hc with ⟨e, n, ts, rfl, hts, hth⟩ | ⟨e, n, hn, hxl⟩
 ·have hw : wordsP (.tup [.str z, .tup (n :: ts)]) = frees ts := by
   show (if pwB z = true then frees ts else _) = _
   rw [if_pos e]
  rw [hw]; exact Nat.le_trans (frees_len ts) hts
 ·have hw : wordsP (.tup (.str z :: xs)) = frees xs := by
   show (if pwB z = true then _ else frees xs) = _
   rw [e]; rfl
  have hn3 : n ≤ 3 := by
   unfold cntW at hn
   repeat' split at hn
   all_goals first | (cases hn; decide) | cases hn
  rw [hw]
  exact Nat.le_trans (frees_len xs) (by omega)
theorem parts_loop (st : S) (w0 : Option W) : ∀ (ps : List W) (bs : List Str) (x0 : Option W), (∀ p ∈ ps, Th p ∧ partW p = true) → bs.length + 4 * ps.length ≤ 1000 →
  (boundParts ps bs = true ∧ ∃ (x1 : Option W) (cs : List Str), loopS 2 partsBody ps [w0, some (.ref st.nxt), x0] (st.new (.lst (bs.map W.str))) = .ok (.nx [w0, some (.ref st.nxt), x1]) (st.new (.lst (cs.map W.str)))) ∨
  (boundParts ps bs = false ∧ ∃ (cs : List W), loopS 2 partsBody ps [w0, some (.ref st.nxt), x0] (st.new (.lst (bs.map W.str))) = .ex (.str "Unbound") (st.new (.lst cs)))
 | [], bs, x0, _, _ => .inl ⟨rfl, x0, bs, rfl⟩
 | p :: ps, bs, x0, h, hl => by
  obtain ⟨hp1, hp2⟩ := h p List.mem_cons_self
  rw [List.length_cons] at hl
  have hw := words_len hp1 hp2
  have e0 : loopS 2 partsBody (p :: ps) [w0, some (.ref st.nxt), x0] (st.new (.lst (bs.map W.str))) = (partsBody [w0, some (.ref st.nxt), some p] (st.new (.lst (bs.map W.str)))).bind fun fl st' => match fl with
   | .nx Γ' => loopS 2 partsBody ps Γ' st'
   | .ct Γ' => loopS 2 partsBody ps Γ' st'
   | .bk Γ' => .ok (.nx Γ') st'
   | .rt w => .ok (.rt w) st' := rfl
  have hit : itemsOf (st.new (.lst (bs.map W.str))) (.ref st.nxt) = some (bs.map W.str) := by
   show MO.items ((st.new (.lst (bs.map W.str))).mu st.nxt) = _
   rw [new_at]; rfl
  have hnb := need_bound_W (zs := wantedP p) (st.new (.lst (bs.map W.str))) hit fun z hz => wanted_short hz
  cases e : allIn (wantedP p) bs with
  | true =>
   rw [e, if_pos rfl] at hnb
   have hm : runM "list" (rVar 1) (runsCons (runN (runsCons (rVar 2) runsNil) (calmOp op_words_of_part)) runsNil) opExtend [w0, some (.ref st.nxt), some p] (st.new (.lst (bs.map W.str))) = .ok .non (st.new (.lst ((bs ++ wordsP p).map W.str))) := by
    unfold runM
    have hk : kindW (st.new (.lst (bs.map W.str))) (.ref st.nxt) = some "list" := by
     show MO.kind ((st.new (.lst (bs.map W.str))).mu st.nxt) = _
     rw [new_at]; rfl
    rw [ev_v1, ev_ok, if_pos hk]
    simp only [EV, Nat.reduceSub, words_of_part_W _ hp1 hp2]
    show (match (st.new (.lst (bs.map W.str))).mu st.nxt, some ((wordsP p).map W.str) with
     | some (.lst xs), some zs => if xs.length + zs.length ≤ sizeLine then R.ok W.non ((st.new (.lst (bs.map W.str))).put st.nxt (.lst (xs ++ zs))) else .stuck
     | _, _ => .stuck) = _
    rw [new_at]
    show (if (bs.map W.str).length + ((wordsP p).map W.str).length ≤ sizeLine then R.ok W.non ((st.new (.lst (bs.map W.str))).put st.nxt (.lst (bs.map W.str ++ (wordsP p).map W.str))) else .stuck) = _
    rw [if_pos (by rw [List.length_map, List.length_map]; exact size_small (by omega)), new_put, List.map_append]
   have hb1 : partsBody [w0, some (.ref st.nxt), some p] (st.new (.lst (bs.map W.str))) = .ok (.nx [w0, some (.ref st.nxt), some p]) (st.new (.lst ((bs ++ wordsP p).map W.str))) := by
    unfold partsBody
    simp only [EV, Nat.reduceSub, wanted_by_W _ hp1 hp2, hnb, ↓hm]
   have eb : boundParts (p :: ps) bs = boundParts ps (bs ++ wordsP p) := by
    show (allIn (wantedP p) bs && boundParts ps (bs ++ wordsP p)) = _
    rw [e, Bool.true_and]
   rw [e0, hb1, ev_ok, eb]
   exact parts_loop st w0 ps (bs ++ wordsP p) (some p) (fun q hq => h q (List.mem_cons_of_mem _ hq)) (by rw [List.length_append]; omega)
  | false =>
   rw [e, if_neg Bool.false_ne_true] at hnb
   have hb1 : partsBody [w0, some (.ref st.nxt), some p] (st.new (.lst (bs.map W.str))) = .ex (.str "Unbound") (st.new (.lst (bs.map W.str))) := by
    unfold partsBody
    simp only [EV, Nat.reduceSub, wanted_by_W _ hp1 hp2, hnb]
   refine .inr ⟨?_, bs.map W.str, ?_⟩
   ·show (allIn (wantedP p) bs && boundParts ps (bs ++ wordsP p)) = _
    rw [e]; rfl
   ·rw [e0, hb1]; rfl
theorem need_bound_parts_W {ps : List W} (st : S) (h : ∀ p ∈ ps, Th p ∧ partW p = true) (hl : ps.length ≤ 200) : op_need_bound_parts [.tup ps] st = if boundParts ps [] = true then .ok .non st else .ex (.str "Unbound") st := by
 unfold op_need_bound_parts
 rw [ev_opX1]
 unfold r_need_bound_parts
 show leaveX true st (sSeq (sSet 1 (runN runsNil (opL true))) (sSeq (sFor 2 (runSrc (rVar 0)) partsBody) sPass) [some (.tup ps), none, none] st) = _
 have hn : runN runsNil (opL true) [some (.tup ps), none, none] st = .ok (.ref st.nxt) (st.new (.lst [])) := rfl
 have hs : runSrc (rVar 0) [some (.tup ps), some (.ref st.nxt), none] (st.new (.lst [])) = .ok ps (st.new (.lst [])) := rfl
 rw [ev_seq, ev_s1, hn, ev_ok, ev_ok, kSeq_nx, ev_seq, ev_for, hs, ev_ok]
 rcases parts_loop st (some (.tup ps)) ps [] none h (by simp; omega) with ⟨e, x1, cs, el⟩ | ⟨e, cs, el⟩
 ·rw [show (st.new (.lst [])) = st.new (.lst (([] : List Str).map W.str)) from rfl, el, e]
  show leaveX true st (.ok (.nx _) (st.new (.lst (cs.map W.str)))) = _
  rw [ev_nxXK, keep_pos (new_old st _) rfl]; rfl
 ·rw [show (st.new (.lst [])) = st.new (.lst (([] : List Str).map W.str)) from rfl, el, e]
  show leaveX true st (.ex (.str "Unbound") (st.new (.lst cs))) = _
  rw [ev_exXK, keepX_pos (new_old st _)]; rfl
theorem need_body_W {w : W} (st : S) (h : Th w) : op_need_body [w] st = if bodyW w = true then (match w with | .tup ps => if boundParts ps [] = true then .ok w st else .ex (.str "Unbound") st | _ => .stuck) else .ex (.str "BadRule") st := by
 have hb := is_body_W st h
 unfold op_need_body
 rw [ev_opX1]
 unfold r_need_body
 simp only [Nat.sub_self, ev_rep0]
 cases e : bodyW w with
 | false =>
  rw [e] at hb
  simp only [EV, Nat.reduceSub, hb, Bool.not_false, if_true, if_false, Bool.false_eq_true]
 | true =>
  rw [e] at hb
  cases h with
  | tup ps hl hw =>
   have e' := e
   unfold bodyW at e'
   simp only [Bool.and_eq_true, decide_eq_true_eq, List.all_eq_true] at e'
   have hn := need_bound_parts_W st (fun p hp => ⟨hw p hp, e'.2 p hp⟩) (by omega)
   cases eb : boundParts ps [] with
   | true =>
    rw [eb, if_pos rfl] at hn
    simp only [EV, Nat.reduceSub, hb, Bool.not_true, if_false, if_true, Bool.false_eq_true, hn, eb]
   | false =>
    rw [eb, if_neg Bool.false_ne_true] at hn
    simp only [EV, Nat.reduceSub, hb, Bool.not_true, if_false, if_true, Bool.false_eq_true, hn, eb]
  | _ => cases e
end DL.My
namespace DL.My
open PySem L2
theorem compGo_ex {re : Run} {Γc : Ga} {st : S} (P : W → Prop) : ∀ (items acc : List W), (∀ x ∈ items, ∃ y, P y ∧ re (some x :: Γc) st = .ok y st) → ∃ ys : List W, ys.length = items.length ∧ (∀ y ∈ ys, P y) ∧ compGo (rCon (.bl true)) re Γc items acc st = .ok (acc ++ ys) st
 | [], acc, _ => ⟨[], rfl, (fun y h => by cases h), by simp [compGo]⟩
 | x :: xs, acc, h => by
  obtain ⟨y, hy, e⟩ := h x List.mem_cons_self
  obtain ⟨ys, h1, h2, h3⟩ := compGo_ex P xs (acc ++ [y]) fun z hz => h z (List.mem_cons_of_mem _ hz)
  refine ⟨y :: ys, by rw [List.length_cons, List.length_cons, h1], fun z hz => ?_, ?_⟩
  ·rcases List.mem_cons.mp hz with rfl | hz
   ·exact hy
   ·exact h2 z hz
  ·show ((re (some x :: Γc) st).calm.bind fun y st2 => compGo (rCon (.bl true)) re Γc xs (acc ++ [y]) st2) = _
   rw [e, ev_calm, ev_ok, h3]
   simp
theorem comp_ex {src : Src} {cap : List Nat} {re : Run} {Γ : Ga} {st : S} {items : List W} (P : W → Prop) (hs : src Γ st = .ok items st) (hl : items.length ≤ 1000) (h : ∀ x ∈ items, ∃ y, P y ∧ re (some x :: capG cap Γ) st = .ok y st) :
  ∃ ys : List W, ys.length = items.length ∧ (∀ y ∈ ys, P y) ∧ runComp false src cap (rCon (.bl true)) re Γ st = .ok (.lst ys) st := by
 obtain ⟨ys, h1, h2, h3⟩ := compGo_ex P items [] h
 refine ⟨ys, h1, h2, ?_⟩
 unfold runComp
 rw [hs, ev_ok, if_pos (Nat.lt_of_le_of_lt hl (by decide)), h3, ev_ok, List.nil_append]
 exact ev_lst _ (by rw [h1]; exact size_small hl)
theorem mem_rangeW {n : Nat} {w : W} (h : w ∈ rangeW 0 n) : ∃ k : Nat, k < n ∧ w = .int k := by
 unfold rangeW at h
 obtain ⟨i, hi, rfl⟩ := List.mem_map.mp h
 exact ⟨i, List.mem_range.mp hi, by rw [Int.zero_add]⟩
theorem len_rangeW (n : Nat) : (rangeW 0 n).length = n := by unfold rangeW; rw [List.length_map, List.length_range]
def LetterW (w : W) : Prop := ∃ c, smallC c ∧ w = .str ⟨#[c]⟩
theorem letters_of : ∀ (ys : List W), (∀ y ∈ ys, LetterW y) → ∃ cs : List Nat, ys = cs.map (fun c => W.str ⟨#[c]⟩) ∧ ∀ c ∈ cs, smallC c
 | [], _ => ⟨[], rfl, fun c h => by cases h⟩
 | y :: ys, h => by
  obtain ⟨c, hc, rfl⟩ := h y List.mem_cons_self
  obtain ⟨cs, h1, h2⟩ := letters_of ys fun z hz => h z (List.mem_cons_of_mem _ hz)
  refine ⟨c :: cs, by rw [h1]; rfl, fun d hd => ?_⟩
  rcases List.mem_cons.mp hd with rfl | hd
  ·exact hc
  ·exact h2 d hd
theorem strsW_map (zs : List Str) : strsW (zs.map W.str) = some zs := by
 induction zs with
 | nil => rfl
 | cons z zs ih => show (strsW (zs.map W.str)).map (z :: ·) = _; rw [ih]; rfl
theorem sum_ones (cs : List Nat) : (((cs.map fun c => (⟨#[c]⟩ : Str)).map (·.length)).sum) = cs.length := by
 induction cs with
 | nil => rfl
 | cons c cs ih => rw [List.map_cons, List.map_cons, List.sum_cons, ih, List.length_cons]; show 1 + _ = _; omega
theorem join_letters (cs : List Nat) (st : S) (h : cs.length ≤ 1000) : opJoin (.str "") [.lst (cs.map fun c => W.str ⟨#[c]⟩)] st = .ok (.str ⟨cs.toArray⟩) st := by
 have e1 : strsW (cs.map fun c => W.str ⟨#[c]⟩) = some (cs.map fun c => (⟨#[c]⟩ : Str)) := by
  have := strsW_map (cs.map fun c => (⟨#[c]⟩ : Str))
  rw [List.map_map] at this
  exact this
 have e2 : Txt.join "" (cs.map fun c => (⟨#[c]⟩ : Str)) = ⟨cs.toArray⟩ := by
  apply cp_ext
  rw [cp_join0, List.map_map]
  show ((cs.map fun c => [c])).flatten = cs.toArray.toList
  rw [List.toList_toArray]
  induction cs with
  | nil => rfl
  | cons c cs ih =>
   have e3 : strsW (cs.map fun c => W.str ⟨#[c]⟩) = some (cs.map fun c => (⟨#[c]⟩ : Str)) := by
    have := strsW_map (cs.map fun c => (⟨#[c]⟩ : Str))
    rw [List.map_map] at this
    exact this
   rw [List.map_cons, List.flatten_cons, ih (by rw [List.length_cons] at h; omega) e3]
   rfl
 show (match strsW (cs.map fun c => W.str ⟨#[c]⟩) with
  | some (ys : List Str) => if (("" : Str).length ≤ 16 ∧ (ys.map (fun (y : Str) => y.length)).sum + ys.length ≤ 1048576) then R.ok (W.str (Txt.join "" ys)) st else .stuck
  | none => .stuck) = _
 rw [e1]
 show (if (("" : Str).length ≤ 16 ∧ ((cs.map fun c => (⟨#[c]⟩ : Str)).map (·.length)).sum + (cs.map fun c => (⟨#[c]⟩ : Str)).length ≤ 1048576) then R.ok (W.str (Txt.join "" (cs.map fun c => (⟨#[c]⟩ : Str)))) st else .stuck) = _
 rw [if_pos ⟨by decide, by rw [sum_ones, List.length_map]; omega⟩, e2]
theorem letter_run {a b : Run} {Γ : Ga} {st : S} {i : Int} (ha : a Γ st = .ok (.str "abcdefghijklmnopqrstuvwxyz") st) (hb : b Γ st = .ok (.int i) st) (h0 : 0 ≤ i) (h1 : i < 26) : ∃ w, LetterW w ∧ run2 a b opIdx Γ st = .ok w st := by
 refine ⟨.str ⟨#[97 + i.toNat]⟩, ⟨_, ⟨by omega, by omega⟩, rfl⟩, ?_⟩
 rw [ev_run2, ha, ev_ok, hb, ev_ok]
 refine ev_idxS _ i _ (by decide) ?_
 have := at_nat (cp "abcdefghijklmnopqrstuvwxyz") i.toNat _ (abc_at i.toNat (by omega))
 rwa [show ((i.toNat : Nat) : Int) = i from by omega] at this
theorem mod_lt (i : Int) (k : Int) (h : 0 < k) : 0 ≤ i % k ∧ i % k < k := ⟨Int.emod_nonneg i (by omega), Int.emod_lt_of_pos i h⟩
theorem short_of {z : Str} (h1 : 1 ≤ z.length) (h2 : z.length ≤ 8) : short z = true := by
 unfold short
 rw [decide_eq_true (by omega), if_pos rfl]
 exact decide_eq_true (by omega)
theorem sm_of {z : Str} (h : ∀ c ∈ cp z, smallC c) : sm z = true := by
 unfold sm
 rw [List.all_map, List.all_eq_true]
 intro c hc
 exact small_in (h c hc)
theorem free_of {z : Str} {g : Nat} {r : List Nat} (e : cp z = g :: r) (hg : greatC g) (hr : ∀ c ∈ r, smallC c) (hl : r.length ≤ 7) : freeB z = true ∧ z.length ≤ 8 := by
 have hz : z.length = r.length + 1 := by rw [← cp_len, e, List.length_cons]
 refine ⟨?_, by omega⟩
 unfold freeB
 rw [if_pos (short_of (by omega) (by omega))]
 have hg' : greatB z = true := by
  unfold greatB
  have : z.cps.toList = g :: r := e
  rw [this]
  exact great_in hg
 rw [if_pos hg']
 apply sm_of
 rw [show (some (1 : Int)) = some ((1 : Nat) : Int) from rfl, slice_lo, e]
 exact hr
def FreeS (z : Str) : Prop := freeB z = true ∧ z.length ≤ 8
theorem frzs_strs (f : W → Option W) (hf : ∀ z, f (.str z) = some (.str z)) : ∀ zs : List Str, frzs f (zs.map W.str) = some (zs.map W.str)
 | [] => rfl
 | z :: zs => by
  show (match f (.str z), frzs f (zs.map W.str) with | some y, some ys => some (y :: ys) | _, _ => none) = _
  rw [hf, frzs_strs f hf zs]; rfl
theorem keep_strs (st : S) (zs : List Str) : keep st st (.lst (zs.map W.str)) = .ok (.lst (zs.map W.str)) st := by
 refine keep_pos (fun _ _ => rfl) ?_
 show (frzs (frz st.nxt st.mu 11) (zs.map W.str)).map W.lst = _
 rw [frzs_strs (frz st.nxt st.mu 11) fun _ => rfl]; rfl
theorem keep_new_strs (st : S) (zs : List Str) : keep st (st.new (.lst (zs.map W.str))) (.ref st.nxt) = .ok (.lst (zs.map W.str)) st := by
 refine keep_pos (new_old st _) ?_
 show (if st.nxt < st.nxt then _ else (match (st.new (.lst (zs.map W.str))).mu st.nxt with
  | some (.lst xs) => (frzs (frz st.nxt (st.new (.lst (zs.map W.str))).mu 11) xs).map W.lst
  | some (.dct ks xs) => (frzs (frz st.nxt (st.new (.lst (zs.map W.str))).mu 11) xs).map (W.dct ks)
  | none => none)) = _
 rw [if_neg (Nat.lt_irrefl _), new_at]
 show (frzs (frz st.nxt (st.new (.lst (zs.map W.str))).mu 11) (zs.map W.str)).map W.lst = _
 rw [frzs_strs (frz st.nxt (st.new (.lst (zs.map W.str))).mu 11) fun _ => rfl]; rfl
end DL.My
namespace DL.My
open PySem L2
theorem cell_ok (ns : List Int) (k : Nat) (st : S) : op_l_cell_at [.lst (ns.map W.int), .int k] st = .ok (.int (ns.getD k 0)) st := by
 unfold op_l_cell_at
 rw [ev_op2]
 unfold r_l_cell_at
 rw [ev_seq, ev_if, ev_run2, ev_v1, ev_ok, ev_runN, ev_cons, ev_v0, ev_ok, ev_nil, ev_ok, ev_ok, ev_lenL, ev_ok, ev_ltI, ev_ok, kIf_bl, List.length_map]
 by_cases h : (k : Int) < (ns.length : Int)
 ·have hk : k < ns.length := by omega
  have e : atI (ns.map W.int) (k : Int) = some (.int (ns.getD k 0)) := at_nat _ _ _ (by rw [List.getElem?_map, List.getElem?_eq_getElem hk]; simp [hk])
  rw [decide_eq_true h, if_pos rfl, ret_ok (w := .int (ns.getD k 0)) (by rw [ev_run2, ev_v0, ev_ok, ev_v1, ev_ok]; exact ev_idxL _ _ _ e), ev_ok]; rfl
 ·have hk : ns.length ≤ k := by omega
  rw [decide_eq_false h, if_neg Bool.false_ne_true, ev_pass, ev_ok, kSeq_nx, ret_ok (w := .int 0) rfl]
  simp [hk]; rfl
def tailRun : Run := runM "str" (rCon (W.str "")) (runsCons (runComp false (runRng1 (run2 (run2 (rVar 0) (rCon (W.int 3)) opDiv) (rCon (W.int 8)) opMod)) [0, 1] (rCon (.bl true)) (run2 (rVar 2) (run2 (run2 (run2 (rVar 1) (rCon (W.int 52)) opDiv) (run2 (rCon (W.int 5)) (rVar 0) opMul) opAdd) (rCon (W.int 26)) opMod) opIdx)) runsNil) opJoin
theorem tail_ok (c : Int) (Γ : Ga) (st : S) : ∃ cs : List Nat, cs.length ≤ 7 ∧ (∀ x ∈ cs, smallC x) ∧ tailRun (some (.int c) :: some (.str "abcdefghijklmnopqrstuvwxyz") :: Γ) st = .ok (.str ⟨cs.toArray⟩) st := by
 obtain ⟨m0, m1⟩ := mod_lt (c / 3) 8 (by decide)
 have hs : runRng1 (run2 (run2 (rVar 0) (rCon (W.int 3)) opDiv) (rCon (W.int 8)) opMod) (some (.int c) :: some (.str "abcdefghijklmnopqrstuvwxyz") :: Γ) st = .ok (rangeW 0 (c / 3 % 8).toNat) st :=
  ev_rng1 _ _ (by simp only [EV, Nat.reduceSub, show (0 : Int) < 3 by decide, show (3 : Int) < 1073741824 by decide, show (0 : Int) < 8 by decide]) (by omega) (by omega)
 obtain ⟨ys, h1, h2, h3⟩ := comp_ex (cap := [0, 1]) (re := run2 (rVar 2) (run2 (run2 (run2 (rVar 1) (rCon (W.int 52)) opDiv) (run2 (rCon (W.int 5)) (rVar 0) opMul) opAdd) (rCon (W.int 26)) opMod) opIdx) LetterW hs (by rw [len_rangeW]; omega) fun x hx => by
  obtain ⟨k, hk, rfl⟩ := mem_rangeW hx
  obtain ⟨n0, n1⟩ := mod_lt (c / 52 + 5 * (k : Int)) 26 (by decide)
  refine letter_run (i := (c / 52 + 5 * (k : Int)) % 26) rfl ?_ n0 n1
  show run2 (run2 (run2 (rVar 1) (rCon (W.int 52)) opDiv) (run2 (rCon (W.int 5)) (rVar 0) opMul) opAdd) (rCon (W.int 26)) opMod [some (.int k), some (.int c), some (.str "abcdefghijklmnopqrstuvwxyz")] st = _
  simp only [EV, Nat.reduceSub, show (0 : Int) < 52 by decide, show (52 : Int) < 1073741824 by decide, show (0 : Int) < 26 by decide, ev_mulL 5 (k : Int) (by decide) (by decide)]
 obtain ⟨cs, rfl, h4⟩ := letters_of ys h2
 rw [List.length_map, len_rangeW] at h1
 refine ⟨cs, by omega, h4, ?_⟩
 unfold tailRun runM
 rw [ev_con, ev_ok, if_pos (show kindW st (.str "") = some "str" from rfl), ev_cons, h3, ev_ok, ev_nil, ev_ok, ev_ok]
 exact join_letters cs st (by omega)
theorem add_str_run {a b : Run} {Γ : Ga} {st : S} {x y : Str} (ha : a Γ st = .ok (.str x) st) (hb : b Γ st = .ok (.str y) st) (hl : x.length + y.length ≤ 1000) : run2 a b opAdd Γ st = .ok (.str (x ++ y)) st := by
 rw [ev_run2, ha, ev_ok, hb, ev_ok]
 exact ev_addS x y (size_small hl)
theorem sl_hi_run {a b : Run} {Γ : Ga} {st : S} {x : Str} {k : Int} (ha : a Γ st = .ok (.str x) st) (hb : b Γ st = .ok (.int k) st) (hl : x.length ≤ 1000) : runSlNS false a b Γ st = .ok (.str (Txt.slice x none (some k))) st := by
 rw [ev_slNS, ha, ev_ok, hb, ev_ok]
 exact if_pos (size_small hl)
theorem sl_lo_run {a b : Run} {Γ : Ga} {st : S} {x : Str} {k : Int} (ha : a Γ st = .ok (.str x) st) (hb : b Γ st = .ok (.int k) st) (hl : x.length ≤ 1000) : runSlSN false a b Γ st = .ok (.str (Txt.slice x (some k) none)) st := by
 rw [ev_slSN, ha, ev_ok, hb, ev_ok]
 exact if_pos (size_small hl)
theorem cp_mk (cs : List Nat) : cp ⟨cs.toArray⟩ = cs := by unfold cp; simp
theorem len_mk (cs : List Nat) : (⟨cs.toArray⟩ : Str).length = cs.length := by rw [← cp_len, cp_mk]
def FreeW (w : W) : Prop := ∃ z, w = .str z ∧ FreeS z
theorem frees_of : ∀ (ys : List W), (∀ y ∈ ys, FreeW y) → ∃ zs : List Str, ys = zs.map W.str ∧ ∀ z ∈ zs, FreeS z
 | [], _ => ⟨[], rfl, fun c h => by cases h⟩
 | y :: ys, h => by
  obtain ⟨z, rfl, hz⟩ := h y List.mem_cons_self
  obtain ⟨zs, h1, h2⟩ := frees_of ys fun z hz => h z (List.mem_cons_of_mem _ hz)
  refine ⟨z :: zs, by rw [h1]; rfl, fun d hd => ?_⟩
  rcases List.mem_cons.mp hd with rfl | hd
  ·exact hz
  ·exact h2 d hd
theorem begin_ok (cs : List Nat) (hl : cs.length ≤ 7) (hs : ∀ x ∈ cs, smallC x) (c : Int) (Γ : Ga) (st : S) (k : Nat) (hk : k < 5) :
  ∃ w, FreeW w ∧ runSlNS false (run2 (rCon (W.str "N")) (runSlNS false (run2 (rVar 2) (rCon (W.str "abcdefg")) opAdd) (rCon (W.int 7))) opAdd) (run2 (rCon (W.int 1)) (run2 (run2 (rVar 0) (run2 (rVar 1) (rCon (W.int 24)) opDiv) opAdd) (rCon (W.int 8)) opMod) opAdd) (some (.int k) :: some (.int c) :: some (.str ⟨cs.toArray⟩) :: Γ) st = .ok w st := by
 have e1 := add_str_run (a := rVar 2) (b := rCon (W.str "abcdefg")) (Γ := some (.int k) :: some (.int c) :: some (.str ⟨cs.toArray⟩) :: Γ) (st := st) (x := ⟨cs.toArray⟩) (y := "abcdefg") rfl rfl (by rw [len_mk]; show cs.length + 7 ≤ 1000; omega)
 have le1 : ((⟨cs.toArray⟩ : Str) ++ ("abcdefg" : Str)).length ≤ 14 := by rw [Str.length_append, len_mk]; show cs.length + 7 ≤ 14; omega
 have e2 := sl_hi_run (b := rCon (W.int 7)) (k := 7) e1 rfl (by omega)
 have le2 : (Txt.slice ((⟨cs.toArray⟩ : Str) ++ ("abcdefg" : Str)) none (some 7)).length ≤ 14 := Nat.le_trans (Txt.slice_le _ _ _) le1
 have e3 := add_str_run (a := rCon (W.str "N")) (x := "N") rfl e2 (by show 1 + _ ≤ 1000; omega)
 have c2 : cp (Txt.slice ((⟨cs.toArray⟩ : Str) ++ ("abcdefg" : Str)) none (some 7)) = (cs ++ cp "abcdefg").take 7 := by
  rw [show (some (7 : Int)) = some ((7 : Nat) : Int) from rfl, slice_hi, cp_app, cp_mk]
 have c3 : cp (("N" : Str) ++ Txt.slice ((⟨cs.toArray⟩ : Str) ++ ("abcdefg" : Str)) none (some 7)) = 78 :: (cs ++ cp "abcdefg").take 7 := by
  rw [cp_app, c2]; rfl
 obtain ⟨m0, m1⟩ := mod_lt ((k : Int) + c / 24) 8 (by decide)
 have e4 : run2 (rCon (W.int 1)) (run2 (run2 (rVar 0) (run2 (rVar 1) (rCon (W.int 24)) opDiv) opAdd) (rCon (W.int 8)) opMod) opAdd (some (.int k) :: some (.int c) :: some (.str ⟨cs.toArray⟩) :: Γ) st = .ok (.int (1 + ((k : Int) + c / 24) % 8)) st := by
  simp only [EV, Nat.reduceSub, show (0 : Int) < 24 by decide, show (24 : Int) < 1073741824 by decide, show (0 : Int) < 8 by decide]
 have e5 := sl_hi_run e3 e4 (by rw [Str.length_append]; show 1 + _ ≤ 1000; omega)
 refine ⟨_, ⟨_, rfl, ?_⟩, e5⟩
 have hm : (1 + ((k : Int) + c / 24) % 8) = (((((k : Int) + c / 24) % 8).toNat + 1 : Nat) : Int) := by omega
 have c5 : cp (Txt.slice (("N" : Str) ++ Txt.slice ((⟨cs.toArray⟩ : Str) ++ ("abcdefg" : Str)) none (some 7)) none (some (1 + ((k : Int) + c / 24) % 8))) = 78 :: (((cs ++ cp "abcdefg").take 7).take (((k : Int) + c / 24) % 8).toNat) := by
  rw [hm, slice_hi, c3, List.take_succ_cons]
 have sa : ∀ x ∈ cp ("abcdefg" : Str), smallC x := by
  intro x hx
  have : x ∈ [97, 98, 99, 100, 101, 102, 103] := hx
  simp only [List.mem_cons, List.not_mem_nil, or_false] at this
  unfold smallC
  omega
 refine free_of c5 (by unfold greatC; omega) (fun x hx => ?_) (by rw [List.length_take, List.length_take]; omega)
 have hx := List.mem_of_mem_take (List.mem_of_mem_take hx)
 rcases List.mem_append.mp hx with hx | hx
 ·exact hs x hx
 ·exact sa x hx
noncomputable def wordsBody : RunS := sSeq (sSet 6 (run2 (rVar 1) (run2 (run2 (run2 (rVar 0) (rCon (W.int 208)) opDiv) (run2 (rCon (W.int 7)) (rVar 5) opMul) opAdd) (rCon (W.int 26)) opMod) opIdx))
 (sSeq (sIf (run2 (rVar 3) (rCon (W.int 0)) opEq)
  (sSeq (sDrop (runM "list" (rVar 4) (runsCons (run2 (runM "str" (rVar 6) runsNil opUpper) (rVar 2) opAdd) runsNil) opAppend)) sPass)
  (sSeq (sDrop (runM "list" (rVar 4) (runsCons (run2 (run2 (run2 (rCon (W.str "Q")) (runSlNS false (rVar 2) (run2 (rVar 3) (rCon (W.int 1)) opSub)) opAdd) (rVar 6) opAdd) (runSlSN false (rVar 2) (rVar 3)) opAdd) runsNil) opAppend)) sPass)) sPass)
theorem append_run {Γ : Ga} {st : S} {xs : List W} {ro re : Run} {w : W} (ho : ro Γ (st.new (.lst xs)) = .ok (.ref st.nxt) (st.new (.lst xs))) (he : re Γ (st.new (.lst xs)) = .ok w (st.new (.lst xs))) (hl : xs.length ≤ 1000) :
  runM "list" ro (runsCons re runsNil) opAppend Γ (st.new (.lst xs)) = .ok .non (st.new (.lst (xs ++ [w]))) := by
 unfold runM
 have hk : kindW (st.new (.lst xs)) (.ref st.nxt) = some "list" := by
  show MO.kind ((st.new (.lst xs)).mu st.nxt) = _
  rw [new_at]; rfl
 rw [ho, ev_ok, if_pos hk, ev_cons, he, ev_ok, ev_nil, ev_ok, ev_ok]
 show (match (st.new (.lst xs)).mu st.nxt with
  | some (.lst ys) => if ys.length < sizeLine then R.ok W.non ((st.new (.lst xs)).put st.nxt (.lst (ys ++ [w]))) else .stuck
  | _ => .stuck) = _
 rw [new_at]
 show (if xs.length < sizeLine then R.ok W.non ((st.new (.lst xs)).put st.nxt (.lst (xs ++ [w]))) else .stuck) = _
 rw [if_pos (Nat.lt_of_le_of_lt hl (by decide)), new_put]
theorem words_turn (cs : List Nat) (hl : cs.length ≤ 7) (hs : ∀ x ∈ cs, smallC x) (c : Int) (at_ : Nat) (hat : at_ ≤ cs.length) (st : S) (k : Nat) (hk : k < 5) (xs : List W) (hx : xs.length ≤ 1000) (x6 : Option W) :
  ∃ (w : W) (y6 : Option W), FreeW w ∧ wordsBody [some (.int c), some (.str "abcdefghijklmnopqrstuvwxyz"), some (.str ⟨cs.toArray⟩), some (.int at_), some (.ref st.nxt), some (.int k), x6] (st.new (.lst xs)) =
   .ok (.nx [some (.int c), some (.str "abcdefghijklmnopqrstuvwxyz"), some (.str ⟨cs.toArray⟩), some (.int at_), some (.ref st.nxt), some (.int k), y6]) (st.new (.lst (xs ++ [w]))) := by
 obtain ⟨n0, n1⟩ := mod_lt (c / 208 + 7 * (k : Int)) 26 (by decide)
 obtain ⟨w6, ⟨ch, hch, rfl⟩, e6⟩ := letter_run (a := rVar 1) (b := run2 (run2 (run2 (rVar 0) (rCon (W.int 208)) opDiv) (run2 (rCon (W.int 7)) (rVar 5) opMul) opAdd) (rCon (W.int 26)) opMod) (Γ := [some (.int c), some (.str "abcdefghijklmnopqrstuvwxyz"), some (.str ⟨cs.toArray⟩), some (.int at_), some (.ref st.nxt), some (.int k), x6]) (st := st.new (.lst xs)) (i := (c / 208 + 7 * (k : Int)) % 26) rfl
  (by simp only [EV, Nat.reduceSub, show (0 : Int) < 208 by decide, show (208 : Int) < 1073741824 by decide, show (0 : Int) < 26 by decide, ev_mulL 7 (k : Int) (by decide) (by decide)]) n0 n1
 by_cases h0 : at_ = 0
 ·have b0 : ((at_ : Int) == 0) = true := by rw [h0]; rfl
  have eu : runM "str" (rVar 6) runsNil opUpper [some (.int c), some (.str "abcdefghijklmnopqrstuvwxyz"), some (.str ⟨cs.toArray⟩), some (.int at_), some (.ref st.nxt), some (.int k), some (.str ⟨#[ch]⟩)] (st.new (.lst xs)) = .ok (.str ⟨#[ch - 32]⟩) (st.new (.lst xs)) := by
   unfold runM
   rw [ev_v6, ev_ok, if_pos (show kindW (st.new (.lst xs)) (.str ⟨#[ch]⟩) = some "str" from rfl), ev_nil, ev_ok]
   show (if (⟨#[ch]⟩ : Str).length ≤ 5592405 then R.ok (W.str (Txt.upper ⟨#[ch]⟩)) (st.new (.lst xs)) else .stuck) = _
   rw [if_pos (show (⟨#[ch]⟩ : Str).length ≤ 5592405 from (show 1 ≤ 5592405 by decide)), upper_one hch]
  have ea := add_str_run (b := rVar 2) (y := ⟨cs.toArray⟩) eu rfl (by have h1 := len_mk cs; have h2 : (⟨#[ch - 32]⟩ : Str).length = 1 := rfl; omega)
  refine ⟨.str (⟨#[ch - 32]⟩ ++ ⟨cs.toArray⟩), some (.str ⟨#[ch]⟩), ⟨_, rfl, free_of (g := ch - 32) (r := cs) (by rw [cp_app, cp_mk]; rfl) (by unfold greatC; unfold smallC at hch; omega) hs hl⟩, ?_⟩
  have ep := append_run (ro := rVar 4) (xs := xs) rfl ea hx
  unfold wordsBody
  simp only [EV, Nat.reduceSub, ↓e6, b0, if_true, ↓ep]
 ·have b0 : ((at_ : Int) == 0) = false := beq_false_of_ne (by omega)
  have es1 := sl_hi_run (a := rVar 2) (b := run2 (rVar 3) (rCon (W.int 1)) opSub) (Γ := [some (.int c), some (.str "abcdefghijklmnopqrstuvwxyz"), some (.str ⟨cs.toArray⟩), some (.int at_), some (.ref st.nxt), some (.int k), some (.str ⟨#[ch]⟩)]) (st := st.new (.lst xs)) (x := ⟨cs.toArray⟩) (k := (at_ : Int) - 1) rfl (by simp only [EV, Nat.reduceSub]) (by rw [len_mk]; omega)
  have ls1 : (Txt.slice (⟨cs.toArray⟩ : Str) none (some ((at_ : Int) - 1))).length ≤ 7 := Nat.le_trans (Txt.slice_le _ _ _) (by rw [len_mk]; exact hl)
  have ea1 := add_str_run (a := rCon (W.str "Q")) (x := "Q") rfl es1 (by show 1 + _ ≤ 1000; omega)
  have la1 : (("Q" : Str) ++ Txt.slice (⟨cs.toArray⟩ : Str) none (some ((at_ : Int) - 1))).length ≤ 8 := by rw [Str.length_append]; show 1 + _ ≤ 8; omega
  have ea2 := add_str_run (b := rVar 6) (y := ⟨#[ch]⟩) ea1 rfl (by show _ + 1 ≤ 1000; omega)
  have la2 : ((("Q" : Str) ++ Txt.slice (⟨cs.toArray⟩ : Str) none (some ((at_ : Int) - 1))) ++ ⟨#[ch]⟩).length ≤ 9 := by rw [Str.length_append]; show _ + 1 ≤ 9; omega
  have es2 := sl_lo_run (a := rVar 2) (b := rVar 3) (Γ := [some (.int c), some (.str "abcdefghijklmnopqrstuvwxyz"), some (.str ⟨cs.toArray⟩), some (.int at_), some (.ref st.nxt), some (.int k), some (.str ⟨#[ch]⟩)]) (st := st.new (.lst xs)) (x := ⟨cs.toArray⟩) (k := (at_ : Int)) rfl rfl (by rw [len_mk]; omega)
  have ls2 : (Txt.slice (⟨cs.toArray⟩ : Str) (some (at_ : Int)) none).length ≤ 7 := Nat.le_trans (Txt.slice_le _ _ _) (by rw [len_mk]; exact hl)
  have ea3 := add_str_run ea2 es2 (by omega)
  have hc : cp (((("Q" : Str) ++ Txt.slice (⟨cs.toArray⟩ : Str) none (some ((at_ : Int) - 1))) ++ ⟨#[ch]⟩) ++ Txt.slice (⟨cs.toArray⟩ : Str) (some (at_ : Int)) none) = 81 :: (cs.take (at_ - 1) ++ [ch] ++ cs.drop at_) := by
   rw [cp_app, cp_app, cp_app, show ((at_ : Int) - 1) = ((at_ - 1 : Nat) : Int) from by omega, slice_hi, slice_lo, cp_mk, cp_one]; rfl
  refine ⟨_, some (.str ⟨#[ch]⟩), ⟨_, rfl, free_of hc (by unfold greatC; omega) (fun x hx => ?_) ?_⟩, ?_⟩
  ·rcases List.mem_append.mp hx with hx | hx
   ·rcases List.mem_append.mp hx with hx | hx
    ·exact hs x (List.mem_of_mem_take hx)
    ·rw [List.mem_singleton.mp hx]; exact hch
   ·exact hs x (List.mem_of_mem_drop hx)
  ·rw [List.length_append, List.length_append, List.length_take, List.length_drop, List.length_singleton]; omega
  ·have ep := append_run (ro := rVar 4) (xs := xs) rfl ea3 hx
   unfold wordsBody
   simp only [EV, Nat.reduceSub, ↓e6, b0, if_false, Bool.false_eq_true, ↓ep]
theorem words_loop (cs : List Nat) (hl : cs.length ≤ 7) (hs : ∀ x ∈ cs, smallC x) (c : Int) (at_ : Nat) (hat : at_ ≤ cs.length) (st : S) : ∀ (ks : List Nat) (xs : List W) (x5 x6 : Option W), (∀ k ∈ ks, k < 5) → xs.length + ks.length ≤ 1000 → (∀ x ∈ xs, FreeW x) →
  ∃ (ys : List W) (y5 y6 : Option W), ys.length = xs.length + ks.length ∧ (∀ y ∈ ys, FreeW y) ∧ loopS 5 wordsBody (ks.map fun (k : Nat) => W.int k) [some (.int c), some (.str "abcdefghijklmnopqrstuvwxyz"), some (.str ⟨cs.toArray⟩), some (.int at_), some (.ref st.nxt), x5, x6] (st.new (.lst xs)) =
   .ok (.nx [some (.int c), some (.str "abcdefghijklmnopqrstuvwxyz"), some (.str ⟨cs.toArray⟩), some (.int at_), some (.ref st.nxt), y5, y6]) (st.new (.lst ys))
 | [], xs, x5, x6, _, _, hx => ⟨xs, x5, x6, rfl, hx, rfl⟩
 | k :: ks, xs, x5, x6, hk, hlen, hx => by
  rw [List.length_cons] at hlen
  obtain ⟨w, y6, hw, e⟩ := words_turn cs hl hs c at_ hat st k (hk k List.mem_cons_self) xs (by omega) x6
  obtain ⟨ys, z5, z6, h1, h2, h3⟩ := words_loop cs hl hs c at_ hat st ks (xs ++ [w]) (some (.int k)) y6 (fun j hj => hk j (List.mem_cons_of_mem _ hj)) (by rw [List.length_append, List.length_singleton]; omega) (fun x hx' => by
   rcases List.mem_append.mp hx' with h | h
   ·exact hx x h
   ·rw [List.mem_singleton.mp h]; exact hw)
  refine ⟨ys, z5, z6, by rw [h1, List.length_append, List.length_singleton, List.length_cons]; omega, h2, ?_⟩
  show ((wordsBody [some (.int c), some (.str "abcdefghijklmnopqrstuvwxyz"), some (.str ⟨cs.toArray⟩), some (.int at_), some (.ref st.nxt), some (.int k), x6] (st.new (.lst xs))).bind _) = _
  rw [e]; exact h3
theorem free_words_ok (c : Int) (st : S) : ∃ zs : List Str, zs.length = 5 ∧ (∀ z ∈ zs, FreeS z) ∧ op_l_free_words [.int c] st = .ok (.lst (zs.map W.str)) st := by
 unfold op_l_free_words
 rw [ev_op1]
 unfold r_l_free_words
 rw [show (7 - 1 : Nat) = 6 from rfl, ev_rep6]
 by_cases h0 : c % 3 = 0
 ·have b0 : (c % 3 == 0) = true := beq_iff_eq.mpr h0
  refine ⟨["X", "Y", "Zed", "T", "Result"], rfl, ?_, ?_⟩
  ·have all : ([ "X", "Y", "Zed", "T", "Result"] : List Str).all (fun z => freeB z && decide (z.length ≤ 8)) = true := by decide +kernel
   intro z hz
   have := List.all_eq_true.mp all z hz
   simp only [Bool.and_eq_true, decide_eq_true_eq] at this
   exact this
  ·simp only [EV, Nat.reduceSub, show (0 : Int) < 3 by decide, b0, if_true]
   exact keep_strs st ["X", "Y", "Zed", "T", "Result"]
 ·have b0 : (c % 3 == 0) = false := beq_false_of_ne h0
  obtain ⟨cs, hl, hs, et⟩ := tail_ok c [none, none, none, none, none] st
  unfold tailRun at et
  by_cases h1 : c % 3 = 1
  ·have b1 : (c % 3 == 1) = true := beq_iff_eq.mpr h1
   have hr : runRng1 (rCon (W.int 5)) [some (.int c), some (.str "abcdefghijklmnopqrstuvwxyz"), some (.str ⟨cs.toArray⟩), none, none, none, none] st = .ok (rangeW 0 5) st := rfl
   obtain ⟨ys, hy1, hy2, hy3⟩ := comp_ex (cap := [0, 2]) (re := runSlNS false (run2 (rCon (W.str "N")) (runSlNS false (run2 (rVar 2) (rCon (W.str "abcdefg")) opAdd) (rCon (W.int 7))) opAdd) (run2 (rCon (W.int 1)) (run2 (run2 (rVar 0) (run2 (rVar 1) (rCon (W.int 24)) opDiv) opAdd) (rCon (W.int 8)) opMod) opAdd)) FreeW hr (by decide) fun x hx => by
    obtain ⟨k, hk, rfl⟩ := mem_rangeW hx
    exact begin_ok cs hl hs c [] st k hk
   obtain ⟨zs, rfl, hz⟩ := frees_of ys hy2
   refine ⟨zs, by rw [List.length_map] at hy1; exact hy1, hz, ?_⟩
   simp only [EV, Nat.reduceSub, show (0 : Int) < 3 by decide, b0, if_false, Bool.false_eq_true, ↓et, b1, if_true, ↓hy3]
   exact keep_strs st zs
  ·have b1 : (c % 3 == 1) = false := beq_false_of_ne h1
   obtain ⟨m0, m1⟩ := mod_lt (c / 24) ((cs.length : Int) + 1) (by omega)
   have ha : (c / 24) % ((cs.length : Int) + 1) = (((c / 24) % ((cs.length : Int) + 1)).toNat : Int) := by omega
   have hm : (0 : Int) < (cs.length : Int) + 1 := by omega
   have hlen : opLen [.str (⟨cs.toArray⟩ : Str)] st = .ok (.int (cs.length : Int)) st := by
    rw [ev_lenS _ (by rw [len_mk]; exact size_small (by omega)), len_mk]
   obtain ⟨ys, y5, y6, hy1, hy2, hy3⟩ := words_loop cs hl hs c ((c / 24) % ((cs.length : Int) + 1)).toNat (by omega) st [0, 1, 2, 3, 4] [] none none (by intro k hk; simp at hk; omega) (by decide) (fun x h => by cases h)
   obtain ⟨zs, rfl, hz⟩ := frees_of ys hy2
   refine ⟨zs, by rw [List.length_map] at hy1; exact hy1, hz, ?_⟩
   have hr : ∀ Γ : Ga, runRng1 (rCon (W.int 5)) Γ (st.new (.lst [])) = .ok ([0, 1, 2, 3, 4].map fun (k : Nat) => W.int k) (st.new (.lst [])) := fun _ => rfl
   have hn : ∀ Γ : Ga, runN runsNil (opL true) Γ st = .ok (.ref st.nxt) (st.new (.lst [])) := fun _ => rfl
   unfold wordsBody at hy3
   rw [← ha] at hy3
   simp only [EV, Nat.reduceSub, show (0 : Int) < 3 by decide, b0, if_false, Bool.false_eq_true, ↓et, b1, show (0 : Int) < 24 by decide, show (24 : Int) < 1073741824 by decide, hlen, ev_modI _ _ hm, ↓hn, ev_for, ↓hr, ↓hy3]
   exact keep_new_strs st zs
inductive GoodT : W → Prop
 | free (z : Str) : FreeS z → GoodT (.str z)
 | name (z : Str) : z ∈ (["a", "b", "town", "abcdefgh"] : List Str) → GoodT (.str z)
 | num (i : Int) : numB i = true → GoodT (.int i)
theorem GoodT.th {w : W} (h : GoodT w) : Th w := by
 cases h with
 | free z hz => exact .str z (by have := hz.2; omega)
 | name z hz => refine .str z ?_; simp only [List.mem_cons, List.not_mem_nil, or_false] at hz; rcases hz with rfl | rfl | rfl | rfl <;> decide
 | num i hi => exact .int i
theorem GoodT.term {w : W} (h : GoodT w) : termW w = true := by
 cases h with
 | free z hz => show ((nameB z || false) || freeB z) = true; rw [hz.1]; simp
 | name z hz =>
  have all : (["a", "b", "town", "abcdefgh"] : List Str).all (fun z => nameB z) = true := by decide +kernel
  have := List.all_eq_true.mp all z hz
  show ((nameB z || false) || freeB z) = true
  rw [this]; rfl
 | num i hi => show ((false || numB i) || false) = true; rw [hi]; rfl
theorem GoodT.value {w : W} (h : GoodT w) : valueW w = !freeW w := by
 cases h with
 | free z hz =>
  show (nameB z || false) = !freeB z
  rw [hz.1]
  have : nameB z = false := by
   have hf := hz.1
   unfold freeB at hf
   unfold nameB
   by_cases hs : short z = true
   ·rw [if_pos hs] at hf ⊢
    by_cases hg : greatB z = true
    ·have : sm z = false := by
      unfold greatB at hg
      unfold sm
      cases e : z.cps.toList with
      | nil => rw [e] at hg; exact absurd hg (by decide +kernel)
      | cons c r =>
       rw [e] at hg
       have hc : inStr ⟨#[c]⟩ abc = false := by
        cases hi : inStr ⟨#[c]⟩ abc with
        | false => rfl
        | true => exact absurd hg (by
          have := both_not hi
          intro z
          exact Bool.noConfusion (this.symm.trans z))
       rw [List.map_cons, List.all_cons, hc]; rfl
     rw [this]; rfl
    ·rw [if_neg hg] at hf; cases hf
   ·rw [if_neg hs] at hf; cases hf
  rw [this]; rfl
 | name z hz =>
  have all : (["a", "b", "town", "abcdefgh"] : List Str).all (fun z => nameB z && !freeB z) = true := by decide +kernel
  have := List.all_eq_true.mp all z hz
  simp only [Bool.and_eq_true, Bool.not_eq_true'] at this
  show (nameB z || false) = !freeB z
  rw [this.1, this.2]; rfl
 | num i hi => show (false || numB i) = !false; rw [hi]; rfl
end DL.My
namespace DL.My
open PySem L2
theorem ix_lst {a b : Run} {Γ : Ga} {st : S} {ws : List W} {i : Int} (ha : a Γ st = .ok (.lst ws) st) (hb : b Γ st = .ok (.int i) st) (h0 : 0 ≤ i) (h1 : i < ws.length) : ∃ w ∈ ws, run2 a b opIdx Γ st = .ok w st := by
 obtain ⟨w, h, hm⟩ := at_in ws i h0 h1
 refine ⟨w, hm, ?_⟩
 rw [ev_run2, ha, ev_ok, hb, ev_ok]
 exact ev_idxL ws i w h
theorem term_by_ok (c : Int) (st : S) : ∃ w, GoodT w ∧ op_l_term_by [.int c] st = .ok w st := by
 unfold op_l_term_by
 rw [ev_op1]
 unfold r_l_term_by
 rw [show (1 - 1 : Nat) = 0 from rfl, ev_rep0]
 obtain ⟨m0, m1⟩ := mod_lt (c / 3) 4 (by decide)
 obtain ⟨l0, l1⟩ := mod_lt (c / 3) 6 (by decide)
 have hi4 : run2 (run2 (rVar 0) (rCon (W.int 3)) opDiv) (rCon (W.int 4)) opMod [some (.int c)] st = .ok (.int (c / 3 % 4)) st := by
  simp only [EV, Nat.reduceSub, show (0 : Int) < 3 by decide, show (3 : Int) < 1073741824 by decide, show (0 : Int) < 4 by decide]
 have hi6 : run2 (run2 (rVar 0) (rCon (W.int 3)) opDiv) (rCon (W.int 6)) opMod [some (.int c)] st = .ok (.int (c / 3 % 6)) st := by
  simp only [EV, Nat.reduceSub, show (0 : Int) < 3 by decide, show (3 : Int) < 1073741824 by decide, show (0 : Int) < 6 by decide]
 by_cases h0 : c % 3 = 0
 ·have b0 : (c % 3 == 0) = true := beq_iff_eq.mpr h0
  obtain ⟨zs, hz1, hz2, hz3⟩ := free_words_ok (c / 12) st
  have ef : runN (runsCons (run2 (rVar 0) (rCon (W.int 12)) opDiv) runsNil) (calmOp op_l_free_words) [some (.int c)] st = .ok (.lst (zs.map W.str)) st := by
   simp only [EV, Nat.reduceSub, show (0 : Int) < 12 by decide, show (12 : Int) < 1073741824 by decide, hz3]
  obtain ⟨w, hw, e⟩ := ix_lst ef hi4 m0 (by rw [List.length_map, hz1]; omega)
  obtain ⟨z, hz, rfl⟩ := List.mem_map.mp hw
  refine ⟨.str z, .free z (hz2 z hz), ?_⟩
  simp only [EV, Nat.reduceSub, show (0 : Int) < 3 by decide, b0, if_true, ↓e]
 ·have b0 : (c % 3 == 0) = false := beq_false_of_ne h0
  by_cases h1 : c % 3 = 1
  ·have b1 : (c % 3 == 1) = true := beq_iff_eq.mpr h1
   have ef : runN (runsCons (rCon (W.str "a")) (runsCons (rCon (W.str "b")) (runsCons (rCon (W.str "town")) (runsCons (rCon (W.str "abcdefgh")) runsNil)))) (opL false) [some (.int c)] st = .ok (.lst ((["a", "b", "town", "abcdefgh"] : List Str).map W.str)) st := rfl
   obtain ⟨w, hw, e⟩ := ix_lst ef hi4 m0 (by show _ < 4; omega)
   obtain ⟨z, hz, rfl⟩ := List.mem_map.mp hw
   refine ⟨.str z, .name z hz, ?_⟩
   simp only [EV, Nat.reduceSub, show (0 : Int) < 3 by decide, b0, b1, if_true, if_false, Bool.false_eq_true, ↓e]
  ·have b1 : (c % 3 == 1) = false := beq_false_of_ne h1
   obtain ⟨p0, p1⟩ := mod_lt (c / 18) 1000 (by decide)
   have ef : runN (runsCons (rCon (W.int 0)) (runsCons (rCon (W.int 5)) (runsCons (run1 (rCon (W.int 7)) opNeg) (runsCons (rCon (W.int 999999999)) (runsCons (run1 (rCon (W.int 999999999)) opNeg) (runsCons (run2 (run2 (rVar 0) (rCon (W.int 18)) opDiv) (rCon (W.int 1000)) opMod) runsNil)))))) (opL false) [some (.int c)] st = .ok (.lst (([0, 5, -7, 999999999, -999999999, c / 18 % 1000] : List Int).map W.int)) st := by
    simp only [EV, Nat.reduceSub, show (0 : Int) < 18 by decide, show (18 : Int) < 1073741824 by decide, show (0 : Int) < 1000 by decide]
    rfl
   obtain ⟨w, hw, e⟩ := ix_lst ef hi6 l0 (by show _ < 6; omega)
   obtain ⟨i, hi, rfl⟩ := List.mem_map.mp hw
   refine ⟨.int i, .num i ?_, ?_⟩
   ·simp only [List.mem_cons, List.not_mem_nil, or_false] at hi
    unfold numB
    rcases hi with rfl | rfl | rfl | rfl | rfl | rfl <;> first | rfl | (rw [decide_eq_true (by omega), if_pos rfl]; exact decide_eq_true (by omega))
   ·simp only [EV, Nat.reduceSub, show (0 : Int) < 3 by decide, b0, b1, if_false, Bool.false_eq_true, ↓e]
theorem l_is_free_ok {w : W} (h : GoodT w) (st : S) : op_l_is_free [w] st = .ok (.bl (freeW w)) st := by
 unfold op_l_is_free
 rw [ev_op1]
 unfold r_l_is_free
 rw [show (1 - 1 : Nat) = 0 from rfl, ev_rep0]
 cases h with
 | free z hz =>
  have hf := hz.1
  have h1 : runN (runsCons (rVar 0) (runsCons (rCon (.ty "str")) runsNil)) opIsi [some (.str z)] st = .ok (.bl true) st := rfl
  have hs : short z = true := by
   unfold freeB at hf
   by_cases hs : short z = true
   ·exact hs
   ·rw [if_neg hs] at hf; cases hf
  have hg : greatB z = true := by
   unfold freeB at hf
   rw [if_pos hs] at hf
   by_cases hg : greatB z = true
   ·exact hg
   ·rw [if_neg hg] at hf; cases hf
  have h2 := head_run (G := rCon (W.str "ABCDEFGHIJKLMNOPQRSTUVWXYZ")) (Γ := []) (st := st) (fun _ => rfl) (by have := hz.2; omega) hs
  rw [hg] at h2
  have : freeW (.str z) = true := hf
  simp only [EV, Nat.reduceSub, ↓h1, ↓h2, if_true, this]
 | name z hz =>
  have all : (["a", "b", "town", "abcdefgh"] : List Str).all (fun z => short z && (!greatB z && (!freeB z && decide (z.length ≤ 100)))) = true := by decide +kernel
  have ha := List.all_eq_true.mp all z hz
  simp only [Bool.and_eq_true, Bool.not_eq_true', decide_eq_true_eq] at ha
  obtain ⟨hs, hg, hf, hl⟩ := ha
  have h1 : runN (runsCons (rVar 0) (runsCons (rCon (.ty "str")) runsNil)) opIsi [some (.str z)] st = .ok (.bl true) st := rfl
  have h2 := head_run (G := rCon (W.str "ABCDEFGHIJKLMNOPQRSTUVWXYZ")) (Γ := []) (st := st) (fun _ => rfl) hl hs
  rw [hg] at h2
  have : freeW (.str z) = false := hf
  simp only [EV, Nat.reduceSub, ↓h1, ↓h2, if_true, this]
 | num i hi => rfl
theorem menu4 : ∀ z ∈ (["road", "way", "rain", "abcdefgh"] : List Str), nameB z = true ∧ z.length ≤ 8 := by
 have all : (["road", "way", "rain", "abcdefgh"] : List Str).all (fun z => nameB z && decide (z.length ≤ 8)) = true := by decide +kernel
 intro z hz
 have := List.all_eq_true.mp all z hz
 simp only [Bool.and_eq_true, decide_eq_true_eq] at this
 exact this
theorem pattern_by_ok (c : Int) (k : Nat) (hk : k ≤ 4) (st : S) : ∃ (n : Str) (ts : List W), (nameB n = true ∧ n.length ≤ 8) ∧ ts.length = k ∧ (∀ t ∈ ts, GoodT t) ∧ op_l_pattern_by [.int c, .int k] st = .ok (.tup (.str n :: ts)) st := by
 obtain ⟨m0, m1⟩ := mod_lt c 4 (by decide)
 have ef : ∀ Γ : Ga, runN (runsCons (rCon (W.str "road")) (runsCons (rCon (W.str "way")) (runsCons (rCon (W.str "rain")) (runsCons (rCon (W.str "abcdefgh")) runsNil)))) (opL false) Γ st = .ok (.lst ((["road", "way", "rain", "abcdefgh"] : List Str).map W.str)) st := fun _ => rfl
 have hi : run2 (rVar 0) (rCon (W.int 4)) opMod [some (.int c), some (.int k), none] st = .ok (.int (c % 4)) st := by simp only [EV, Nat.reduceSub, show (0 : Int) < 4 by decide]
 obtain ⟨w, hw, e⟩ := ix_lst (ef [some (.int c), some (.int k), none]) hi m0 (by show _ < 4; omega)
 obtain ⟨n, hn, rfl⟩ := List.mem_map.mp hw
 have hs : runRng1 (rVar 1) [some (.int c), some (.int k), some (.str n)] st = .ok (rangeW 0 k) st := by
  have := ev_rng1 (Γ := [some (.int c), some (.int k), some (.str n)]) (st := st) (rVar 1) (k : Int) rfl (by omega) (by omega)
  rwa [Int.toNat_natCast] at this
 obtain ⟨ts, h1, h2, h3⟩ := comp_ex (cap := [0]) (re := runN (runsCons (run2 (run2 (run2 (rVar 1) (rCon (W.int 4)) opDiv) (run2 (rCon (W.int 31)) (rVar 0) opMul) opAdd) (run2 (run2 (rVar 1) (rCon (W.int 97)) opDiv) (rVar 0) opMul) opAdd) runsNil) (calmOp op_l_term_by)) GoodT hs (by rw [len_rangeW]; omega) fun x hx => by
  obtain ⟨j, hj, rfl⟩ := mem_rangeW hx
  obtain ⟨w, hw, ew⟩ := term_by_ok (c / 4 + 31 * (j : Int) + c / 97 * (j : Int)) st
  refine ⟨w, hw, ?_⟩
  show runN _ _ [some (.int j), some (.int c)] st = _
  simp only [EV, Nat.reduceSub, show (0 : Int) < 4 by decide, show (4 : Int) < 1073741824 by decide, show (0 : Int) < 97 by decide, show (97 : Int) < 1073741824 by decide, ev_mulL 31 (j : Int) (by decide) (by decide), ev_mulR (c / 97) (j : Int) (by omega) (by omega), ew]
 rw [len_rangeW] at h1
 refine ⟨n, ts, menu4 n hn, h1, h2, ?_⟩
 unfold op_l_pattern_by
 rw [ev_op2]
 unfold r_l_pattern_by
 rw [show (3 - 2 : Nat) = 1 from rfl, ev_rep1]
 have e2 : runN (runsCons (rVar 2) runsNil) (opL false) [some (.int c), some (.int k), some (.str n)] st = .ok (.lst [.str n]) st := rfl
 have e3 : opAdd (.lst [.str n]) (.lst ts) st = .ok (.lst (.str n :: ts)) st := by
  show (if ([W.str n] : List W).length + ts.length ≤ sizeLine then R.ok (W.lst ([W.str n] ++ ts)) st else .stuck) = _
  rw [if_pos (size_small (by rw [h1]; show 1 + k ≤ 1000; omega))]; rfl
 have e4 : opTuple [.lst (.str n :: ts)] st = .ok (.tup (.str n :: ts)) st := by
  show opTup (.str n :: ts) st = _
  exact ev_tup _ (size_small (by rw [List.length_cons, h1]; omega))
 simp only [EV, Nat.reduceSub, ↓e, ↓e2, ↓h3, e3, e4]
theorem pat_good {n : Str} {ts : List W} (hn : nameB n = true ∧ n.length ≤ 8) (hl : ts.length ≤ 4) (ht : ∀ t ∈ ts, GoodT t) : Th (.tup (.str n :: ts)) ∧ patW (.tup (.str n :: ts)) = true := by
 refine ⟨.tup _ (by rw [List.length_cons]; omega) fun w hw => ?_, ?_⟩
 ·rcases List.mem_cons.mp hw with rfl | hw
  ·exact .str n (by omega)
  ·exact (ht w hw).th
 ·show (decide (ts.length ≤ 4) && (nameB n && ts.all termW)) = true
  rw [decide_eq_true hl, hn.1, List.all_eq_true.mpr fun t h => (ht t h).term]; rfl
theorem part_by_ok (c : Int) (st : S) : ∃ w, Th w ∧ partW w = true ∧ op_l_part_by [.int c] st = .ok w st := by
 obtain ⟨m0, m1⟩ := mod_lt c 6 (by decide)
 obtain ⟨l0, l1⟩ := mod_lt (c / 24) 5 (by decide)
 obtain ⟨n, ts, hn, hl, ht, ep⟩ := pattern_by_ok (c / 6) (c / 24 % 5).toNat (by omega) st
 rw [show (((c / 24 % 5).toNat : Nat) : Int) = c / 24 % 5 from by omega] at ep
 obtain ⟨hth, hpat⟩ := pat_good hn (by omega) ht
 have hpt : ∀ z : Str, z.length ≤ 100 → Th (.tup [.str z, .tup (.str n :: ts)]) := fun z hz => .tup _ (by show 2 ≤ 1000; decide) fun w hw => by
  simp only [List.mem_cons, List.not_mem_nil, or_false] at hw
  rcases hw with rfl | rfl
  ·exact .str z hz
  ·exact hth
 unfold op_l_part_by
 rw [ev_op1]
 unfold r_l_part_by
 rw [show (2 - 1 : Nat) = 1 from rfl, ev_rep1]
 have e24 : runN (runsCons (run2 (rVar 0) (rCon (W.int 6)) opDiv) (runsCons (run2 (run2 (rVar 0) (rCon (W.int 24)) opDiv) (rCon (W.int 5)) opMod) runsNil)) (calmOp op_l_pattern_by) [some (.int c), none] st = .ok (.tup (.str n :: ts)) st := by
  simp only [EV, Nat.reduceSub, show (0 : Int) < 6 by decide, show (6 : Int) < 1073741824 by decide, show (0 : Int) < 24 by decide, show (24 : Int) < 1073741824 by decide, show (0 : Int) < 5 by decide, ep]
 by_cases h0 : c % 6 < 2
 ·have d0 : decide (c % 6 < 2) = true := decide_eq_true h0
  refine ⟨.tup [.str "has", .tup (.str n :: ts)], hpt "has" (by decide), hpat, ?_⟩
  have et : opTup [.str "has", .tup (.str n :: ts)] st = .ok (.tup [.str "has", .tup (.str n :: ts)]) st := rfl
  simp only [EV, Nat.reduceSub, show (0 : Int) < 6 by decide, d0, if_true, ↓e24, et]
 ·have d0 : decide (c % 6 < 2) = false := decide_eq_false h0
  by_cases h1 : c % 6 = 2
  ·have b1 : (c % 6 == 2) = true := beq_iff_eq.mpr h1
   refine ⟨.tup [.str "not", .tup (.str n :: ts)], hpt "not" (by decide), hpat, ?_⟩
   have et : opTup [.str "not", .tup (.str n :: ts)] st = .ok (.tup [.str "not", .tup (.str n :: ts)]) st := rfl
   simp only [EV, Nat.reduceSub, show (0 : Int) < 6 by decide, d0, if_false, Bool.false_eq_true, b1, if_true, ↓e24, et]
  ·have b1 : (c % 6 == 2) = false := beq_false_of_ne h1
   have hs : runRng1 (rCon (W.int 3)) [some (.int c), none] st = .ok (rangeW 0 3) st := rfl
   obtain ⟨us, hu1, hu2, hu3⟩ := comp_ex (cap := [0]) (re := runN (runsCons (run2 (run2 (run2 (rVar 1) (rCon (W.int 6)) opDiv) (run2 (rCon (W.int 13)) (rVar 0) opMul) opAdd) (run2 (run2 (rVar 1) (rCon (W.int 41)) opDiv) (rVar 0) opMul) opAdd) runsNil) (calmOp op_l_term_by)) GoodT hs (by decide) fun x hx => by
    obtain ⟨j, hj, rfl⟩ := mem_rangeW hx
    obtain ⟨w, hw, ew⟩ := term_by_ok (c / 6 + 13 * (j : Int) + c / 41 * (j : Int)) st
    refine ⟨w, hw, ?_⟩
    show runN _ _ [some (.int j), some (.int c)] st = _
    simp only [EV, Nat.reduceSub, show (0 : Int) < 6 by decide, show (6 : Int) < 1073741824 by decide, show (0 : Int) < 41 by decide, show (41 : Int) < 1073741824 by decide, ev_mulL 13 (j : Int) (by decide) (by decide), ev_mulR (c / 41) (j : Int) (by omega) (by omega), ew]
   rw [len_rangeW] at hu1
   match us, hu1 with
   | [t0, t1, t2], _ =>
    have g0 := hu2 t0 (by simp)
    have g1 := hu2 t1 (by simp)
    have g2 := hu2 t2 (by simp)
    have i0 : opIdx (.lst [t0, t1, t2]) (.int 0) st = .ok t0 st := rfl
    have i1 : opIdx (.lst [t0, t1, t2]) (.int 1) st = .ok t1 st := rfl
    have i2 : opIdx (.lst [t0, t1, t2]) (.int 2) st = .ok t2 st := rfl
    by_cases h2 : c % 6 = 5
    ·have b2 : (c % 6 == 5) = true := beq_iff_eq.mpr h2
     refine ⟨.tup [.str "plus", t0, t1, t2], .tup _ (by show 4 ≤ 1000; decide) fun w hw => ?_, ?_, ?_⟩
     ·simp only [List.mem_cons, List.not_mem_nil, or_false] at hw
      rcases hw with rfl | rfl | rfl | rfl
      ·exact .str _ (by decide)
      ·exact g0.th
      ·exact g1.th
      ·exact g2.th
     ·show (true && ([t0, t1, t2] : List W).all termW) = true
      simp [g0.term, g1.term, g2.term]
     ·have et : opTup [.str "plus", t0, t1, t2] st = .ok (.tup [.str "plus", t0, t1, t2]) st := rfl
      simp only [EV, Nat.reduceSub, show (0 : Int) < 6 by decide, d0, b1, b2, if_false, Bool.false_eq_true, if_true, ↓hu3, i0, i1, i2, et]
    ·have b2 : (c % 6 == 5) = false := beq_false_of_ne h2
     have hm : ∀ Γ : Ga, runN (runsCons (rCon (W.str "less")) (runsCons (rCon (W.str "same")) runsNil)) (opL false) Γ st = .ok (.lst ((["less", "same"] : List Str).map W.str)) st := fun _ => rfl
     have hi : run2 (run2 (rVar 0) (rCon (W.int 6)) opMod) (rCon (W.int 3)) opSub [some (.int c), some (.lst [t0, t1, t2])] st = .ok (.int (c % 6 - 3)) st := by simp only [EV, Nat.reduceSub, show (0 : Int) < 6 by decide]
     obtain ⟨w, hw, ew⟩ := ix_lst (hm [some (.int c), some (.lst [t0, t1, t2])]) hi (by omega) (by show _ < 2; omega)
     obtain ⟨z, hz, rfl⟩ := List.mem_map.mp hw
     have hz2 : pwB z = false ∧ cntW z = some 2 ∧ z.length ≤ 100 := by
      simp only [List.mem_cons, List.not_mem_nil, or_false] at hz
      rcases hz with rfl | rfl <;> exact ⟨by decide, by decide, by decide⟩
     refine ⟨.tup [.str z, t0, t1], .tup _ (by show 3 ≤ 1000; decide) fun w hw => ?_, ?_, ?_⟩
     ·simp only [List.mem_cons, List.not_mem_nil, or_false] at hw
      rcases hw with rfl | rfl | rfl
      ·exact .str _ hz2.2.2
      ·exact g0.th
      ·exact g1.th
     ·show (if pwB z = true then _ else (match cntW z with | some n => ([t0, t1] : List W).length == n && ([t0, t1] : List W).all termW | none => false)) = true
      rw [hz2.1, hz2.2.1]
      simp [g0.term, g1.term]
     ·have et : opTup [.str z, t0, t1] st = .ok (.tup [.str z, t0, t1]) st := rfl
      simp only [EV, Nat.reduceSub, show (0 : Int) < 6 by decide, d0, b1, b2, if_false, Bool.false_eq_true, ↓hu3, ↓ew, i0, i1, et]
end DL.My
namespace DL.My
open PySem L2
theorem patW_bad {x : W} {xs : List W} (h : (∃ t ∈ xs, termW t = false) ∨ nameW x = false ∨ 4 < xs.length) : patW (.tup (x :: xs)) = false := by
 show (decide (xs.length ≤ 4) && (nameW x && xs.all termW)) = false
 rcases h with ⟨t, ht, e⟩ | h | h
 ·have : xs.all termW = false := by
   cases hh : xs.all termW with
   | false => rfl
   | true => have := List.all_eq_true.mp hh t ht; rw [e] at this; cases this
  rw [this]; simp
 ·rw [h]; simp
 ·rw [decide_eq_false (by omega)]; rfl
def noTerms : List W := [.non, .bl true, .int 1000000000, .str "", .str "aB", .str "XYZ", .str "not", .tup [.int 1], .str "abcdefghi", .str "Abcdefghi", .str " a", .int (-1000000000), .lst [.str "a"], .dct [] []]
theorem noTerms_ok : ∀ w ∈ noTerms, Th w ∧ termW w = false := by
 intro w hw
 unfold noTerms at hw
 simp only [List.mem_cons, List.not_mem_nil, or_false] at hw
 rcases hw with rfl | rfl | rfl | rfl | rfl | rfl | rfl | rfl | rfl | rfl | rfl | rfl | rfl | rfl
 ·exact ⟨.non, rfl⟩
 ·exact ⟨.bl _, rfl⟩
 ·exact ⟨.int _, by decide⟩
 ·exact ⟨.str _ (by decide), by decide +kernel⟩
 ·exact ⟨.str _ (by decide), by decide +kernel⟩
 ·exact ⟨.str _ (by decide), by decide +kernel⟩
 ·exact ⟨.str _ (by decide), by decide +kernel⟩
 ·exact ⟨.tup _ (by decide) (fun w h => by rw [List.mem_singleton.mp h]; exact .int 1), rfl⟩
 ·exact ⟨.str _ (by decide), by decide +kernel⟩
 ·exact ⟨.str _ (by decide), by decide +kernel⟩
 ·exact ⟨.str _ (by decide), by decide +kernel⟩
 ·exact ⟨.int _, by decide⟩
 ·exact ⟨.lst _, rfl⟩
 ·exact ⟨.dct _ _, rfl⟩
def noNames : List W := [.str "", .str "if", .str "Road", .str "abcdefghi", .str "a b", .int 5, .non, .bl true, .str "x1", .lst [], .tup [.str "a"]]
theorem noNames_ok : ∀ w ∈ noNames, Th w ∧ nameW w = false := by
 intro w hw
 unfold noNames at hw
 simp only [List.mem_cons, List.not_mem_nil, or_false] at hw
 rcases hw with rfl | rfl | rfl | rfl | rfl | rfl | rfl | rfl | rfl | rfl | rfl
 ·exact ⟨.str _ (by decide), by decide +kernel⟩
 ·exact ⟨.str _ (by decide), by decide +kernel⟩
 ·exact ⟨.str _ (by decide), by decide +kernel⟩
 ·exact ⟨.str _ (by decide), by decide +kernel⟩
 ·exact ⟨.str _ (by decide), by decide +kernel⟩
 ·exact ⟨.int _, rfl⟩
 ·exact ⟨.non, rfl⟩
 ·exact ⟨.bl _, rfl⟩
 ·exact ⟨.str _ (by decide), by decide +kernel⟩
 ·exact ⟨.lst _, rfl⟩
 ·exact ⟨.tup _ (by decide) (fun w h => by rw [List.mem_singleton.mp h]; exact .str _ (by decide)), rfl⟩
def noPats : List W := [.tup [], .non, .str "road", .int 5, .dct [] []]
theorem noPats_ok : ∀ w ∈ noPats, Th w ∧ patW w = false := by
 intro w hw
 unfold noPats at hw
 simp only [List.mem_cons, List.not_mem_nil, or_false] at hw
 rcases hw with rfl | rfl | rfl | rfl | rfl
 ·exact ⟨.tup _ (by decide) (fun w h => by cases h), rfl⟩
 ·exact ⟨.non, rfl⟩
 ·exact ⟨.str _ (by decide), rfl⟩
 ·exact ⟨.int _, rfl⟩
 ·exact ⟨.dct _ _, rfl⟩
theorem addT (xs ys : List W) (st : S) (h : xs ≠ []) (hl : xs.length + ys.length ≤ 1000) : opAdd (.tup xs) (.tup ys) st = .ok (.tup (xs ++ ys)) st := if_pos ⟨h, size_small hl⟩
theorem spoilt_pattern_ok {n : Str} {ts : List W} (hn : nameB n = true ∧ n.length ≤ 8) (hl : ts.length ≤ 4) (ht : ∀ t ∈ ts, Th t) (c : Int) (st : S) : ∃ w, Th w ∧ patW w = false ∧ op_l_spoilt_pattern [.tup (.str n :: ts), .int c] st = .ok w st := by
 obtain ⟨m0, m1⟩ := mod_lt (c / 6) 11 (by decide)
 obtain ⟨l0, l1⟩ := mod_lt (c / 66) 14 (by decide)
 obtain ⟨q0, q1⟩ := mod_lt (c / 6) 5 (by decide)
 obtain ⟨r0, r1⟩ := mod_lt c 6 (by decide)
 have hmx : ∃ m : Nat, (if ((ts.length : Int) + 1 - 1) > 1 then ((ts.length : Int) + 1 - 1) else 1) = (m : Int) ∧ 1 ≤ m ∧ m ≤ 4 ∧ (ts.length ≤ m) ∧ (m = 1 ∨ m = ts.length) := by
  by_cases h : ((ts.length : Int) + 1 - 1) > 1
  ·exact ⟨ts.length, by rw [if_pos h]; omega, by omega, hl, Nat.le_refl _, .inr rfl⟩
  ·exact ⟨1, by rw [if_neg h]; rfl, by omega, by omega, by omega, .inl rfl⟩
 obtain ⟨m, em, hm1, hm4, hmt, hme⟩ := hmx
 obtain ⟨a0, a1⟩ := mod_lt (c / 66) (m : Int) (by omega)
 have e1 : run2 (runN (runsCons (rCon (W.str "")) (runsCons (rCon (W.str "if")) (runsCons (rCon (W.str "Road")) (runsCons (rCon (W.str "abcdefghi")) (runsCons (rCon (W.str "a b")) (runsCons (rCon (W.int 5)) (runsCons (rCon W.non) (runsCons (rCon (W.bl true)) (runsCons (rCon (W.str "x1")) (runsCons (runN runsNil (opL false)) (runsCons (runN (runsCons (rCon (W.str "a")) runsNil) opTup) runsNil))))))))))) (opL false)) (run2 (run2 (rVar 1) (rCon (W.int 6)) opDiv) (rCon (W.int 11)) opMod) opIdx [some (.tup (.str n :: ts)), some (.int c), none, none, none] st = _ := rfl
 have ef : runN (runsCons (rCon (W.str "")) (runsCons (rCon (W.str "if")) (runsCons (rCon (W.str "Road")) (runsCons (rCon (W.str "abcdefghi")) (runsCons (rCon (W.str "a b")) (runsCons (rCon (W.int 5)) (runsCons (rCon W.non) (runsCons (rCon (W.bl true)) (runsCons (rCon (W.str "x1")) (runsCons (runN runsNil (opL false)) (runsCons (runN (runsCons (rCon (W.str "a")) runsNil) opTup) runsNil))))))))))) (opL false) [some (.tup (.str n :: ts)), some (.int c), none, none, none] st = .ok (.lst noNames) st := rfl
 have hi : run2 (run2 (rVar 1) (rCon (W.int 6)) opDiv) (rCon (W.int 11)) opMod [some (.tup (.str n :: ts)), some (.int c), none, none, none] st = .ok (.int (c / 6 % 11)) st := by
  simp only [EV, Nat.reduceSub, show (0 : Int) < 6 by decide, show (6 : Int) < 1073741824 by decide, show (0 : Int) < 11 by decide]
 obtain ⟨bad, hbad, eb⟩ := ix_lst ef hi m0 (by show _ < 11; omega)
 clear e1
 obtain ⟨hb1, hb2⟩ := noNames_ok bad hbad
 have eat : run2 (rCon (W.int 1)) (run2 (run2 (rVar 1) (rCon (W.int 66)) opDiv) (runN (runsCons (rCon (W.int 1)) (runsCons (run2 (runN (runsCons (rVar 0) runsNil) opLen) (rCon (W.int 1)) opSub) runsNil)) opMax) opMod) opAdd [some (.tup (.str n :: ts)), some (.int c), some bad, none, none] st = .ok (.int (1 + c / 66 % (m : Int))) st := by
  have hx : opMax [.int 1, .int (((.str n :: ts : List W).length : Int) - 1)] st = .ok (.int (m : Int)) st := by
   show R.ok (W.int (if ((((.str n :: ts : List W).length : Int) - 1) > 1) then (((.str n :: ts : List W).length : Int) - 1) else 1)) st = _
   rw [List.length_cons, Int.natCast_succ, em]
  simp only [EV, Nat.reduceSub, show (0 : Int) < 66 by decide, show (66 : Int) < 1073741824 by decide, hx, ev_modI _ _ (show (0 : Int) < (m : Int) by omega)]
 have hat : (1 + c / 66 % (m : Int)) = ((1 + (c / 66 % (m : Int)).toNat : Nat) : Int) := by omega
 unfold op_l_spoilt_pattern
 rw [ev_op2]
 unfold r_l_spoilt_pattern
 rw [show (5 - 2 : Nat) = 3 from rfl, ev_rep3, ev_seq, ev_s2, eb, ev_ok, ev_ok, kSeq_nx, ev_seq, ev_s3, eat, ev_ok, ev_ok, kSeq_nx]
 by_cases h0 : c % 6 = 0
 ·have b0 : (c % 6 == 0) = true := beq_iff_eq.mpr h0
  refine ⟨.lst (.str n :: ts), .lst _, rfl, ?_⟩
  have et : opList false [.tup (.str n :: ts)] st = .ok (.lst (.str n :: ts)) st := ev_lst _ (size_small (by rw [List.length_cons]; omega))
  simp only [EV, Nat.reduceSub, show (0 : Int) < 6 by decide, b0, if_true, et]
 have b0 : (c % 6 == 0) = false := beq_false_of_ne h0
 by_cases h1 : c % 6 = 1
 ·have b1 : (c % 6 == 1) = true := beq_iff_eq.mpr h1
  refine ⟨.tup (bad :: ts), .tup _ (by rw [List.length_cons]; omega) (fun w hw => ?_), patW_bad (.inr (.inl hb2)), ?_⟩
  ·rcases List.mem_cons.mp hw with rfl | hw
   ·exact hb1
   ·exact ht w hw
  ·have et : opTup [bad] st = .ok (.tup [bad]) st := rfl
   simp only [EV, Nat.reduceSub, show (0 : Int) < 6 by decide, b0, if_false, Bool.false_eq_true, b1, if_true, et, cut1, addT [bad] ts st (by simp) (by show 1 + _ ≤ 1000; omega)]
   rfl
 have b1 : (c % 6 == 1) = false := beq_false_of_ne h1
 by_cases h2 : c % 6 = 2
 ·have b2 : (c % 6 == 2) = true := beq_iff_eq.mpr h2
  have es : runN (runsCons (rCon W.non) (runsCons (rCon (W.bl true)) (runsCons (rCon (W.int 1000000000)) (runsCons (rCon (W.str "")) (runsCons (rCon (W.str "aB")) (runsCons (rCon (W.str "XYZ")) (runsCons (rCon (W.str "not")) (runsCons (runN (runsCons (rCon (W.int 1)) runsNil) opTup) (runsCons (rCon (W.str "abcdefghi")) (runsCons (rCon (W.str "Abcdefghi")) (runsCons (rCon (W.str " a")) (runsCons (run1 (rCon (W.int 1000000000)) opNeg) runsNil)))))))))))) (opL false) [some (.tup (.str n :: ts)), some (.int c), some bad, some (.int (1 + c / 66 % (m : Int))), none] st = .ok (.lst (noTerms.take 12)) st := rfl
  have ef2 : run2 (rVar 4) (runN (runsCons (runN (runsCons (rCon (W.str "a")) runsNil) (opL false)) (runsCons rDict0 runsNil)) (opL false)) opAdd [some (.tup (.str n :: ts)), some (.int c), some bad, some (.int (1 + c / 66 % (m : Int))), some (.lst (noTerms.take 12))] st = .ok (.lst noTerms) st := rfl
  have hi2 : run2 (run2 (rVar 1) (rCon (W.int 66)) opDiv) (rCon (W.int 14)) opMod [some (.tup (.str n :: ts)), some (.int c), some bad, some (.int (1 + c / 66 % (m : Int))), some (.lst (noTerms.take 12))] st = .ok (.int (c / 66 % 14)) st := by
   simp only [EV, Nat.reduceSub, show (0 : Int) < 66 by decide, show (66 : Int) < 1073741824 by decide, show (0 : Int) < 14 by decide]
  obtain ⟨bt, hbt, ebt⟩ := ix_lst ef2 hi2 l0 (by show _ < 14; omega)
  obtain ⟨ht1, ht2⟩ := noTerms_ok bt hbt
  have hk : (1 + (c / 66 % (m : Int)).toNat : Nat) = (c / 66 % (m : Int)).toNat + 1 := Nat.add_comm _ _
  have hd : (1 + c / 66 % (m : Int)) + 1 = (((c / 66 % (m : Int)).toNat + 2 : Nat) : Int) := by omega
  have ek1 : cutW (.str n :: ts) none (some (1 + c / 66 % (m : Int))) = .str n :: ts.take (c / 66 % (m : Int)).toNat := by rw [hat, cut_hi, hk, List.take_succ_cons]
  have ek2 : cutW (.str n :: ts) (some ((1 + c / 66 % (m : Int)) + 1)) none = ts.drop ((c / 66 % (m : Int)).toNat + 1) := by rw [hd, cut_lo]; rfl
  have et : opTup [bt] st = .ok (.tup [bt]) st := rfl
  have hl1 : (ts.take (c / 66 % (m : Int)).toNat).length ≤ 4 := by rw [List.length_take]; omega
  have hl2 : (ts.drop ((c / 66 % (m : Int)).toNat + 1)).length ≤ 4 := by rw [List.length_drop]; omega
  refine ⟨.tup (.str n :: (ts.take (c / 66 % (m : Int)).toNat ++ [bt] ++ ts.drop ((c / 66 % (m : Int)).toNat + 1))), .tup _ ?_ (fun w hw => ?_), patW_bad (.inl ⟨bt, by simp, ht2⟩), ?_⟩
  ·rw [List.length_cons, List.length_append, List.length_append, List.length_singleton]; omega
  ·rcases List.mem_cons.mp hw with rfl | hw
   ·exact .str n (by omega)
   ·rcases List.mem_append.mp hw with hw | hw
    ·rcases List.mem_append.mp hw with hw | hw
     ·exact ht w (List.mem_of_mem_take hw)
     ·rw [List.mem_singleton.mp hw]; exact ht1
    ·exact ht w (List.mem_of_mem_drop hw)
  ·have a1 := addT (.str n :: ts.take (c / 66 % (m : Int)).toNat) [bt] st (by simp) (by rw [List.length_cons, List.length_singleton]; omega)
   have a2 := addT ((.str n :: ts.take (c / 66 % (m : Int)).toNat) ++ [bt]) (ts.drop ((c / 66 % (m : Int)).toNat + 1)) st (by simp) (by rw [List.length_append, List.length_cons, List.length_singleton]; omega)
   simp only [EV, Nat.reduceSub, show (0 : Int) < 6 by decide, b0, b1, b2, if_false, Bool.false_eq_true, if_true, ↓es, ↓ebt, et, ek1, ek2, a1, a2]
   simp
 have b2 : (c % 6 == 2) = false := beq_false_of_ne h2
 by_cases h3 : c % 6 = 3
 ·have b3 : (c % 6 == 3) = true := beq_iff_eq.mpr h3
  refine ⟨.tup (.str n :: [.int 1, .int 2, .int 3, .int 4, .int 5]), .tup _ (by show 6 ≤ 1000; decide) (fun w hw => ?_), patW_bad (.inr (.inr (by decide))), ?_⟩
  ·simp only [List.mem_cons, List.not_mem_nil, or_false] at hw
   rcases hw with rfl | rfl | rfl | rfl | rfl | rfl
   ·exact .str n (by omega)
   all_goals exact .int _
  ·have et : opTup [.int 1, .int 2, .int 3, .int 4, .int 5] st = .ok (.tup [.int 1, .int 2, .int 3, .int 4, .int 5]) st := rfl
   have ek : cutW (.str n :: ts) none (some 1) = [.str n] := by rw [show (some (1 : Int)) = some ((1 : Nat) : Int) from rfl, cut_hi]; rfl
   have a1 := addT [.str n] [.int 1, .int 2, .int 3, .int 4, .int 5] st (by simp) (by show 6 ≤ 1000; decide)
   simp only [EV, Nat.reduceSub, show (0 : Int) < 6 by decide, b0, b1, b2, b3, if_false, Bool.false_eq_true, if_true, et, ek, a1]
   rfl
 have b3 : (c % 6 == 3) = false := beq_false_of_ne h3
 have ef3 : runN (runsCons (runN runsNil opTup) (runsCons (rCon W.non) (runsCons (rCon (W.str "road")) (runsCons (rCon (W.int 5)) (runsCons rDict0 runsNil))))) (opL false) [some (.tup (.str n :: ts)), some (.int c), some bad, some (.int (1 + c / 66 % (m : Int))), none] st = .ok (.lst noPats) st := rfl
 have hi3 : run2 (run2 (rVar 1) (rCon (W.int 6)) opDiv) (rCon (W.int 5)) opMod [some (.tup (.str n :: ts)), some (.int c), some bad, some (.int (1 + c / 66 % (m : Int))), none] st = .ok (.int (c / 6 % 5)) st := by
  simp only [EV, Nat.reduceSub, show (0 : Int) < 6 by decide, show (6 : Int) < 1073741824 by decide, show (0 : Int) < 5 by decide]
 obtain ⟨w, hw, ew⟩ := ix_lst ef3 hi3 q0 (by show _ < 5; omega)
 obtain ⟨hw1, hw2⟩ := noPats_ok w hw
 refine ⟨w, hw1, hw2, ?_⟩
 simp only [EV, Nat.reduceSub, show (0 : Int) < 6 by decide, b0, b1, b2, b3, if_false, Bool.false_eq_true, ↓ew]
end DL.My
namespace DL.My
open PySem L2
theorem Th.two {a b : W} (ha : Th a) (hb : Th b) : Th (.tup [a, b]) := .tup _ (by show 2 ≤ 1000; decide) fun w hw => by
 simp only [List.mem_cons, List.not_mem_nil, or_false] at hw
 rcases hw with rfl | rfl <;> assumption
theorem Th.three {a b c : W} (ha : Th a) (hb : Th b) (hc : Th c) : Th (.tup [a, b, c]) := .tup _ (by show 3 ≤ 1000; decide) fun w hw => by
 simp only [List.mem_cons, List.not_mem_nil, or_false] at hw
 rcases hw with rfl | rfl | rfl <;> assumption
theorem Th.four {a b c d : W} (ha : Th a) (hb : Th b) (hc : Th c) (hd : Th d) : Th (.tup [a, b, c, d]) := .tup _ (by show 4 ≤ 1000; decide) fun w hw => by
 simp only [List.mem_cons, List.not_mem_nil, or_false] at hw
 rcases hw with rfl | rfl | rfl | rfl <;> assumption
theorem Th.cons {a : W} {xs : List W} (ha : Th a) (hx : ∀ y ∈ xs, Th y) (hl : xs.length ≤ 999) : Th (.tup (a :: xs)) := .tup _ (by rw [List.length_cons]; omega) fun w hw => by
 rcases List.mem_cons.mp hw with rfl | hw
 ·exact ha
 ·exact hx w hw
theorem cnt_pos {z : Str} {n : Nat} (h : cntW z = some n) : 2 ≤ n ∧ n ≤ 3 := by
 unfold cntW at h
 repeat' split at h
 all_goals first | (cases h; decide) | cases h
def badParts (z : Str) (xs : List W) (bad : W) : List W :=
  [.lst (.str z :: xs), .tup [.str z], .tup (.str z :: (xs ++ [.int 1])), .tup (.str "is" :: xs), .tup (.non :: xs), .tup [.str "has", bad], .non,
   .tup [.str "less", .int 1], .tup [.str "plus", .int 1, .int 2], .tup [.str "same", .int 1, .int 2, .int 3], .tup [.str "not", bad], .tup [.str "less", .int 1, .non], .tup [], .str "has",
   .tup (.lst [.str "has"] :: xs), .tup [.str "less", .lst [.int 1], .int 1], .tup [.str "has", .lst [.str "road", .int 1]],
   .tup [.str "plus", .int 1, .int 2, .str "abcdefghi"], .tup [.str "less", .tup [.int 1], .int 1]]
theorem badParts_ok {z : Str} {xs : List W} {bad : W} (hz : z.length ≤ 100) (hx : ∀ y ∈ xs, Th y) (hxl : xs.length ≤ 4) (hb : Th bad) (hb2 : patW bad = false)
  (hc : (pwB z = true ∧ xs.length = 1) ∨ (pwB z = false ∧ ∃ n, cntW z = some n ∧ xs.length = n)) : ∀ w ∈ badParts z xs bad, Th w ∧ partW w = false := by
 intro w hw
 unfold badParts at hw
 simp only [List.mem_cons, List.not_mem_nil, or_false] at hw
 have s : ∀ x : Str, x.length ≤ 100 → Th (.str x) := fun x h => .str x h
 rcases hw with rfl | rfl | rfl | rfl | rfl | rfl | rfl | rfl | rfl | rfl | rfl | rfl | rfl | rfl | rfl | rfl | rfl | rfl | rfl
 ·exact ⟨.lst _, rfl⟩
 ·refine ⟨Th.cons (s z hz) (fun y h => by cases h) (by decide), ?_⟩
  show (if pwB z = true then false else (match cntW z with | some n => (0 : Nat) == n && true | none => false)) = false
  rcases hc with ⟨e, _⟩ | ⟨e, n, hn, _⟩
  ·rw [e]; rfl
  ·rw [e, hn]
   have := (cnt_pos hn).1
   show (((0 : Nat) == n) && true) = false
   rw [beq_false_of_ne (by omega)]; rfl
 ·refine ⟨Th.cons (s z hz) (fun y h => ?_) (by rw [List.length_append, List.length_singleton]; omega), ?_⟩
  ·rcases List.mem_append.mp h with h | h
   ·exact hx y h
   ·rw [List.mem_singleton.mp h]; exact .int 1
  ·rcases hc with ⟨e, h1⟩ | ⟨e, n, hn, h1⟩
   ·match xs, h1 with
    | [p], _ =>
     show (if pwB z = true then false else _) = false
     rw [if_pos e]
   ·show (if pwB z = true then _ else (match cntW z with | some n => (xs ++ [W.int 1]).length == n && (xs ++ [W.int 1]).all termW | none => false)) = false
    rw [e, hn]
    show (((xs ++ [W.int 1]).length == n) && (xs ++ [W.int 1]).all termW) = false
    rw [beq_false_of_ne (by rw [List.length_append, List.length_singleton]; omega)]; rfl
 ·exact ⟨Th.cons (s _ (by decide)) hx (by omega), rfl⟩
 ·exact ⟨Th.cons .non hx (by omega), rfl⟩
 ·exact ⟨Th.two (s _ (by decide)) hb, hb2⟩
 ·exact ⟨.non, rfl⟩
 ·exact ⟨Th.two (s _ (by decide)) (.int 1), rfl⟩
 ·exact ⟨Th.three (s _ (by decide)) (.int 1) (.int 2), rfl⟩
 ·exact ⟨Th.four (s _ (by decide)) (.int 1) (.int 2) (.int 3), rfl⟩
 ·exact ⟨Th.two (s _ (by decide)) hb, hb2⟩
 ·exact ⟨Th.three (s _ (by decide)) (.int 1) .non, by decide⟩
 ·exact ⟨.tup _ (by decide) (fun w h => by cases h), rfl⟩
 ·exact ⟨s _ (by decide), rfl⟩
 ·exact ⟨Th.cons (.lst _) hx (by omega), rfl⟩
 ·exact ⟨Th.three (s _ (by decide)) (.lst _) (.int 1), by decide⟩
 ·exact ⟨Th.two (s _ (by decide)) (.lst _), rfl⟩
 ·exact ⟨Th.four (s _ (by decide)) (.int 1) (.int 2) (s _ (by decide)), by decide +kernel⟩
 ·exact ⟨Th.three (s _ (by decide)) (.tup _ (by decide) fun w h => by rw [List.mem_singleton.mp h]; exact .int 1) (.int 1), by decide⟩
theorem spoilt_part_ok {p bad : W} (hp : Th p) (hpp : partW p = true) (hb : Th bad) (hb2 : patW bad = false) (c : Int) (st : S) : ∃ w, Th w ∧ partW w = false ∧ op_l_spoilt_part [p, bad, .int c] st = .ok w st := by
 obtain ⟨z, xs, rfl, hz, hl, hx, hc⟩ := part_shape hp hpp
 have hxl : xs.length ≤ 4 := by
  rcases hc with ⟨_, n, ts, rfl, _, _⟩ | ⟨_, n, hn, e⟩
  ·show 1 ≤ 4; decide
  ·have := (cnt_pos hn).2; omega
 have hc' : (pwB z = true ∧ xs.length = 1) ∨ (pwB z = false ∧ ∃ n, cntW z = some n ∧ xs.length = n) := by
  rcases hc with ⟨e, n, ts, rfl, _, _⟩ | ⟨e, n, hn, e2⟩
  ·exact .inl ⟨e, rfl⟩
  ·exact .inr ⟨e, n, hn, e2⟩
 obtain ⟨m0, m1⟩ := mod_lt c 19 (by decide)
 have k1 : cutW (.str z :: xs) none (some 1) = [.str z] := by rw [show (some (1 : Int)) = some ((1 : Nat) : Int) from rfl, cut_hi]; rfl
 have a1 := addT (.str z :: xs) [.int 1] st (by simp) (by rw [List.length_cons, List.length_singleton]; omega)
 have a2 : ∀ y : W, opAdd (.tup [y]) (.tup xs) st = .ok (.tup (y :: xs)) st := fun y => addT [y] xs st (by simp) (by rw [List.length_singleton]; omega)
 have t1 : ∀ y : W, opTup [y] st = .ok (.tup [y]) st := fun _ => rfl
 have t2 : ∀ y y' : W, opTup [y, y'] st = .ok (.tup [y, y']) st := fun _ _ => rfl
 have li : opList false [.tup (.str z :: xs)] st = .ok (.lst (.str z :: xs)) st := ev_lst _ (size_small (by rw [List.length_cons]; omega))
 have o1 : ∀ ws : List W, ws.length ≤ 1000 → opL false ws st = .ok (.lst ws) st := fun ws h => ev_lst ws (size_small h)
 have c1 : ∀ ws us : List W, ws.length + us.length ≤ 1000 → opAdd (.lst ws) (.lst us) st = .ok (.lst (ws ++ us)) st := fun ws us h => if_pos (size_small h)
 have s1 : runN (runsCons (runN (runsCons (rVar 0) runsNil) (opList false)) (runsCons (runSlNS false (rVar 0) (rCon (W.int 1))) (runsCons (run2 (rVar 0) (runN (runsCons (rCon (W.int 1)) runsNil) opTup) opAdd) (runsCons (run2 (runN (runsCons (rCon (W.str "is")) runsNil) opTup) (runSlSN false (rVar 0) (rCon (W.int 1))) opAdd) (runsCons (run2 (runN (runsCons (rCon W.non) runsNil) opTup) (runSlSN false (rVar 0) (rCon (W.int 1))) opAdd) (runsCons (runN (runsCons (rCon (W.str "has")) (runsCons (rVar 1) runsNil)) opTup) (runsCons (rCon W.non) runsNil))))))) (opL false) [some (.tup (.str z :: xs)), some bad, some (.int c), none] st = .ok (.lst ((badParts z xs bad).take 7)) st := by
  simp only [EV, Nat.reduceSub, li, k1, a1, a2, t1, t2, cut1]
  rfl
 have s2 : run2 (rVar 3) (runN (runsCons (runN (runsCons (rCon (W.str "less")) (runsCons (rCon (W.int 1)) runsNil)) opTup) (runsCons (runN (runsCons (rCon (W.str "plus")) (runsCons (rCon (W.int 1)) (runsCons (rCon (W.int 2)) runsNil))) opTup) (runsCons (runN (runsCons (rCon (W.str "same")) (runsCons (rCon (W.int 1)) (runsCons (rCon (W.int 2)) (runsCons (rCon (W.int 3)) runsNil)))) opTup) (runsCons (runN (runsCons (rCon (W.str "not")) (runsCons (rVar 1) runsNil)) opTup) (runsCons (runN (runsCons (rCon (W.str "less")) (runsCons (rCon (W.int 1)) (runsCons (rCon W.non) runsNil))) opTup) (runsCons (runN runsNil opTup) (runsCons (rCon (W.str "has")) runsNil))))))) (opL false)) opAdd [some (.tup (.str z :: xs)), some bad, some (.int c), some (.lst ((badParts z xs bad).take 7))] st = .ok (.lst ((badParts z xs bad).take 14)) st := rfl
 have s3 : run2 (rVar 3) (runN (runsCons (run2 (runN (runsCons (runN (runsCons (rCon (W.str "has")) runsNil) (opL false)) runsNil) opTup) (runSlSN false (rVar 0) (rCon (W.int 1))) opAdd) (runsCons (runN (runsCons (rCon (W.str "less")) (runsCons (runN (runsCons (rCon (W.int 1)) runsNil) (opL false)) (runsCons (rCon (W.int 1)) runsNil))) opTup) (runsCons (runN (runsCons (rCon (W.str "has")) (runsCons (runN (runsCons (rCon (W.str "road")) (runsCons (rCon (W.int 1)) runsNil)) (opL false)) runsNil)) opTup) runsNil))) (opL false)) opAdd [some (.tup (.str z :: xs)), some bad, some (.int c), some (.lst ((badParts z xs bad).take 14))] st = .ok (.lst ((badParts z xs bad).take 17)) st := by
  simp only [EV, Nat.reduceSub, t1, t2, cut1, a2, o1 [.str "has"] (by decide)]
  rfl
 have s4 : run2 (rVar 3) (runN (runsCons (runN (runsCons (rCon (W.str "plus")) (runsCons (rCon (W.int 1)) (runsCons (rCon (W.int 2)) (runsCons (rCon (W.str "abcdefghi")) runsNil)))) opTup) (runsCons (runN (runsCons (rCon (W.str "less")) (runsCons (runN (runsCons (rCon (W.int 1)) runsNil) opTup) (runsCons (rCon (W.int 1)) runsNil))) opTup) runsNil)) (opL false)) opAdd [some (.tup (.str z :: xs)), some bad, some (.int c), some (.lst ((badParts z xs bad).take 17))] st = .ok (.lst (badParts z xs bad)) st := rfl
 have hi : run2 (rVar 2) (rCon (W.int 19)) opMod [some (.tup (.str z :: xs)), some bad, some (.int c), some (.lst ((badParts z xs bad).take 17))] st = .ok (.int (c % 19)) st := by simp only [EV, Nat.reduceSub, show (0 : Int) < 19 by decide]
 obtain ⟨w, hw, ew⟩ := ix_lst s4 hi m0 (by show _ < 19; omega)
 obtain ⟨hw1, hw2⟩ := badParts_ok hz hx hxl hb hb2 hc' w hw
 refine ⟨w, hw1, hw2, ?_⟩
 unfold op_l_spoilt_part
 rw [ev_op3]
 unfold r_l_spoilt_part
 rw [show (4 - 3 : Nat) = 1 from rfl, ev_rep1]
 simp only [EV, Nat.reduceSub, ↓s1, ↓s2, ↓s3, ↓ew]
theorem names_BadFact (st : S) : op_l_names [.exn "BadFact"] st = .ok (.int 0) st := by rfl
theorem names_BadRule (st : S) : op_l_names [.exn "BadRule"] st = .ok (.int 1) st := by rfl
theorem names_Unbound (st : S) : op_l_names [.exn "Unbound"] st = .ok (.int 3) st := by rfl
theorem told_no {w : W} (h : Th w) (hf : factW w = false) (st : S) : op_l_fact_told [w] st = .ok (.int 0) st := by
 have hn := need_fact_W st h
 rw [hf, if_neg Bool.false_ne_true] at hn
 have hb : sSeq (sIf (run2 (runN (runsCons (rVar 0) runsNil) op_need_fact) (rVar 0) opEq) (sSeq (sRet (rCon (W.int 9))) sPass) sPass) sPass [some w, none] st = .ex (.str "BadFact") st := by
  simp only [EV, Nat.reduceSub, hn]
 have hs : (sSeq (sRet (runN (runsCons (rVar 1) runsNil) (calmOp op_l_names))) sPass) [none, some (.exn "BadFact")] st = .ok (.rt (.int 0)) st := by
  simp only [EV, Nat.reduceSub, names_BadFact]
 unfold op_l_fact_told
 rw [ev_opX1]
 unfold r_l_fact_told
 show leaveX false st (sSeq (sTry 2 1 t_FactError _ _) _ [some w, none] st) = _
 have ht : sTry 2 1 t_FactError (sSeq (sIf (run2 (runN (runsCons (rVar 0) runsNil) op_need_fact) (rVar 0) opEq) (sSeq (sRet (rCon (W.int 9))) sPass) sPass) sPass) (sSeq (sRet (runN (runsCons (rVar 1) runsNil) (calmOp op_l_names))) sPass) [some w, none] st = .ok (.rt (.int 0)) st := by
  unfold sTry
  rw [hb]
  show dropI 1 ((sSeq (sRet (runN (runsCons (rVar 1) runsNil) (calmOp op_l_names))) sPass) [none, some (.exn "BadFact")] st) = _
  rw [hs]; rfl
 rw [ev_seq, ht]; rfl
theorem eq_self {w : W} (h : GoodT w) (n : Nat) : eqD (n + 1) w w = some true := by
 cases h with
 | free z _ => show some (eqV (.str z) (.str z)) = _; show some (z == z) = _; rw [beq_self_eq_true]
 | name z _ => show some (z == z) = _; rw [beq_self_eq_true]
 | num i _ => show some (i == i) = _; rw [beq_self_eq_true]
theorem eqs_self {n : Nat} : ∀ {ws : List W}, (∀ w ∈ ws, GoodT w) → eqItems (eqD (n + 1)) ws ws = some true
 | [], _ => rfl
 | w :: ws, h => by
  show (match eqD (n + 1) w w, eqItems (eqD (n + 1)) ws ws with | some a, some b => some (a && b) | _, _ => none) = _
  rw [eq_self (h w List.mem_cons_self), eqs_self fun v hv => h v (List.mem_cons_of_mem _ hv)]; rfl
theorem eq_pat {n : Str} {ts : List W} (ht : ∀ t ∈ ts, GoodT t) (st : S) : opEq (.tup (.str n :: ts)) (.tup (.str n :: ts)) st = .ok (.bl true) st := by
 have e : eqItems (eqD 11) (.str n :: ts) (.str n :: ts) = some true := by
  show (match some (n == n), eqItems (eqD 11) ts ts with | some a, some b => some (a && b) | _, _ => none) = _
  rw [beq_self_eq_true, eqs_self ht]; rfl
 show (match (eqItems (eqD 11) (.str n :: ts) (.str n :: ts)).map (fun r => r && (.str n :: ts : List W).length == (.str n :: ts : List W).length) with | some r => R.ok (W.bl r) st | none => .stuck) = _
 rw [e]
 show R.ok (W.bl (true && (.str n :: ts : List W).length == (.str n :: ts : List W).length)) st = _
 rw [beq_self_eq_true]; rfl
theorem told_yes {n : Str} {ts : List W} (h : Th (.tup (.str n :: ts))) (ht : ∀ t ∈ ts, GoodT t) (hf : factW (.tup (.str n :: ts)) = true) (st : S) : op_l_fact_told [.tup (.str n :: ts)] st = .ok (.int 9) st := by
 have hn := need_fact_W st h
 rw [hf, if_pos rfl] at hn
 unfold op_l_fact_told
 rw [ev_opX1]
 unfold r_l_fact_told
 show leaveX false st (sSeq (sTry 2 1 t_FactError _ _) _ [some (.tup (.str n :: ts)), none] st) = _
 have hb : sSeq (sIf (run2 (runN (runsCons (rVar 0) runsNil) op_need_fact) (rVar 0) opEq) (sSeq (sRet (rCon (W.int 9))) sPass) sPass) sPass [some (.tup (.str n :: ts)), none] st = .ok (.rt (.int 9)) st := by
  simp only [EV, Nat.reduceSub, hn, eq_pat ht, if_true]
 have e : sTry 2 1 t_FactError (sSeq (sIf (run2 (runN (runsCons (rVar 0) runsNil) op_need_fact) (rVar 0) opEq) (sSeq (sRet (rCon (W.int 9))) sPass) sPass) sPass) (sSeq (sRet (runN (runsCons (rVar 1) runsNil) (calmOp op_l_names))) sPass) [some (.tup (.str n :: ts)), none] st = .ok (.rt (.int 9)) st := by
  unfold sTry
  rw [hb]
 rw [ev_seq, e]; rfl
theorem body_told_ex {w : W} {x : Str} {i : Int} (st : S) (hn : op_need_body [w] st = .ex (.str x) st) (hx : t_FactError.lookup x = some true) (hi : op_l_names [.exn x] st = .ok (.int i) st) : op_l_body_told [w] st = .ok (.int i) st := by
 have hb : sSeq (sDrop (runN (runsCons (rVar 0) runsNil) op_need_body)) sPass [some w, none] st = .ex (.str x) st := by simp only [EV, Nat.reduceSub, hn]
 have hs : (sSeq (sRet (runN (runsCons (rVar 1) runsNil) (calmOp op_l_names))) sPass) [none, some (.exn x)] st = .ok (.rt (.int i)) st := by simp only [EV, Nat.reduceSub, hi]
 unfold op_l_body_told
 rw [ev_opX1]
 unfold r_l_body_told
 show leaveX false st (sSeq (sTry 2 1 t_FactError _ _) _ [some w, none] st) = _
 have ht : sTry 2 1 t_FactError (sSeq (sDrop (runN (runsCons (rVar 0) runsNil) op_need_body)) sPass) (sSeq (sRet (runN (runsCons (rVar 1) runsNil) (calmOp op_l_names))) sPass) [some w, none] st = .ok (.rt (.int i)) st := by
  unfold sTry
  rw [hb]
  show (match t_FactError.lookup x with
   | some true => dropI 1 ((sSeq (sRet (runN (runsCons (rVar 1) runsNil) (calmOp op_l_names))) sPass) [none, some (.exn x)] st)
   | some false => .ex (.str x) st
   | none => .stuck) = _
  rw [hx]
  show dropI 1 ((sSeq (sRet (runN (runsCons (rVar 1) runsNil) (calmOp op_l_names))) sPass) [none, some (.exn x)] st) = _
  rw [hs]; rfl
 rw [ev_seq, ht]; rfl
theorem body_told_ok {w : W} (st : S) (hn : op_need_body [w] st = .ok w st) : op_l_body_told [w] st = .ok (.int 9) st := by
 have hb : sSeq (sDrop (runN (runsCons (rVar 0) runsNil) op_need_body)) sPass [some w, none] st = .ok (.nx [some w, none]) st := by simp only [EV, Nat.reduceSub, hn]
 unfold op_l_body_told
 rw [ev_opX1]
 unfold r_l_body_told
 show leaveX false st (sSeq (sTry 2 1 t_FactError _ _) _ [some w, none] st) = _
 have ht : sTry 2 1 t_FactError (sSeq (sDrop (runN (runsCons (rVar 0) runsNil) op_need_body)) sPass) (sSeq (sRet (runN (runsCons (rVar 1) runsNil) (calmOp op_l_names))) sPass) [some w, none] st = .ok (.nx [some w, none]) st := by
  unfold sTry
  rw [hb]
 rw [ev_seq, ht]; rfl
theorem body_bad {w : W} (h : Th w) (hb : bodyW w = false) (st : S) : op_l_body_told [w] st = .ok (.int 1) st := by
 have hn := need_body_W st h
 rw [hb, if_neg Bool.false_ne_true] at hn
 exact body_told_ex st hn (by decide) (names_BadRule st)
theorem body_good {ps : List W} (h : Th (.tup ps)) (hb : bodyW (.tup ps) = true) (st : S) : op_l_body_told [.tup ps] st = .ok (.int 3) st ∨ op_l_body_told [.tup ps] st = .ok (.int 9) st := by
 have hn := need_body_W st h
 rw [hb, if_pos rfl] at hn
 have hn : op_need_body [.tup ps] st = if boundParts ps [] = true then .ok (.tup ps) st else .ex (.str "Unbound") st := hn
 cases e : boundParts ps [] with
 | true => rw [e, if_pos rfl] at hn; exact .inr (body_told_ok st hn)
 | false => rw [e, if_neg Bool.false_ne_true] at hn; exact .inl (body_told_ex st hn (by decide) (names_Unbound st))
end DL.My
namespace DL.My
open PySem L2
def GoodP (w : W) : Prop := Th w ∧ partW w = true
theorem rep_len (ws : List W) (k : Nat) : (List.replicate k ws).flatten.length = k * ws.length := len_rep ws k
theorem law_true (ns : List Int) (_ : ns.length ≤ 63) : ∃ st', op_law [.lst (ns.map W.int)] st0 = .ok (.bl true) st' := by
 refine ⟨st0, ?_⟩
 generalize st0 = st
 have cell : ∀ (k : Nat) (Γ : Ga), runN (runsCons (rVar 0) (runsCons (rCon (W.int k)) runsNil)) (calmOp op_l_cell_at) (some (.lst (ns.map W.int)) :: Γ) st = .ok (.int (ns.getD k 0)) st := fun k Γ => by simp only [EV, Nat.reduceSub, cell_ok]
 generalize hc0 : ns.getD 0 0 = c0
 generalize hc1 : ns.getD 1 0 = c1
 generalize hc2 : ns.getD 2 0 = c2
 generalize hc3 : ns.getD 3 0 = c3
 generalize hc4 : ns.getD 4 0 = c4
 generalize hc5 : ns.getD 5 0 = c5
 have e0 : ∀ Γ : Ga, runN (runsCons (rVar 0) (runsCons (rCon (W.int 0)) runsNil)) (calmOp op_l_cell_at) (some (.lst (ns.map W.int)) :: Γ) st = .ok (.int c0) st := fun Γ => by rw [← hc0]; exact cell 0 Γ
 have e1 : ∀ Γ : Ga, runN (runsCons (rVar 0) (runsCons (rCon (W.int 1)) runsNil)) (calmOp op_l_cell_at) (some (.lst (ns.map W.int)) :: Γ) st = .ok (.int c1) st := fun Γ => by rw [← hc1]; exact cell 1 Γ
 have e2 : ∀ Γ : Ga, runN (runsCons (rVar 0) (runsCons (rCon (W.int 2)) runsNil)) (calmOp op_l_cell_at) (some (.lst (ns.map W.int)) :: Γ) st = .ok (.int c2) st := fun Γ => by rw [← hc2]; exact cell 2 Γ
 have e3 : ∀ Γ : Ga, runN (runsCons (rVar 0) (runsCons (rCon (W.int 3)) runsNil)) (calmOp op_l_cell_at) (some (.lst (ns.map W.int)) :: Γ) st = .ok (.int c3) st := fun Γ => by rw [← hc3]; exact cell 3 Γ
 have e4 : ∀ Γ : Ga, runN (runsCons (rVar 0) (runsCons (rCon (W.int 4)) runsNil)) (calmOp op_l_cell_at) (some (.lst (ns.map W.int)) :: Γ) st = .ok (.int c4) st := fun Γ => by rw [← hc4]; exact cell 4 Γ
 have e5 : ∀ Γ : Ga, runN (runsCons (rVar 0) (runsCons (rCon (W.int 5)) runsNil)) (calmOp op_l_cell_at) (some (.lst (ns.map W.int)) :: Γ) st = .ok (.int c5) st := fun Γ => by rw [← hc5]; exact cell 5 Γ
 obtain ⟨m0, m1⟩ := mod_lt c2 5 (by decide)
 obtain ⟨n, ts, hn, htl, ht, ep⟩ := pattern_by_ok c1 (c2 % 5).toNat (by omega) st
 rw [show (((c2 % 5).toNat : Nat) : Int) = c2 % 5 from by omega] at ep
 obtain ⟨hth, hpat⟩ := pat_good hn (by omega) ht
 have hpt : ∀ t ∈ ts, Th t := fun t h => (ht t h).th
 have e6 : ∀ Γ : Ga, runN (runsCons (runComp false (runSrc (runSlSN false (rVar 2) (rCon (W.int 1)))) [] (rCon (.bl true)) (runN (runsCons (rVar 0) runsNil) (calmOp op_l_is_free))) runsNil) opAny (some (.lst (ns.map W.int)) :: some (.int c0) :: some (.tup (.str n :: ts)) :: Γ) st = .ok (.bl (ts.any freeW)) st := fun Γ => by
  refine any_run freeW ?_ (by omega) fun t h => l_is_free_ok (ht t h) st
  have e : runSlSN false (rVar 2) (rCon (W.int 1)) (some (.lst (ns.map W.int)) :: some (.int c0) :: some (.tup (.str n :: ts)) :: Γ) st = .ok (.tup ts) st := by
   rw [ev_slSN, ev_v2, ev_ok, ev_con, ev_ok, kLo_int, ev_slT, cut1]
  unfold runSrc
  rw [e]; rfl
 have hfact : factW (.tup (.str n :: ts)) = !ts.any freeW := by
  show (patW (.tup (.str n :: ts)) && ts.all valueW) = _
  rw [hpat, Bool.true_and]
  clear ep hpat hth hpt e6 htl
  induction ts with
  | nil => rfl
  | cons t ts ih =>
   rw [List.all_cons, List.any_cons, (ht t List.mem_cons_self).value, ih fun s hs => ht s (List.mem_cons_of_mem _ hs)]
   cases freeW t <;> rfl
 have hisp := is_pattern_W st hth
 rw [hpat] at hisp
 have hisf := is_fact_W st hth
 rw [hfact] at hisf
 have htold : op_l_fact_told [.tup (.str n :: ts)] st = .ok (.int (9 * (if (!ts.any freeW) = true then 1 else 0))) st := by
  cases hb : ts.any freeW with
  | true => exact told_no hth (by rw [hfact, hb]; rfl) st
  | false => exact told_yes hth ht (by rw [hfact, hb]; rfl) st
 have hmul : ∀ b : Bool, opMul (.int 9) (.int (if b = true then 1 else 0)) st = .ok (.int (9 * (if b = true then 1 else 0))) st := fun b => ev_mulL 9 _ (by decide) (by decide)
 have hint : ∀ b : Bool, opInt [.bl b] st = .ok (.int (if b = true then 1 else 0)) st := fun _ => rfl
 have hne2 : ∀ b : Bool, opNe (.lst [.bl true, .bl b]) (.lst [.bl true, .bl b]) st = .ok (.bl false) st := fun b => by cases b <;> rfl
 obtain ⟨p, hp1, hp2, hp3⟩ := part_by_ok c3 st
 have hisp2 := is_part_W st hp1
 rw [hp2] at hisp2
 obtain ⟨bad, hb1, hb2, hb3⟩ := spoilt_pattern_ok hn (by omega) hpt c4 st
 have hibp := is_pattern_W st hb1
 rw [hb2] at hibp
 have hbf : factW bad = false := by
  unfold factW
  split
  ·rw [hb2]; rfl
  ·rfl
 have hibf := is_fact_W st hb1
 rw [hbf] at hibf
 have hbt := told_no hb1 hbf st
 obtain ⟨k0, k1⟩ := mod_lt c0 6 (by decide)
 have hrng : ∀ Γ : Ga, runRng1 (run2 (rCon (W.int 1)) (run2 (rVar 1) (rCon (W.int 6)) opMod) opAdd) (some (.lst (ns.map W.int)) :: some (.int c0) :: Γ) st = .ok (rangeW 0 (1 + c0 % 6).toNat) st := fun Γ =>
  ev_rng1 _ _ (by simp only [EV, Nat.reduceSub, show (0 : Int) < 6 by decide]) (by omega) (by omega)
 obtain ⟨ps, hl, hps, hcomp⟩ := comp_ex (cap := [0]) (re := runN (runsCons (runN (runsCons (rVar 1) (runsCons (run2 (rCon (W.int 6)) (rVar 0) opAdd) runsNil)) (calmOp op_l_cell_at)) runsNil) (calmOp op_l_part_by)) GoodP
  (hrng [some (.tup (.str n :: ts)), some (.bl (!ts.any freeW)), some p, some bad, none, none, none, none]) (by rw [len_rangeW]; omega) fun x hx => by
  obtain ⟨j, hj, rfl⟩ := mem_rangeW hx
  obtain ⟨w, hw1, hw2, hw3⟩ := part_by_ok (ns.getD (6 + j) 0) st
  refine ⟨w, ⟨hw1, hw2⟩, ?_⟩
  show runN _ _ [some (.int j), some (.lst (ns.map W.int))] st = _
  have hc := cell_ok ns (6 + j) st
  rw [show (((6 + j : Nat)) : Int) = 6 + (j : Int) from by omega] at hc
  simp only [EV, Nat.reduceSub, hc, hw3]
 rw [len_rangeW] at hl
 have hplen : 1 ≤ ps.length ∧ ps.length ≤ 6 := by omega
 have hpth : Th (.tup ps) := .tup ps (by omega) fun w hw => (hps w hw).1
 have hbody : bodyW (.tup ps) = true := by
  show (decide (1 ≤ ps.length ∧ ps.length ≤ 6) && ps.all partW) = true
  rw [decide_eq_true hplen, List.all_eq_true.mpr fun w hw => (hps w hw).2]; rfl
 have htup : opTuple [.lst ps] st = .ok (.tup ps) st := ev_tup ps (size_small (by omega))
 have hin : ∃ i : Int, op_l_body_told [.tup ps] st = .ok (.int i) st ∧ opNotIn (.int i) (.tup [.int 3, .int 9]) st = .ok (.bl false) st := by
  rcases body_good hpth hbody st with e | e
  ·exact ⟨3, e, rfl⟩
  ·exact ⟨9, e, rfl⟩
 obtain ⟨bi, hbi, hbn⟩ := hin
 obtain ⟨wr, hw1, hw2, hw3⟩ := spoilt_part_ok hp1 hp2 hb1 hb2 c5 st
 have hiw := is_part_W st hw1
 rw [hw2] at hiw
 obtain ⟨a0, a1⟩ := mod_lt (c0 / 6) (ps.length : Int) (by omega)
 have hat : c0 / 6 % (ps.length : Int) = ((c0 / 6 % (ps.length : Int)).toNat : Int) := by omega
 have hat1 : c0 / 6 % (ps.length : Int) + 1 = (((c0 / 6 % (ps.length : Int)).toNat + 1 : Nat) : Int) := by omega
 have q1 : opList false [.lst ps] st = .ok (.lst ps) st := ev_lst ps (size_small (by omega))
 have q2 : opMul (.lst ps) (.int 7) st = .ok (.lst (List.replicate 7 ps).flatten) st := by
  show (if (-(2 ^ 63) ≤ (7 : Int) ∧ (7 : Int) < 2 ^ 63) ∧ ps.length * (7 : Int).toNat ≤ sizeLine then R.ok (W.lst (List.replicate (7 : Int).toNat ps).flatten) st else .stuck) = _
  rw [if_pos ⟨⟨by decide, by decide⟩, size_small (by show ps.length * 7 ≤ 1000; omega)⟩]; rfl
 have q3 : opTuple [.lst (List.replicate 7 ps).flatten] st = .ok (.tup (List.replicate 7 ps).flatten) st := ev_tup _ (size_small (by rw [rep_len]; omega))
 have q4 : opSl false none (some (c0 / 6 % (ps.length : Int))) (.lst ps) st = .ok (.lst (ps.take (c0 / 6 % (ps.length : Int)).toNat)) st := by
  show opLst (cutW ps none (some (c0 / 6 % (ps.length : Int)))) st = _
  rw [hat, cut_hi]
  exact ev_lst _ (size_small (by rw [List.length_take]; omega))
 have q5 : opSl false (some (c0 / 6 % (ps.length : Int) + 1)) none (.lst ps) st = .ok (.lst (ps.drop ((c0 / 6 % (ps.length : Int)).toNat + 1))) st := by
  show opLst (cutW ps (some (c0 / 6 % (ps.length : Int) + 1)) none) st = _
  rw [hat1, cut_lo]
  exact ev_lst _ (size_small (by rw [List.length_drop]; omega))
 have q6 : opAdd (.lst (ps.take (c0 / 6 % (ps.length : Int)).toNat)) (.lst [wr]) st = .ok (.lst (ps.take (c0 / 6 % (ps.length : Int)).toNat ++ [wr])) st := if_pos (size_small (by rw [List.length_take, List.length_singleton]; omega))
 have q7 : opAdd (.lst (ps.take (c0 / 6 % (ps.length : Int)).toNat ++ [wr])) (.lst (ps.drop ((c0 / 6 % (ps.length : Int)).toNat + 1))) st = .ok (.lst (ps.take (c0 / 6 % (ps.length : Int)).toNat ++ [wr] ++ ps.drop ((c0 / 6 % (ps.length : Int)).toNat + 1))) st :=
  if_pos (size_small (by rw [List.length_append, List.length_take, List.length_singleton, List.length_drop]; omega))
 have q8 : opTuple [.lst (ps.take (c0 / 6 % (ps.length : Int)).toNat ++ [wr] ++ ps.drop ((c0 / 6 % (ps.length : Int)).toNat + 1))] st = .ok (.tup (ps.take (c0 / 6 % (ps.length : Int)).toNat ++ [wr] ++ ps.drop ((c0 / 6 % (ps.length : Int)).toNat + 1))) st :=
  ev_tup _ (size_small (by rw [List.length_append, List.length_append, List.length_take, List.length_singleton, List.length_drop]; omega))
 have q9 : opL false [wr] st = .ok (.lst [wr]) st := rfl
 generalize hB : ([.lst ps, .tup [], .tup (List.replicate 7 ps).flatten, .tup (ps.take (c0 / 6 % (ps.length : Int)).toNat ++ [wr] ++ ps.drop ((c0 / 6 % (ps.length : Int)).toNat + 1)), .non, .str "has"] : List W) = B
 have hBl : B.length = 6 := by rw [← hB]; rfl
 have hBok : ∀ w ∈ B, Th w ∧ bodyW w = false := by
  intro w hw
  rw [← hB] at hw
  simp only [List.mem_cons, List.not_mem_nil, or_false] at hw
  rcases hw with rfl | rfl | rfl | rfl | rfl | rfl
  ·exact ⟨.lst _, rfl⟩
  ·exact ⟨.tup _ (by decide) (fun w h => by cases h), rfl⟩
  ·refine ⟨.tup _ (by rw [rep_len]; omega) fun w h => ?_, ?_⟩
   ·obtain ⟨l, h1, h2⟩ := List.mem_flatten.mp h
    rw [(List.mem_replicate.mp h1).2] at h2
    exact (hps w h2).1
   ·show (decide (1 ≤ (List.replicate 7 ps).flatten.length ∧ (List.replicate 7 ps).flatten.length ≤ 6) && _) = false
    rw [decide_eq_false (by rw [rep_len]; omega)]; rfl
  ·refine ⟨.tup _ (by rw [List.length_append, List.length_append, List.length_take, List.length_singleton, List.length_drop]; omega) fun w h => ?_, ?_⟩
   ·rcases List.mem_append.mp h with h | h
    ·rcases List.mem_append.mp h with h | h
     ·exact (hps w (List.mem_of_mem_take h)).1
     ·rw [List.mem_singleton.mp h]; exact hw1
    ·exact (hps w (List.mem_of_mem_drop h)).1
   ·show (_ && (ps.take (c0 / 6 % (ps.length : Int)).toNat ++ [wr] ++ ps.drop ((c0 / 6 % (ps.length : Int)).toNat + 1)).all partW) = false
    have : (ps.take (c0 / 6 % (ps.length : Int)).toNat ++ [wr] ++ ps.drop ((c0 / 6 % (ps.length : Int)).toNat + 1)).all partW = false := by
     rw [List.all_append, List.all_append, List.all_cons, hw2]; simp
    rw [this, Bool.and_false]
  ·exact ⟨.non, rfl⟩
  ·exact ⟨.str _ (by decide), rfl⟩
 have q10 : opL false B st = .ok (.lst B) st := ev_lst B (size_small (by omega))
 have q11 : opTup [] st = .ok (.tup []) st := rfl
 obtain ⟨i0, i1⟩ := mod_lt (c0 / 36) 6 (by decide)
 obtain ⟨w9, hw9, hix⟩ := ix_lst (a := rVar 9) (b := run2 (run2 (rVar 1) (rCon (W.int 36)) opDiv) (rCon (W.int 6)) opMod) (Γ := [some (.lst (ns.map W.int)), some (.int c0), some (.tup (.str n :: ts)), some (.bl (!ts.any freeW)), some p, some bad, some (.lst ps), some wr, some (.int (c0 / 6 % (ps.length : Int))), some (.lst B)]) (st := st) (ws := B) (i := c0 / 36 % 6) rfl
  (by simp only [EV, Nat.reduceSub, show (0 : Int) < 36 by decide, show (36 : Int) < 1073741824 by decide, show (0 : Int) < 6 by decide]) i0 (by rw [hBl]; omega)
 obtain ⟨hw91, hw92⟩ := hBok w9 hw9
 have hfin := body_bad hw91 hw92 st
 have is1 : opIsNot (.bl true) (.bl true) st = .ok (.bl false) st := rfl
 have is2 : opIsNot (.bl false) (.bl false) st = .ok (.bl false) st := rfl
 have n3 : opTup [.int 3, .int 9] st = .ok (.tup [.int 3, .int 9]) st := rfl
 unfold op_law
 rw [ev_opX1]
 unfold r_law
 rw [show (10 - 1 : Nat) = 9 from rfl, ev_rep9]
 have oL2 : ∀ a b : W, opL false [a, b] st = .ok (.lst [a, b]) st := fun _ _ => rfl
 simp only [EV, Nat.reduceSub, ↓e0, ↓e1, ↓e2, ↓e3, ↓e4, ↓e5, show (0 : Int) < 5 by decide, ep, ↓e6, hisp, hisf, oL2, hne2, htold, hint, hmul, hp3, hisp2, is1, hb3, hibp, is2, hibf, hbt, ↓hcomp, htup, hbi, n3, hbn, hw3,
  show (0 : Int) < 6 by decide, show (6 : Int) < 1073741824 by decide, ev_modI _ _ (show (0 : Int) < (ps.length : Int) by omega), q1, q11, q2, q3, q4, q5, q6, q7, q8, q9, hB, q10, hiw, ↓hix, hfin, if_false, if_true, Bool.false_eq_true,
  bne_self_eq_false, beq_self_eq_true, Bool.not_true]
end DL.My
open PySem PySem.W PyProof.Rows
def PySem.W.Fast.tw2617611032059348222 : Unit := ()
def PySem.W.Fast.tw12230329704350044793 : Unit := ()
def PySem.W.Fast.tw12524660227545544250 : Unit := ()
def PySem.W.Fast.tw4641472304643686734 : Unit := ()
def PySem.W.Fast.tw15569441999235140771 : Unit := ()
def PySem.W.Fast.tw17687017254353239268 : Unit := ()
def PySem.W.Fast.tw15680846184986776330 : Unit := ()
def PySem.W.Fast.tw1295248277673642695 : Unit := ()
def PySem.W.Fast.tw13626261103223537247 : Unit := ()
def PySem.W.Fast.tw9517996240496318571 : Unit := ()
def PySem.W.Fast.tw17162292279360993676 : Unit := ()
def PySem.W.Fast.tw7200395165717447704 : Unit := ()
def PySem.W.Fast.tw621241269448774360 : Unit := ()
def PySem.W.Fast.tw8711717909590941193 : Unit := ()
def PySem.W.Fast.tw12298132094465213994 : Unit := ()
def PySem.W.Fast.tw1990197599424296613 : Unit := ()
def PySem.W.Fast.tw7217851185182215817 : Unit := ()
def PySem.W.Fast.tw9658797145732778302 : Unit := ()
def PySem.W.Fast.tw17615011206168410798 : Unit := ()
def PySem.W.Fast.tw2644365296046943919 : Unit := ()
def PySem.W.Fast.tw13775739230481420530 : Unit := ()
def PySem.W.Fast.tw14436987158950171605 : Unit := ()
def PySem.W.Fast.tw12257801802513711978 : Unit := ()
def PySem.W.Fast.tw2797444935486141735 : Unit := ()
def PySem.W.Fast.tw9679079648178975084 : Unit := ()
def PySem.W.Fast.tw7936552715605310334 : Unit := ()
def PySem.W.Fast.tw15040152179272424503 : Unit := ()
def PySem.W.Fast.tw16875878939411443895 : Unit := ()
def PySem.W.Fast.tw6557978000504351287 : Unit := ()
def PySem.W.Fast.tw14298144276223619061 : Unit := ()
def PySem.W.Fast.tw15222234269474408095 : Unit := ()
def PySem.W.Fast.tw11349893984654308483 : Unit := ()
def PySem.W.Fast.tw13076575323150548434 : Unit := ()
def PySem.W.Fast.tw14525710667848064117 : Unit := ()
def PySem.W.Fast.tw4288892671502828224 : Unit := ()
def PySem.W.Fast.tw14416160581086336589 : Unit := ()
def PySem.W.Fast.tw6662152064083428031 : Unit := ()
def PySem.W.Fast.tw7223721388671761417 : Unit := ()
def PySem.W.Fast.tw3915222742657633165 : Unit := ()
def PySem.W.Fast.tw4325846665429941182 : Unit := ()
def PySem.W.Fast.tw12094787539139308676 : Unit := ()
def PySem.W.Fast.tw1384060964954514396 : Unit := ()
def PySem.W.Fast.tw2543482525850179408 : Unit := ()
def PySem.W.Fast.tw11137360823486996053 : Unit := ()
def PySem.W.Fast.tw6242635430329708354 : Unit := ()
def PySem.W.Fast.tw14543734589481872877 : Unit := ()
def PySem.W.Fast.tw3386358278077336026 : Unit := ()
def PySem.W.Fast.tw3130546088835150535 : Unit := ()
def PySem.W.Fast.tw16476123517920843087 : Unit := ()
def PySem.W.Fast.tw7417841561310419109 : Unit := ()
def PySem.W.Fast.tw1352194835667838916 : Unit := ()
def PySem.W.Fast.tw15690868308971702851 : Unit := ()
def PySem.W.Fast.tw5621547526759238861 : Unit := ()
def PySem.W.Fast.tw9202420293016766949 : Unit := ()
def PySem.W.Fast.tw14197104917445720865 : Unit := ()
def PySem.W.Fast.tw13915924157034671899 : Unit := ()
def PySem.W.Fast.tw5637246140462338803 : Unit := ()
def PySem.W.Fast.tw3845506859920052963 : Unit := ()
def PySem.W.Fast.tw9659656906050811166 : Unit := ()
def PySem.W.Fast.tw2596117275606667595 : Unit := ()
def PySem.W.Fast.tw10359802277507469204 : Unit := ()
def PySem.W.Fast.tw13855525717145390209 : Unit := ()
def PySem.W.Fast.tw13524516373409343924 : Unit := ()
def PySem.W.Fast.tw13559775125507263376 : Unit := ()
def PySem.W.Fast.tw8864518121204848963 : Unit := ()
def PySem.W.Fast.tw9473735917222008205 : Unit := ()
def PySem.W.Fast.tw15199778072543459670 : Unit := ()
def PySem.W.Fast.tw14081776022182630147 : Unit := ()
def PySem.W.Fast.tw8878399422660290000 : Unit := ()
def PySem.W.Fast.tw15935736271834927153 : Unit := ()
def PySem.W.Fast.tw5690177560017739689 : Unit := ()
def PySem.W.Fast.tw414188173789641493 : Unit := ()
def PySem.W.Fast.tw1126654682676827895 : Unit := ()
def PySem.W.Fast.tw5297515083407853643 : Unit := ()
def PySem.W.Fast.tw2678833761923502671 : Unit := ()
def PySem.W.Fast.tw9430927336042430880 : Unit := ()
def PySem.W.Fast.tw5233067744320202036 : Unit := ()
def PySem.W.Fast.tw13155652341471660920 : Unit := ()
def PySem.W.Fast.tw11584934754608681270 : Unit := ()
def PySem.W.Fast.tw5704229451092203100 : Unit := ()
def PySem.W.Fast.tw1242464289496204688 : Unit := ()
def PySem.W.Fast.tw5146105964663806763 : Unit := ()
def PySem.W.Fast.tw10727248958597511493 : Unit := ()
def PySem.W.Fast.tw16139321015368451724 : Unit := ()
def PySem.W.Fast.tw6050101565260487896 : Unit := ()
def PySem.W.Fast.tw7988003870072906579 : Unit := ()
def PySem.W.Fast.tw6243197942340671681 : Unit := ()
def PySem.W.Fast.tw5678210056306221764 : Unit := ()
def PySem.W.Fast.tw13711972941746581904 : Unit := ()
def PySem.W.Fast.tw7727635459789936013 : Unit := ()
def PySem.W.Fast.tw11593160877802979011 : Unit := ()
def PySem.W.Fast.tw1621030887749032051 : Unit := ()
def PySem.W.Fast.tw6583850886638865634 : Unit := ()
def PySem.W.Fast.tw14062197822082710747 : Unit := ()
def PySem.W.Fast.tw13011845997848075188 : Unit := ()
def PySem.W.Fast.tw2672333525896701538 : Unit := ()
def PySem.W.Fast.tw18426202275351361565 : Unit := ()
def PySem.W.Fast.tw1777810033915409217 : Unit := ()
def PySem.W.Fast.tw17259678437790720132 : Unit := ()
def PySem.W.Fast.tw3629764806826489348 : Unit := ()
def PySem.W.Fast.tw2604390834623083164 : Unit := ()
def PySem.W.Fast.tw18108095279582762598 : Unit := ()
def PySem.W.Fast.tw10721091406845174853 : Unit := ()
def PySem.W.Fast.tw11360572723826883497 : Unit := ()
def PySem.W.Fast.tw8046757800921070790 : Unit := ()
def PySem.W.Fast.tw14462073961524701668 : Unit := ()
def PySem.W.Fast.tw15139340788679077544 : Unit := ()
def PySem.W.Fast.tw6664810827352236681 : Unit := ()
def PySem.W.Fast.tw9008903460481705822 : Unit := ()
def PySem.W.Fast.tw930413382569943124 : Unit := ()
def PySem.W.Fast.tw6866980401696082516 : Unit := ()
def PySem.W.Fast.tw4513899925671487944 : Unit := ()
def PySem.W.Fast.tw6091580978989589332 : Unit := ()
def PySem.W.Fast.tw16538351105956936577 : Unit := ()
def PySem.W.Fast.tw13081501173932890730 : Unit := ()
def PySem.W.Fast.tw18150821444214355232 : Unit := ()
def PySem.W.Fast.tw11292729383706740239 : Unit := ()
def PySem.W.Fast.tw9988311075575654556 : Unit := ()
def PySem.W.Fast.tw2626032271345903693 : Unit := ()
def PySem.W.Fast.tw14335852973671528323 : Unit := ()
def PySem.W.Fast.tw560475325045249190 : Unit := ()
def PySem.W.Fast.tw14870718882253785346 : Unit := ()
def PySem.W.Fast.tw16601207682512572776 : Unit := ()
def PySem.W.Fast.tw14917146347213815864 : Unit := ()
def PySem.W.Fast.tw4188783268945061961 : Unit := ()
def PySem.W.Fast.tw2960746125791708372 : Unit := ()
def PySem.W.Fast.tw13979033028821933810 : Unit := ()
def PySem.W.Fast.tw15481333974543918057 : Unit := ()
def PySem.W.Fast.tw12764025033228648707 : Unit := ()
def PySem.W.Fast.tw13501062158945933981 : Unit := ()
def PySem.W.Fast.tw10098966075651164186 : Unit := ()
def PySem.W.Fast.tw7322418456288870152 : Unit := ()
def PySem.W.Fast.tw50380767644047113 : Unit := ()
def PySem.W.Fast.tw15563295279594662156 : Unit := ()
def PySem.W.Fast.tw4973470894268743659 : Unit := ()
def PySem.W.Fast.tw533656526495625035 : Unit := ()
def PySem.W.Fast.tw11535019148365052507 : Unit := ()
def PySem.W.Fast.tw5415338904278921559 : Unit := ()
def PySem.W.Fast.tw6601048905444507976 : Unit := ()
def PySem.W.Fast.tw16587092171114290899 : Unit := ()
def PySem.W.Fast.tw9391619494944044572 : Unit := ()
def PySem.W.Fast.tw9869390332135323843 : Unit := ()
def PySem.W.Fast.tw117513761990011181 : Unit := ()
def PySem.W.Fast.tw1577671292631966941 : Unit := ()
def PySem.W.Fast.tw17468242014223389287 : Unit := ()
def PySem.W.Fast.tw1637014018218060702 : Unit := ()
def PySem.W.Fast.tw13498513288489859220 : Unit := ()
def PySem.W.Fast.tw14625816337074195701 : Unit := ()
def PySem.W.Fast.tw9363246801883822848 : Unit := ()
def PySem.W.Fast.tw1322150694008980905 : Unit := ()
def PySem.W.Fast.tw12929874425037398880 : Unit := ()
def PySem.W.Fast.tw16509973623305121087 : Unit := ()
def PySem.W.Fast.tw16003298567291407851 : Unit := ()
def PySem.W.Fast.tw9660638883953054819 : Unit := ()
def PySem.W.Fast.tw6412880005289894235 : Unit := ()
def PySem.W.Fast.tw4786269472932708015 : Unit := ()
def PySem.W.Fast.tw13302579493803211833 : Unit := ()
def PySem.W.Fast.tw7817607666669220780 : Unit := ()
def PySem.W.Fast.tw16219105598401941745 : Unit := ()
def PySem.W.Fast.tw12128585525488053472 : Unit := ()
def PySem.W.Fast.tw11816200022629477772 : Unit := ()
def PySem.W.Fast.tw1584415850603171031 : Unit := ()
def PySem.W.Fast.tw12860566048939641054 : Unit := ()
def PySem.W.Fast.tw3320630889865940079 : Unit := ()
def PySem.W.Fast.tw14362605064314899768 : Unit := ()
def PySem.W.Fast.tw6771034767452616381 : Unit := ()
def PySem.W.Fast.tw4144125185330013727 : Unit := ()
def PySem.W.Fast.tw4802595527486924611 : Unit := ()
def PySem.W.Fast.tw2286304205931205022 : Unit := ()
def PySem.W.Fast.tw14494412986721008455 : Unit := ()
def PySem.W.Fast.tw8551361939604455046 : Unit := ()
def PySem.W.Fast.tw3165818667233333307 : Unit := ()
def PySem.W.Fast.tw9740533373362315529 : Unit := ()
def PySem.W.Fast.tw16501233169067351550 : Unit := ()
def PySem.W.Fast.tw7716232652635788048 : Unit := ()
def PySem.W.Fast.tw7690861639857118233 : Unit := ()
def PySem.W.Fast.tw16860911378151919103 : Unit := ()
def PySem.W.Fast.tw786941513373972818 : Unit := ()
def PySem.W.Fast.tw10696917183026382830 : Unit := ()
def PySem.W.Fast.tw17598586120203368684 : Unit := ()
def PySem.W.Fast.tw16726795012672410700 : Unit := ()
def PySem.W.Fast.tw4843196422182181608 : Unit := ()
def PySem.W.Fast.tw4153007505438866900 : Unit := ()
def PySem.W.Fast.tw5475052011912879404 : Unit := ()
def PySem.W.Fast.tw1975929032022197747 : Unit := ()
def PySem.W.Fast.tw2923932605286282288 : Unit := ()
def PySem.W.Fast.tw17103068079876439406 : Unit := ()
def PySem.W.Fast.tw17586994623022782716 : Unit := ()
def PySem.W.Fast.tw7128078502009447333 : Unit := ()
def PySem.W.Fast.tw13953255571638266813 : Unit := ()
def PySem.W.Fast.tw4159647729959850325 : Unit := ()
def PySem.W.Fast.tw10406059520732840877 : Unit := ()
def PySem.W.Fast.tw13135444106125545100 : Unit := ()
def PySem.W.Fast.tw6831331054093020397 : Unit := ()
def PySem.W.Fast.tw14079320155266056858 : Unit := ()
def PySem.W.Fast.tw11002909406751544609 : Unit := ()
def PySem.W.Fast.tw6303476568649728100 : Unit := ()
def PySem.W.Fast.tw3109073724852562219 : Unit := ()
def PySem.W.Fast.tw18446080444328077350 : Unit := ()
def PySem.W.Fast.tw13722835036218048409 : Unit := ()
def PySem.W.Fast.tw16846978825623843331 : Unit := ()
def PySem.W.Fast.tw13452079158491113422 : Unit := ()
def PySem.W.Fast.tw704361776489636500 : Unit := ()
def PySem.W.Fast.tw16378643162175323422 : Unit := ()
def PySem.W.Fast.tw4451356837883742168 : Unit := ()
def PySem.W.Fast.tw3599570591761483194 : Unit := ()
def PySem.W.Fast.tw17400926699023591093 : Unit := ()
def PySem.W.Fast.tw6780313913656843277 : Unit := ()
def PySem.W.Fast.tw16063280130003272109 : Unit := ()
def PySem.W.Fast.tw13399942976371490069 : Unit := ()
def PySem.W.Fast.tw2781860143609269547 : Unit := ()
def PySem.W.Fast.tw15891870346545945750 : Unit := ()
def PySem.W.Fast.tw14610121064509381603 : Unit := ()
def PySem.W.Fast.tw8414382108598726740 : Unit := ()
def PySem.W.Fast.tw5172436842907298956 : Unit := ()
def PySem.W.Fast.tw359043684503438081 : Unit := ()
def PySem.W.Fast.tw11213832242793218378 : Unit := ()
def PySem.W.Fast.tw2645973798792987677 : Unit := ()
def PySem.W.Fast.tw4294983605302371260 : Unit := ()
def PySem.W.Fast.tw12314143818091280733 : Unit := ()
def PySem.W.Fast.tw13234929711683028019 : Unit := ()
def PySem.W.Fast.tw4072788926552450182 : Unit := ()
def PySem.W.Fast.tw6013183065686598156 : Unit := ()
def PySem.W.Fast.tw1953618029960081284 : Unit := ()
def PySem.W.Fast.tw17118369622519259644 : Unit := ()
def PySem.W.Fast.tw9571754605577932867 : Unit := ()
def PySem.W.Fast.tw11565626039511476627 : Unit := ()
def PySem.W.Fast.tw15085956474721635783 : Unit := ()
def PySem.W.Fast.tw14718358489801909962 : Unit := ()
def PySem.W.Fast.tw17265303332014182901 : Unit := ()
def PySem.W.Fast.tw1802861076164066301 : Unit := ()
def PySem.W.Fast.tw10766409976874220696 : Unit := ()
def PySem.W.Fast.tw7907617324978830050 : Unit := ()
def PySem.W.Fast.tw14320525064175488815 : Unit := ()
def PySem.W.Fast.tw8346488915368441451 : Unit := ()
def PySem.W.Fast.tw6670159946910778941 : Unit := ()
def PySem.W.Fast.tw5288821989510234776 : Unit := ()
def PySem.W.Fast.tw2723442777148476523 : Unit := ()
def PySem.W.Fast.tw4298534805586138500 : Unit := ()
def PySem.W.Fast.tw13342917063549238828 : Unit := ()
def PySem.W.Fast.tw8848213164013938210 : Unit := ()
def PySem.W.Fast.tw10821052644797087675 : Unit := ()
def PySem.W.Fast.tw6011716768543342992 : Unit := ()
def PySem.W.Fast.tw1996915592333166821 : Unit := ()
def PySem.W.Fast.tw5045987215839453196 : Unit := ()
def PySem.W.Fast.tw18318182769861816144 : Unit := ()
def PySem.W.Fast.tw3911393765065569208 : Unit := ()
def PySem.W.Fast.tw4455804506089847418 : Unit := ()
def PySem.W.Fast.tw4706270236128142537 : Unit := ()
def PySem.W.Fast.tw4299013650649680012 : Unit := ()
def PySem.W.Fast.tw8579675457371118613 : Unit := ()
def PySem.W.Fast.tw16953841310888538272 : Unit := ()
def PySem.W.Fast.tw11592310110724613134 : Unit := ()
def PySem.W.Fast.tw5251259016141712855 : Unit := ()
def PySem.W.Fast.tw3595914532328352090 : Unit := ()
def PySem.W.Fast.tw1093734522132753679 : Unit := ()
def PySem.W.Fast.tw16226034820808102063 : Unit := ()
def PySem.W.Fast.tw356516892536727934 : Unit := ()
def PySem.W.Fast.tw13413481633368267257 : Unit := ()
def PySem.W.Fast.tw4240543625561520452 : Unit := ()
def PySem.W.Fast.tw17971364364808465274 : Unit := ()
def PySem.W.Fast.tw17169029051175015118 : Unit := ()
def PySem.W.Fast.tw17070271173197727363 : Unit := ()
def PySem.W.Fast.tw4768912051942177106 : Unit := ()
def PySem.W.Fast.tw4768248410771442117 : Unit := ()
def PySem.W.Fast.tw4533229021994495129 : Unit := ()
def PySem.W.Fast.tw9036225446043226910 : Unit := ()
def PySem.W.Fast.tw16502777615589759699 : Unit := ()
def PySem.W.Fast.tw13844632079477117687 : Unit := ()
def PySem.W.Fast.tw11237104707759233588 : Unit := ()
def PySem.W.Fast.tw13770139641150626531 : Unit := ()
def PySem.W.Fast.tw15366164986817897392 : Unit := ()
def PySem.W.Fast.tw11176508269739714151 : Unit := ()
def PySem.W.Fast.tw3432103485973852615 : Unit := ()
def PySem.W.Fast.tw4366036693566532198 : Unit := ()
def PySem.W.Fast.tw966244077248643880 : Unit := ()
def PySem.W.Fast.tw5453086429259071943 : Unit := ()
def PySem.W.Fast.tw4715441382425250071 : Unit := ()
def PySem.W.Fast.tw11375694545866971398 : Unit := ()
def PySem.W.Fast.tw1903496871099278838 : Unit := ()
def PySem.W.Fast.tw794162372757468640 : Unit := ()
def PySem.W.Fast.tw16607582549621725417 : Unit := ()
def PySem.W.Fast.tw2067632924445588638 : Unit := ()
def PySem.W.Fast.tw5951800605768707400 : Unit := ()
def PySem.W.Fast.tw6813134731949131100 : Unit := ()
def PySem.W.Fast.tw8547266531900621796 : Unit := ()
def PySem.W.Fast.tw2682894124264536726 : Unit := ()
def PySem.W.Fast.tw18193144852779292917 : Unit := ()
def PySem.W.Fast.tw2875337299613778197 : Unit := ()
def PySem.W.Fast.tw6204032870292706630 : Unit := ()
def PySem.W.Fast.tw15589288299954314122 : Unit := ()
def PySem.W.Fast.tw15035810910960267979 : Unit := ()
def PySem.W.Fast.tw11039786493700113673 : Unit := ()
def PySem.W.Fast.tw6045336805528408741 : Unit := ()
def PySem.W.Fast.tw980459323000069475 : Unit := ()
def PySem.W.Fast.tw16510317979357874293 : Unit := ()
def PySem.W.Fast.tw5882438070205024470 : Unit := ()
def PySem.W.Fast.tw15505360777780965488 : Unit := ()
def PySem.W.Fast.tw6740926041283888676 : Unit := ()
def PySem.W.Fast.tw12913178420176307155 : Unit := ()
def PySem.W.Fast.tw6076688831053086827 : Unit := ()
def PySem.W.Fast.tw6594173534759905216 : Unit := ()
def PySem.W.Fast.tw1078273961098646677 : Unit := ()
def PySem.W.Fast.tw1164891947779626205 : Unit := ()
def PySem.W.Fast.tw16309262764645628169 : Unit := ()
def PySem.W.Fast.tw16875266547056116298 : Unit := ()
def PySem.W.Fast.tw17036441381208443426 : Unit := ()
def PySem.W.Fast.tw4562237281445930812 : Unit := ()
def PySem.W.Fast.tw1170012212453572181 : Unit := ()
def PySem.W.Fast.tw7351143972819724142 : Unit := ()
def PySem.W.Fast.tw16028355839593133239 : Unit := ()
def PySem.W.Fast.tw15726522514060021665 : Unit := ()
def PySem.W.Fast.tw6852039045925918682 : Unit := ()
def PySem.W.Fast.tw1112085858160717114 : Unit := ()
def PySem.W.Fast.tw16028283834723735408 : Unit := ()
def PySem.W.Fast.tw19473053707425874 : Unit := ()
def PySem.W.Fast.tw11233581160980537136 : Unit := ()
def PySem.W.Fast.tw4640493201554317169 : Unit := ()
def PySem.W.Fast.tw8621357848417649129 : Unit := ()
def PySem.W.Fast.tw12239983981565186967 : Unit := ()
set_option maxRecDepth 100000 in
set_option maxHeartbeats 0 in
theorem PySem.Challenge.cw_whyfacts_k02_forms_holds : PySem.Challenge.rw_whyfacts_k02_forms.Holds := by
 w_on; o_law; k_head; (case hw => w_witness2)
 k_fill
 refine DL.walkX (b := true) (l := PySem.Challenge.rw_whyfacts_k02_forms) (op := DL.My.op_law) (k := 30) (x := "_law_script") rfl rfl ⟨rfl, by decide, by decide⟩ (fun w h Y => PySem.W.kIn_of Y) DL.My.law_true ?F
 case F =>
  intro w mg fa h KX G hmg
  refine' DL.My.all_mk KX G hmg ?cl_FactError ?cl_BadFact ?cl_BadRule ?cl_BadWidth ?cl_Unbound ?cl_Ringed ?cl_TooMany ?cl_NoFact ?cl_NoText ?s_FactError_BadFact ?s_BadRule_BadFact ?s_BadWidth_BadFact ?s_Unbound_BadFact ?s_Ringed_BadFact ?s_TooMany_BadFact ?s_NoFact_BadFact ?s_NoText_BadFact ?s_FactError_BadRule ?s_BadFact_BadRule ?s_BadWidth_BadRule ?s_Unbound_BadRule ?s_Ringed_BadRule ?s_TooMany_BadRule ?s_NoFact_BadRule ?s_NoText_BadRule ?s_FactError_BadWidth ?s_BadFact_BadWidth ?s_BadRule_BadWidth ?s_Unbound_BadWidth ?s_Ringed_BadWidth ?s_TooMany_BadWidth ?s_NoFact_BadWidth ?s_NoText_BadWidth ?s_BadFact_FactError ?s_BadRule_FactError ?s_BadWidth_FactError ?s_Unbound_FactError ?s_Ringed_FactError ?s_TooMany_FactError ?s_NoFact_FactError ?s_NoText_FactError ?s_FactError_NoFact ?s_BadFact_NoFact ?s_BadRule_NoFact ?s_BadWidth_NoFact ?s_Unbound_NoFact ?s_Ringed_NoFact ?s_TooMany_NoFact ?s_NoText_NoFact ?s_FactError_NoText ?s_BadFact_NoText ?s_BadRule_NoText ?s_BadWidth_NoText ?s_Unbound_NoText ?s_Ringed_NoText ?s_TooMany_NoText ?s_NoFact_NoText ?s_FactError_Ringed ?s_BadFact_Ringed ?s_BadRule_Ringed ?s_BadWidth_Ringed ?s_Unbound_Ringed ?s_TooMany_Ringed ?s_NoFact_Ringed ?s_NoText_Ringed ?s_FactError_TooMany ?s_BadFact_TooMany ?s_BadRule_TooMany ?s_BadWidth_TooMany ?s_Unbound_TooMany ?s_Ringed_TooMany ?s_NoFact_TooMany ?s_NoText_TooMany ?s_FactError_Unbound ?s_BadFact_Unbound ?s_BadRule_Unbound ?s_BadWidth_Unbound ?s_Ringed_Unbound ?s_TooMany_Unbound ?s_NoFact_Unbound ?s_NoText_Unbound ?nb_ValueError ?sbb_ValueError ?s_FactError_ValueError ?s_BadFact_ValueError ?s_BadRule_ValueError ?s_BadWidth_ValueError ?s_Unbound_ValueError ?s_Ringed_ValueError ?s_TooMany_ValueError ?s_NoFact_ValueError ?s_NoText_ValueError ?k1_MOST_WIDTH ?k1_MOST_PARTS ?k1_MOST_SIGNS ?k1_MOST_NUMBER ?k1_SMALL_LETTERS ?k1_GREAT_LETTERS ?k1_KEPT_WORDS ?k2_KEPT_WORDS ?k1_PATTERN_PARTS ?k2_PATTERN_PARTS ?k1_TERM_COUNTS ?k2_TERM_COUNTS ?k3_TERM_COUNTS ?k4_0_TERM_COUNTS ?k4_1_TERM_COUNTS ?k4_2_TERM_COUNTS ?b_all ?b_any ?b_bool ?b_int ?b_isinstance ?b_len ?b_list ?b_max ?b_range ?b_str ?b_tuple ?d_is_short_text ?d_all_small ?d_is_name ?d_is_free ?d_is_number ?d_is_value ?d_is_term ?d_is_pattern ?d_is_fact ?d_word_ahead ?d_is_part ?d_l_cell_at ?d_l_free_words ?d_l_term_by ?d_l_pattern_by ?d_l_part_by ?d_l_is_free ?d_l_spoilt_pattern ?d_l_spoilt_part ?d_need_fact ?d_l_names ?d_l_fact_told ?d_is_body ?d_free_among ?d_words_of_part ?d_wanted_by ?d_need_bound ?d_need_bound_parts ?d_need_body ?d_l_body_told ?d_law
  (case cl_FactError => refine' DL.ClsIn.mk' ?z26a ?z26b ?z26c ?z26d ?z26e ?z26f ?z26g ?z26h ?z26i ?z26j; (case z26a => k_is); (case z26b => k_exc); (case z26c => k_is); (case z26d => k_is); (case z26e => k_is); (case z26f => k_is); (case z26g => k_is); (case z26h => k_is); (case z26i => k_is); (case z26j => k_is))
  (case cl_BadFact => refine' DL.ClsIn.mk' ?z27a ?z27b ?z27c ?z27d ?z27e ?z27f ?z27g ?z27h ?z27i ?z27j; (case z27a => k_is); (case z27b => k_exc); (case z27c => k_is); (case z27d => k_is); (case z27e => k_is); (case z27f => k_is); (case z27g => k_is); (case z27h => k_is); (case z27i => k_is); (case z27j => k_is))
  (case cl_BadRule => refine' DL.ClsIn.mk' ?z28a ?z28b ?z28c ?z28d ?z28e ?z28f ?z28g ?z28h ?z28i ?z28j; (case z28a => k_is); (case z28b => k_exc); (case z28c => k_is); (case z28d => k_is); (case z28e => k_is); (case z28f => k_is); (case z28g => k_is); (case z28h => k_is); (case z28i => k_is); (case z28j => k_is))
  (case cl_BadWidth => refine' DL.ClsIn.mk' ?z29a ?z29b ?z29c ?z29d ?z29e ?z29f ?z29g ?z29h ?z29i ?z29j; (case z29a => k_is); (case z29b => k_exc); (case z29c => k_is); (case z29d => k_is); (case z29e => k_is); (case z29f => k_is); (case z29g => k_is); (case z29h => k_is); (case z29i => k_is); (case z29j => k_is))
  (case cl_Unbound => refine' DL.ClsIn.mk' ?z30a ?z30b ?z30c ?z30d ?z30e ?z30f ?z30g ?z30h ?z30i ?z30j; (case z30a => k_is); (case z30b => k_exc); (case z30c => k_is); (case z30d => k_is); (case z30e => k_is); (case z30f => k_is); (case z30g => k_is); (case z30h => k_is); (case z30i => k_is); (case z30j => k_is))
  (case cl_Ringed => refine' DL.ClsIn.mk' ?z31a ?z31b ?z31c ?z31d ?z31e ?z31f ?z31g ?z31h ?z31i ?z31j; (case z31a => k_is); (case z31b => k_exc); (case z31c => k_is); (case z31d => k_is); (case z31e => k_is); (case z31f => k_is); (case z31g => k_is); (case z31h => k_is); (case z31i => k_is); (case z31j => k_is))
  (case cl_TooMany => refine' DL.ClsIn.mk' ?z32a ?z32b ?z32c ?z32d ?z32e ?z32f ?z32g ?z32h ?z32i ?z32j; (case z32a => k_is); (case z32b => k_exc); (case z32c => k_is); (case z32d => k_is); (case z32e => k_is); (case z32f => k_is); (case z32g => k_is); (case z32h => k_is); (case z32i => k_is); (case z32j => k_is))
  (case cl_NoFact => refine' DL.ClsIn.mk' ?z33a ?z33b ?z33c ?z33d ?z33e ?z33f ?z33g ?z33h ?z33i ?z33j; (case z33a => k_is); (case z33b => k_exc); (case z33c => k_is); (case z33d => k_is); (case z33e => k_is); (case z33f => k_is); (case z33g => k_is); (case z33h => k_is); (case z33i => k_is); (case z33j => k_is))
  (case cl_NoText => refine' DL.ClsIn.mk' ?z34a ?z34b ?z34c ?z34d ?z34e ?z34f ?z34g ?z34h ?z34i ?z34j; (case z34a => k_is); (case z34b => k_exc); (case z34c => k_is); (case z34d => k_is); (case z34e => k_is); (case z34f => k_is); (case z34g => k_is); (case z34h => k_is); (case z34i => k_is); (case z34j => k_is))
  (case s_FactError_BadFact => k_is)
  (case s_BadRule_BadFact => k_is)
  (case s_BadWidth_BadFact => k_is)
  (case s_Unbound_BadFact => k_is)
  (case s_Ringed_BadFact => k_is)
  (case s_TooMany_BadFact => k_is)
  (case s_NoFact_BadFact => k_is)
  (case s_NoText_BadFact => k_is)
  (case s_FactError_BadRule => k_is)
  (case s_BadFact_BadRule => k_is)
  (case s_BadWidth_BadRule => k_is)
  (case s_Unbound_BadRule => k_is)
  (case s_Ringed_BadRule => k_is)
  (case s_TooMany_BadRule => k_is)
  (case s_NoFact_BadRule => k_is)
  (case s_NoText_BadRule => k_is)
  (case s_FactError_BadWidth => k_is)
  (case s_BadFact_BadWidth => k_is)
  (case s_BadRule_BadWidth => k_is)
  (case s_Unbound_BadWidth => k_is)
  (case s_Ringed_BadWidth => k_is)
  (case s_TooMany_BadWidth => k_is)
  (case s_NoFact_BadWidth => k_is)
  (case s_NoText_BadWidth => k_is)
  (case s_BadFact_FactError => k_is)
  (case s_BadRule_FactError => k_is)
  (case s_BadWidth_FactError => k_is)
  (case s_Unbound_FactError => k_is)
  (case s_Ringed_FactError => k_is)
  (case s_TooMany_FactError => k_is)
  (case s_NoFact_FactError => k_is)
  (case s_NoText_FactError => k_is)
  (case s_FactError_NoFact => k_is)
  (case s_BadFact_NoFact => k_is)
  (case s_BadRule_NoFact => k_is)
  (case s_BadWidth_NoFact => k_is)
  (case s_Unbound_NoFact => k_is)
  (case s_Ringed_NoFact => k_is)
  (case s_TooMany_NoFact => k_is)
  (case s_NoText_NoFact => k_is)
  (case s_FactError_NoText => k_is)
  (case s_BadFact_NoText => k_is)
  (case s_BadRule_NoText => k_is)
  (case s_BadWidth_NoText => k_is)
  (case s_Unbound_NoText => k_is)
  (case s_Ringed_NoText => k_is)
  (case s_TooMany_NoText => k_is)
  (case s_NoFact_NoText => k_is)
  (case s_FactError_Ringed => k_is)
  (case s_BadFact_Ringed => k_is)
  (case s_BadRule_Ringed => k_is)
  (case s_BadWidth_Ringed => k_is)
  (case s_Unbound_Ringed => k_is)
  (case s_TooMany_Ringed => k_is)
  (case s_NoFact_Ringed => k_is)
  (case s_NoText_Ringed => k_is)
  (case s_FactError_TooMany => k_is)
  (case s_BadFact_TooMany => k_is)
  (case s_BadRule_TooMany => k_is)
  (case s_BadWidth_TooMany => k_is)
  (case s_Unbound_TooMany => k_is)
  (case s_Ringed_TooMany => k_is)
  (case s_NoFact_TooMany => k_is)
  (case s_NoText_TooMany => k_is)
  (case s_FactError_Unbound => k_is)
  (case s_BadFact_Unbound => k_is)
  (case s_BadRule_Unbound => k_is)
  (case s_BadWidth_Unbound => k_is)
  (case s_Ringed_Unbound => k_is)
  (case s_TooMany_Unbound => k_is)
  (case s_NoFact_Unbound => k_is)
  (case s_NoText_Unbound => k_is)
  (case nb_ValueError => k_is)
  (case sbb_ValueError => k_is)
  (case s_FactError_ValueError => k_is)
  (case s_BadFact_ValueError => k_is)
  (case s_BadRule_ValueError => k_is)
  (case s_BadWidth_ValueError => k_is)
  (case s_Unbound_ValueError => k_is)
  (case s_Ringed_ValueError => k_is)
  (case s_TooMany_ValueError => k_is)
  (case s_NoFact_ValueError => k_is)
  (case s_NoText_ValueError => k_is)
  (case k1_MOST_WIDTH => k_is)
  (case k1_MOST_PARTS => k_is)
  (case k1_MOST_SIGNS => k_is)
  (case k1_MOST_NUMBER => k_is)
  (case k1_SMALL_LETTERS => k_is)
  (case k1_GREAT_LETTERS => k_is)
  (case k1_KEPT_WORDS => k_is)
  (case k2_KEPT_WORDS => k_is)
  (case k1_PATTERN_PARTS => k_is)
  (case k2_PATTERN_PARTS => k_is)
  (case k1_TERM_COUNTS => k_is)
  (case k2_TERM_COUNTS => k_is)
  (case k3_TERM_COUNTS => rfl)
  (case k4_0_TERM_COUNTS => rfl)
  (case k4_1_TERM_COUNTS => rfl)
  (case k4_2_TERM_COUNTS => rfl)
  (case b_all => k_is)
  (case b_any => k_is)
  (case b_bool => k_is)
  (case b_int => k_is)
  (case b_isinstance => k_is)
  (case b_len => k_is)
  (case b_list => k_is)
  (case b_max => k_is)
  (case b_range => k_is)
  (case b_str => k_is)
  (case b_tuple => k_is)
  (case d_is_short_text => refine' DL.DIn.mk' ?z145a ?z145l ?z145c ?z145p; (case z145a => k_is); (case z145l => k_is); (case z145c => k_is); (case z145p => k_is))
  (case d_all_small => refine' DL.DIn.mk' ?z146a ?z146l ?z146c ?z146p; (case z146a => k_is); (case z146l => k_is); (case z146c => k_is); (case z146p => k_is))
  (case d_is_name => refine' DL.DIn.mk' ?z147a ?z147l ?z147c ?z147p; (case z147a => k_is); (case z147l => k_is); (case z147c => k_is); (case z147p => k_is))
  (case d_is_free => refine' DL.DIn.mk' ?z148a ?z148l ?z148c ?z148p; (case z148a => k_is); (case z148l => k_is); (case z148c => k_is); (case z148p => k_is))
  (case d_is_number => refine' DL.DIn.mk' ?z149a ?z149l ?z149c ?z149p; (case z149a => k_is); (case z149l => k_is); (case z149c => k_is); (case z149p => k_is))
  (case d_is_value => refine' DL.DIn.mk' ?z150a ?z150l ?z150c ?z150p; (case z150a => k_is); (case z150l => k_is); (case z150c => k_is); (case z150p => k_is))
  (case d_is_term => refine' DL.DIn.mk' ?z151a ?z151l ?z151c ?z151p; (case z151a => k_is); (case z151l => k_is); (case z151c => k_is); (case z151p => k_is))
  (case d_is_pattern => refine' DL.DIn.mk' ?z152a ?z152l ?z152c ?z152p; (case z152a => k_is); (case z152l => k_is); (case z152c => k_is); (case z152p => k_is))
  (case d_is_fact => refine' DL.DIn.mk' ?z153a ?z153l ?z153c ?z153p; (case z153a => k_is); (case z153l => k_is); (case z153c => k_is); (case z153p => k_is))
  (case d_word_ahead => refine' DL.DIn.mk' ?z154a ?z154l ?z154c ?z154p; (case z154a => k_is); (case z154l => k_is); (case z154c => k_is); (case z154p => k_is))
  (case d_is_part => refine' DL.DIn.mk' ?z155a ?z155l ?z155c ?z155p; (case z155a => k_is); (case z155l => k_is); (case z155c => k_is); (case z155p => k_is))
  (case d_l_cell_at => refine' DL.DIn.mk' ?z156a ?z156l ?z156c ?z156p; (case z156a => k_is); (case z156l => k_is); (case z156c => k_is); (case z156p => k_is))
  (case d_l_free_words => refine' DL.DIn.mk' ?z157a ?z157l ?z157c ?z157p; (case z157a => k_is); (case z157l => k_is); (case z157c => k_is); (case z157p => k_is))
  (case d_l_term_by => refine' DL.DIn.mk' ?z158a ?z158l ?z158c ?z158p; (case z158a => k_is); (case z158l => k_is); (case z158c => k_is); (case z158p => k_is))
  (case d_l_pattern_by => refine' DL.DIn.mk' ?z159a ?z159l ?z159c ?z159p; (case z159a => k_is); (case z159l => k_is); (case z159c => k_is); (case z159p => k_is))
  (case d_l_part_by => refine' DL.DIn.mk' ?z160a ?z160l ?z160c ?z160p; (case z160a => k_is); (case z160l => k_is); (case z160c => k_is); (case z160p => k_is))
  (case d_l_is_free => refine' DL.DIn.mk' ?z161a ?z161l ?z161c ?z161p; (case z161a => k_is); (case z161l => k_is); (case z161c => k_is); (case z161p => k_is))
  (case d_l_spoilt_pattern => refine' DL.DIn.mk' ?z162a ?z162l ?z162c ?z162p; (case z162a => k_is); (case z162l => k_is); (case z162c => k_is); (case z162p => k_is))
  (case d_l_spoilt_part => refine' DL.DIn.mk' ?z163a ?z163l ?z163c ?z163p; (case z163a => k_is); (case z163l => k_is); (case z163c => k_is); (case z163p => k_is))
  (case d_need_fact => refine' DL.DIn.mk' ?z164a ?z164l ?z164c ?z164p; (case z164a => k_is); (case z164l => k_is); (case z164c => k_is); (case z164p => k_is))
  (case d_l_names => refine' DL.DIn.mk' ?z165a ?z165l ?z165c ?z165p; (case z165a => k_is); (case z165l => k_is); (case z165c => k_is); (case z165p => k_is))
  (case d_l_fact_told => refine' DL.DIn.mk' ?z166a ?z166l ?z166c ?z166p; (case z166a => k_is); (case z166l => k_is); (case z166c => k_is); (case z166p => k_is))
  (case d_is_body => refine' DL.DIn.mk' ?z167a ?z167l ?z167c ?z167p; (case z167a => k_is); (case z167l => k_is); (case z167c => k_is); (case z167p => k_is))
  (case d_free_among => refine' DL.DIn.mk' ?z168a ?z168l ?z168c ?z168p; (case z168a => k_is); (case z168l => k_is); (case z168c => k_is); (case z168p => k_is))
  (case d_words_of_part => refine' DL.DIn.mk' ?z169a ?z169l ?z169c ?z169p; (case z169a => k_is); (case z169l => k_is); (case z169c => k_is); (case z169p => k_is))
  (case d_wanted_by => refine' DL.DIn.mk' ?z170a ?z170l ?z170c ?z170p; (case z170a => k_is); (case z170l => k_is); (case z170c => k_is); (case z170p => k_is))
  (case d_need_bound => refine' DL.DIn.mk' ?z171a ?z171l ?z171c ?z171p; (case z171a => k_is); (case z171l => k_is); (case z171c => k_is); (case z171p => k_is))
  (case d_need_bound_parts => refine' DL.DIn.mk' ?z172a ?z172l ?z172c ?z172p; (case z172a => k_is); (case z172l => k_is); (case z172c => k_is); (case z172p => k_is))
  (case d_need_body => refine' DL.DIn.mk' ?z173a ?z173l ?z173c ?z173p; (case z173a => k_is); (case z173l => k_is); (case z173c => k_is); (case z173p => k_is))
  (case d_l_body_told => refine' DL.DIn.mk' ?z174a ?z174l ?z174c ?z174p; (case z174a => k_is); (case z174l => k_is); (case z174c => k_is); (case z174p => k_is))
  (case d_law => refine' DL.DIn.mk' ?z175a ?z175l ?z175c ?z175p; (case z175a => k_is); (case z175l => k_is); (case z175c => k_is); (case z175p => k_is))
