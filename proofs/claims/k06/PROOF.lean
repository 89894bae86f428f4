import PyProof.Rows.All
import Wide.All
import OpenK.AllK
import Wide.FinOn
import Lean
import PyProof.EqAt
import PyProof.EqKinds
import PyProof.TupleCall
import PySem.Challenge.RW_whyfacts_k06_leans
set_option Elab.async false
set_option linter.all false
set_option maxRecDepth 100000
theorem Qkr : type_of% @Bool.false_ne_true := @Bool.false_ne_true
theorem Qks : type_of% @List.getElem?_eq_getElem := @List.getElem?_eq_getElem
theorem Qkt : type_of% @PySem.Heap.get?_push_of_some := @PySem.Heap.get?_push_of_some
theorem Qku : type_of% @List.mem_append_right := @List.mem_append_right
theorem Qkv : type_of% @List.mem_cons_self := @List.mem_cons_self
theorem Qkw : type_of% @PySem.Heap.lt_size := @PySem.Heap.lt_size
theorem Qkx : type_of% @List.size_toArray := @List.size_toArray
theorem Qky : type_of% @Nat.le_refl := @Nat.le_refl
theorem Qkz : type_of% @List.length_map := @List.length_map
theorem QkA : type_of% @List.mem_cons_of_mem := @List.mem_cons_of_mem
theorem QkB : type_of% @List.length_append := @List.length_append
theorem QkC : type_of% @Nat.lt_of_lt_of_le := @Nat.lt_of_lt_of_le
theorem QkD : type_of% @List.getD_eq_getElem?_getD := @List.getD_eq_getElem?_getD
theorem QkE : type_of% @PySem.Heap.get?_push_size := @PySem.Heap.get?_push_size
theorem QkF : type_of% @Nat.ne_of_lt := @Nat.ne_of_lt
theorem QkG : type_of% @List.getElem?_map := @List.getElem?_map
theorem QkH : type_of% @List.length_cons := @List.length_cons
theorem QkI : type_of% @Nat.le_trans := @Nat.le_trans
theorem QkJ : type_of% @List.length_singleton := @List.length_singleton
theorem QkK : type_of% @Bool.and_eq_true := @Bool.and_eq_true
theorem QkL : type_of% @Nat.lt_irrefl := @Nat.lt_irrefl
theorem QkM : type_of% @List.drop_eq_getElem_cons := @List.drop_eq_getElem_cons
theorem QkN : type_of% @Nat.lt_of_le_of_lt := @Nat.lt_of_le_of_lt
namespace L2
open PySem PySem.Spec PyProof.Rows
abbrev Key := Sum Int Str
def QhM : Key->Value->Bool
 | .inl k, v => Value.isInt k v
 | .inr x, v => Value.isStrOf x v
def keyH (w : World) : Key->Int
 | .inl k => hashInt k
 | .inr x => hashStr w x
theorem keyIs_shape : ∀ {k : Key} {v : Value}, QhM k v = true->(∃ i t, k = Sum.inl i/\v = Value.int i t)\/(∃ x t, k = Sum.inr x/\v = Value.str x t)
 | .inl i, v, h => by
  obtain ⟨t, e⟩ := Value.isInt_shape (k := i) (v := v) h
  exact .inl ⟨i, t, rfl, e⟩
 | .inr x, v, h => by
  obtain ⟨t, e⟩ := Value.isStrOf_shape (x := x) (v := v) h
  exact .inr ⟨x, t, rfl, e⟩
theorem Qjk (i : Int) (t : Tok) : QhM (.inl i) (.int i t) = true := by simp [QhM, Value.isInt]
theorem Qjj (x : Str) (t : Tok) : QhM (.inr x) (.str x t) = true := by simp [QhM, Value.isStrOf]
theorem key_ll (a b : Int) : decide ((Sum.inl a : Key) = Sum.inl b) = (a == b) := by
 by_cases e : a = b
 ·subst e; simp
 ·have h : ¬ (Sum.inl a : Key) = Sum.inl b := fun q => e (Sum.inl.inj q)
  rw [decide_eq_false h]
  exact (beq_eq_false_iff_ne.mpr e).symm
theorem key_rr (a b : Str) : decide ((Sum.inr a : Key) = Sum.inr b) = decide (a = b) := by
 by_cases e : a = b
 ·subst e; simp
 ·have h : ¬ (Sum.inr a : Key) = Sum.inr b := fun q => e (Sum.inr.inj q)
  rw [decide_eq_false h, decide_eq_false e]
theorem key_lr (a : Int) (b : Str) : decide ((Sum.inl a : Key) = Sum.inr b) = false := decide_eq_false (fun q => nomatch q)
theorem key_rl (a : Str) (b : Int) : decide ((Sum.inr a : Key) = Sum.inl b) = false := decide_eq_false (fun q => nomatch q)
def QaA (prog : Program) (w : World) : PySem.KeyKind prog w Key where
 is := QhM
 hash := keyH w
 inj := fun v a b ha hb => by
  rcases keyIs_shape ha with ⟨i, t, rfl, rfl⟩ | ⟨x, t, rfl, rfl⟩
  ·rcases keyIs_shape hb with ⟨j, u, rfl, e⟩ | ⟨y, u, rfl, e⟩
   ·injection e with e1 _; rw [e1]
   ·exact nomatch e
  ·rcases keyIs_shape hb with ⟨j, u, rfl, e⟩ | ⟨y, u, rfl, e⟩
   ·exact nomatch e
   ·injection e with e1 _; rw [e1]
 byValue := fun k v h => by
  rcases keyIs_shape h with ⟨i, t, rfl, rfl⟩ | ⟨x, t, rfl, rfl⟩ <;> rfl
 pyHash := fun hv h => by
  rcases keyIs_shape hv with ⟨i, t, rfl, rfl⟩ | ⟨x, t, rfl, rfl⟩
  ·exact wpAny_pyHash_int h
  ·exact wpAny_pyHash_str h
 eqBool := fun hu hv h => by
  rcases keyIs_shape hu with ⟨i, t, rfl, rfl⟩ | ⟨x, t, rfl, rfl⟩
  ·rcases keyIs_shape hv with ⟨j, u, rfl, rfl⟩ | ⟨y, u, rfl, rfl⟩
   ·rw [key_ll] at h; exact wpAny_eqBool_int h
   ·rw [key_lr] at h; exact SeqAt.EqAt.int_str i t y u _ _ _ _ h
  ·rcases keyIs_shape hv with ⟨j, u, rfl, rfl⟩ | ⟨y, u, rfl, rfl⟩
   ·rw [key_rl] at h; exact SeqAt.EqAt.str_int x t j u _ _ _ _ h
   ·rw [key_rr] at h; exact wpAny_eqBool_str h
 «strs» := fun k x t v h => by
  rcases keyIs_shape h with ⟨i, u, rfl, e⟩ | ⟨y, u, rfl, e⟩
  ·exact nomatch e
  ·injection e with e1 _
   subst e1
   cases v <;> rfl
theorem QfW (prog : Program) (w : World) (i : Int) (t : Tok) : (QaA prog w).is (.inl i) (.int i t) = true := Qjk i t
theorem QfV (prog : Program) (w : World) (x : Str) (t : Tok) : (QaA prog w).is (.inr x) (.str x t) = true := Qjj x t
end L2
namespace L2
open PySem PySem.Spec PyProof.Rows
inductive V where
 | non | bl (b : Bool) | int (i : Int) | str (x : Str) | byt (b : Array UInt8) | flt (b : UInt64) | ref (a : Addr) | ty (n : String)
 deriving DecidableEq
def RelV : V->Value->Prop
 | .non, u => u = Value.none
 | .bl b, u => u = Value.bool b
 | .int i, u => ∃ t, u = Value.int i t
 | .str x, u => ∃ t, u = Value.str x t
 | .byt b, u => ∃ t, u = Value.bytes b t
 | .flt b, u => ∃ t, u = Value.float b t
 | .ref a, u => u = Value.ref a
 | .ty n, u => u = Value.type n
abbrev Vals : List V->List Value->Prop := Paired RelV
theorem Vals.length {xs : List V} {us : List Value} (r : Vals xs us) : xs.length = us.length := Paired.length r
theorem Vals.get : ∀ {xs : List V} {us : List Value} {i : Nat} {x : V}, Vals xs us->xs[i]? = some x->∃ u, us[i]? = some u/\RelV x u
 | _, _, _, _, .nil, e => by simp at e
 | _, _, 0, _, .cons r _, e => by simp at e; subst e; exact ⟨_, rfl, r⟩
 | _, _, i + 1, x, .cons _ t, e => by
  obtain ⟨u, h1, h2⟩ := Vals.get (i := i) (x := x) t (by simpa using e)
  exact ⟨u, by simpa using h1, h2⟩
theorem Vals.set {x : V} {u : Value} (r : RelV x u) : ∀ {xs : List V} {us : List Value} (i : Nat), Vals xs us->Vals (xs.set i x) (us.set i u)
 | _, _, _, .nil => .nil
 | _, _, 0, .cons _ t => .cons r t
 | _, _, i + 1, .cons q t => .cons q (Vals.set r i t)
theorem Vals.append : ∀ {xs ys : List V} {us ws : List Value}, Vals xs us->Vals ys ws->Vals (xs ++ ys) (us ++ ws)
 | _, _, _, _, .nil, s => s
 | _, _, _, _, .cons r t, s => .cons r (Vals.append t s)
theorem Vals.take : ∀ {xs : List V} {us : List Value} (n : Nat), Vals xs us->Vals (xs.take n) (us.take n)
 | _, _, 0, _ => .nil
 | _, _, _ + 1, .nil => .nil
 | _, _, n + 1, .cons r t => .cons r (Vals.take n t)
theorem Vals.drop : ∀ {xs : List V} {us : List Value} (n : Nat), Vals xs us->Vals (xs.drop n) (us.drop n)
 | _, _, 0, r => r
 | _, _, _ + 1, .nil => .nil
 | _, _, n + 1, .cons _ t => Vals.drop n t
def RelO : Option V->Option Value->Prop
 | some v, some u => RelV v u
 | none, none => True
 | _, _ => False
def KV {κ : Type} : List (κ × V)->List (κ × Value)->Prop := Paired fun (p : κ × V) (q : κ × Value) => p.1 = q.1/\RelV p.2 q.2
def kV : Key->V
 | .inl i => .int i
 | .inr x => .str x
inductive HO where
 | lst (xs : List V)
 | tup (xs : List V)
 | dK (kvs : List (Key × V)) | dT (kvs : List (List Key × V))
 | set (S : Int->Bool) (n : Nat)
 | ins (C dx : Addr) (fs : List (Str × V))
 | own (x : Addr)
 | xd (fs : List (Str × V))
 | met (f x : Addr)
 | rng (lo hi : Int)
 | frz (o : Obj) (u : HO)
 | tbl (ps : Array Value)
 | ext (φ : Heap->Prop)
abbrev Hp := Addr->Option HO
def upd (H : Hp) (a : Addr) (o : HO) : Hp := fun b => if b = a then some o else H b
theorem Qar {H : Hp} {a : Addr} {o : HO} : upd H a o a = some o := by unfold upd; rw [if_pos rfl]
theorem Qaj {H : Hp} {a b : Addr} {o : HO} (h : b ≠ a) : upd H a o b = H b := by unfold upd; rw [if_neg h]
theorem ne_of {H : Hp} {a b : Addr} {o u : HO} (h : H a = some o) (h' : H b = some u) (d : o ≠ u) : a ≠ b := by
 intro e; subst e; rw [h] at h'; exact d (Option.some.inj h')
theorem Qal {H : Hp} {a b : Addr} {o : HO} (h : H a = some o) (h' : H b = none) : a ≠ b := by
 intro e; subst e; rw [h] at h'; cases h'
section
variable (P : Program) (w : World)
def QaT (H : Hp) (h : Heap) (a : Addr) : HO->Prop
 | .lst xs => xs.length<=sizeLine/\∃ (its : List Value) (n : Nat), Vals xs its/\h.get? a = some { cls := .type "list", data := .seq its.toArray n }
 | .tup xs => xs.length<=sizeLine/\∃ its : List Value, Vals xs its/\IsTup h a its.toArray
 | .dK kvs => kvs.length<=sizeLine/\(a == sysModules) = false/\∃ vs, KV kvs vs/\h.DictOf (QaA P w) a vs
 | .dT kvs => kvs.length<=sizeLine/\(a == sysModules) = false/\∃ xs : List (List Key × Addr × Value),
   Paired (fun (p : List Key × V) (q : List Key × Addr × Value) => p.1 = q.1/\H q.2.1 = some (.tup (p.1.map kV))/\RelV p.2 q.2.2) kvs xs /\
   ∃ o es ep, h.get? a = some o/\o.ExactDict/\o.data = .dict es ep/\es.toList = xs.map (entryOfKey (tupleKind (QaA P w)))/\(xs.map (·.1)).Nodup
 | .set S n => h.SetOf (intKind P w) a S n
 | .ins C dx fs => H dx = some (.own a)/\fs.length<=1000/\dx ≠ a/\h.get? a = some (PySem.W.instObj C dx) /\
   ∃ mA, h.Ns1 dx mA/\(∀ f, RelO (fs.lookup f) (mA f))/\PySem.Within mA (fs.map (·.1))
 | .own _ => ∃ o, h.get? a = some o
 | .xd fs => ∃ mA, h.Ns1 a mA/\∀ f, RelO (fs.lookup f) (mA f)
 | .rng lo hi => ∃ t u v, h.get? a = some { cls := .type "range", data := .fields #[.int lo t, .int hi u, .int 1 v] }
 | .frz o u => h.get? a = some o/\QaT H h a u
 | .tbl ps => h.get? a = some { cls := .none, data := .fields ps }
 | .met f x => h.get? a = some (PySem.W.methodObj (.ref f) (.ref x))
 | .ext φ => φ h/\(∃ o, h.get? a = some o)/\∀ h1 h2 : Heap, φ h1->(∀ o, h1.get? a = some o->h2.get? a = some o)->φ h2
def HOk (H : Hp) (h : Heap) : Prop := ∀ a o, H a = some o->QaT P w H h a o
end
section
variable {P : Program} {w : World} {H H' : Hp} {h h' : Heap} {a : Addr} {o : HO}
theorem QaT.lt (x : QaT P w H h a o) : a < h.objs.size := by
 cases o with
 | lst xs => obtain ⟨_, _, _, _, e⟩ := x; exact Qkw e
 | tup xs => obtain ⟨_, _, _, p⟩ := x; exact p.lt
 | dK kvs => obtain ⟨_, _, _, _, o, _, _, e, _⟩ := x; exact Qkw e
 | dT kvs => obtain ⟨_, _, _, _, o, _, _, e, _⟩ := x; exact Qkw e
 | set S n => obtain ⟨o, _, _, _, e, _⟩ := x; exact Qkw e
 | ins C dx fs => obtain ⟨_, _, _, e, _⟩ := x; exact Qkw e
 | own y => obtain ⟨_, e⟩ := x; exact Qkw e
 | xd fs => obtain ⟨_, ⟨_, _, _, e, _⟩, _⟩ := x; exact Qkw e
 | rng lo hi => obtain ⟨_, _, _, e⟩ := x; exact Qkw e
 | frz ob u => obtain ⟨e, _⟩ := x; exact Qkw e
 | tbl ps => exact Qkw (show h.get? a = some _ from x)
 | met f y => exact Qkw (show h.get? a = some _ from x)
 | ext φ => obtain ⟨_, ⟨_, e⟩, _⟩ := x; exact Qkw e
theorem Paired.mapP {α β : Type} {F G : α->β->Prop} : ∀ {l₁ : List α} {l₂ : List β}, Paired F l₁ l₂->(∀ a b, F a b->G a b)->Paired G l₁ l₂
 | _, _, .nil, _ => .nil
 | _, _, .cons r t, f => .cons (f _ _ r) (Paired.mapP t f)
theorem QaT.stay (x : QaT P w H h a o) (k : ∀ b u, (b = a\/H b = some (.own a))->h.get? b = some u->h'.get? b = some u)
  (ho : ∀ b, H b = some (.own a)->H' b = some (.own a)) (ht : ∀ b xs, H b = some (.tup xs)->H' b = some (.tup xs)) : QaT P w H' h' a o := by
 induction o with
 | lst xs => obtain ⟨z, its, n, r, e⟩ := x; exact ⟨z, its, n, r, k _ _ (.inl rfl) e⟩
 | tup xs => obtain ⟨z, its, r, ob, e, c⟩ := x; exact ⟨z, its, r, ob, k _ _ (.inl rfl) e, c⟩
 | dK kvs => obtain ⟨z, y, vs, r, ob, es, ep, e, c⟩ := x; exact ⟨z, y, vs, r, ob, es, ep, k _ _ (.inl rfl) e, c⟩
 | dT kvs =>
  obtain ⟨z, y, xs, r, ob, es, ep, e, c⟩ := x
  exact ⟨z, y, xs, Paired.mapP r fun p q z => ⟨z.1, ht _ _ z.2.1, z.2.2⟩, ob, es, ep, k _ _ (.inl rfl) e, c⟩
 | set S n => obtain ⟨ob, es, ep, t, e, c⟩ := x; exact ⟨ob, es, ep, t, k _ _ (.inl rfl) e, c⟩
 | ins C dx fs =>
  obtain ⟨d, z, ne, e, mA, ⟨od, es, ep, e2, c⟩, r⟩ := x
  exact ⟨ho _ d, z, ne, k _ _ (.inl rfl) e, mA, ⟨od, es, ep, k _ _ (.inr d) e2, c⟩, r⟩
 | own y => obtain ⟨ob, e⟩ := x; exact ⟨ob, k _ _ (.inl rfl) e⟩
 | xd fs => obtain ⟨mA, ⟨od, es, ep, e, c⟩, r⟩ := x; exact ⟨mA, ⟨od, es, ep, k _ _ (.inl rfl) e, c⟩, r⟩
 | rng lo hi => obtain ⟨t, u, v, e⟩ := x; exact ⟨t, u, v, k _ _ (.inl rfl) e⟩
 | frz ob u ih => obtain ⟨e, q⟩ := x; exact ⟨k _ _ (.inl rfl) e, ih q⟩
 | tbl ps =>
  have e : h.get? a = some { cls := .none, data := .fields ps } := x
  show h'.get? a = some { cls := .none, data := .fields ps }
  exact k a _ (.inl rfl) e
 | met f y =>
  have e : h.get? a = some (PySem.W.methodObj (.ref f) (.ref y)) := x
  show h'.get? a = some (PySem.W.methodObj (.ref f) (.ref y))
  exact k a _ (.inl rfl) e
 | ext φ => obtain ⟨p, ⟨o, e⟩, st⟩ := x; exact ⟨st _ _ p fun o q => k _ _ (.inl rfl) q, ⟨o, k _ _ (.inl rfl) e⟩, st⟩
theorem HOk.lt (x : HOk P w H h) (e : H a = some o) : a < h.objs.size := (x a o e).lt
theorem HOk.fresh (x : HOk P w H h) (e : h.objs.size<=a) : H a = none := by
 cases q : H a with
 | none => rfl
 | some u => exact absurd (QkC (x.lt q) e) (QkL _)
theorem HOk.kept (x : HOk P w H h) (k : ∀ b u, h.get? b = some u->h'.get? b = some u) : HOk P w H h' := fun a o e =>
 (x a o e).stay (fun b u _ q => k b u q) (fun _ q => q) fun _ _ q => q
theorem HOk.laid (x : HOk P w H h) (k : ∀ b u, h.get? b = some u->h'.get? b = some u) (hp : h.objs.size<=a) (new : QaT P w (upd H a o) h' a o) : HOk P w (upd H a o) h' := fun b u e => by
 have hn := x.fresh hp
 by_cases hb : b = a
 ·subst hb; rw [Qar] at e; cases e; exact new
 ·rw [Qaj hb] at e
  exact (x b u e).stay (fun c v _ q => k c v q) (fun c q => by rw [Qaj (Qal q hn)]; exact q) fun c xs q => by rw [Qaj (Qal q hn)]; exact q
end
def Rd (H : Hp) (a : Addr) (u : HO) : Prop := H a = some u\/∃ o, H a = some (.frz o u)
theorem Rd.ok {P : Program} {w : World} {H : Hp} {h : Heap} {a : Addr} {u : HO} (r : Rd H a u) (x : HOk P w H h) : QaT P w H h a u := by
 rcases r with r | ⟨o, r⟩
 ·exact x a u r
 ·obtain ⟨_, q⟩ := x a _ r
  exact q
def Mut : Option HO->Prop
 | some (.lst _) => True
 | some (.dK _) => True
 | some (.dT _) => True
 | some (.set _ _) => True
 | some (.ins _ _ _) => True
 | some (.ext _) => True
 | _ => False
section
variable {P : Program} {w : World} {H : Hp} {h h' : Heap} {x e : Addr} {o' : HO}
theorem HOk.write (ok : HOk P w H h) (mu : Mut (H x)) (he : e = x\/H e = some (.own x)) (k : ∀ b u, b ≠ e->h.get? b = some u->h'.get? b = some u) (heo : ∃ u, h'.get? e = some u)
  (new : QaT P w (upd H x o') h' x o') : HOk P w (upd H x o') h' := fun b u q => by
 have nown : ∀ c y, H c = some (.own y)->c ≠ x := fun c y r z => by subst z; rw [r] at mu; exact mu
 have ntup : ∀ c xs, H c = some (.tup xs)->c ≠ x := fun c xs r z => by subst z; rw [r] at mu; exact mu
 by_cases hb : b = x
 ·subst hb; rw [Qar] at q; cases q; exact new
 ·rw [Qaj hb] at q
  by_cases hbe : b = e
  ·have q' : H b = some (.own x) := by
    rcases he with z | z
    ·exact absurd (hbe.trans z) hb
    ·rw [hbe]; exact z
   rw [q] at q'; cases q'
   obtain ⟨v, hv⟩ := heo
   exact ⟨v, by rw [hbe]; exact hv⟩
  ·refine (ok b u q).stay (fun c v hc r => k c v ?_ r) (fun c r => by rw [Qaj (nown c b r)]; exact r) fun c xs r => by rw [Qaj (ntup c xs r)]; exact r
   rcases hc with rfl | hc
   ·exact hbe
   ·rintro rfl
    rcases he with z | z
    ·exact nown c b hc z
    ·rw [hc] at z; cases z; exact hb rfl
end
structure Un (fs ex : List Addr) (H H' : Hp) (h h' : Heap) : Prop where
 keep : ∀ b o, h.get? b = some o->H b = none->b ∉ fs->b ∉ ex->h'.get? b = some o
 slot : ∀ b o, h.get? b = some o->H b = none->b ∈ fs->b ∉ ex->∃ sl, h'.get? b = some { o with slots := sl }
 free : ∀ b o, h.get? b = some o->H b = none->b ∉ ex->H' b = none
 there : ∀ b o, h.get? b = some o->b ∉ ex->∃ o', h'.get? b = some o'
 tups : ∀ b xs, H b = some (.tup xs)->H' b = some (.tup xs)
 frzs : ∀ b o u, H b = some (.frz o u)->H' b = some (.frz o u)
 tbls : ∀ b ps, H b = some (.tbl ps)->∃ more, H' b = some (.tbl (ps ++ more))
section
variable {fs fs' ex ex' : List Addr} {H H1 H2 : Hp} {h h1 h2 h' : Heap} {a x e : Addr} {o : HO}
theorem Un.any (u : Un fs ex H H1 h h1) {b : Addr} {ob : Obj} (q : h.get? b = some ob) (n : H b = none) (hx : b ∉ ex) : ∃ sl, h1.get? b = some { ob with slots := sl } := by
 by_cases hb : b ∈ fs
 ·exact u.slot b ob q n hb hx
 ·exact ⟨ob.slots, u.keep b ob q n hb hx⟩
theorem Un.kept (k : ∀ b u, h.get? b = some u->h'.get? b = some u) : Un fs ex H H h h' :=
 ⟨fun b ob q _ _ _ => k b ob q, fun b ob q _ _ _ => ⟨ob.slots, k b ob q⟩, fun _ _ _ n _ => n, fun b ob q _ => ⟨ob, k b ob q⟩, fun _ _ q => q, fun _ _ _ q => q, fun _ ps q => ⟨#[], by rw [q]; simp⟩⟩
theorem Un.refl : Un fs ex H H h h := Un.kept fun _ _ q => q
theorem Un.laid (k : ∀ b u, h.get? b = some u->h'.get? b = some u) (hp : h.objs.size<=a) (hn : H a = none) : Un fs ex H (upd H a o) h h' where
 keep := fun b u q _ _ _ => k b u q
 slot := fun b u q _ _ _ => ⟨u.slots, k b u q⟩
 free := fun b u q n _ => by rw [Qaj (QkF (QkC (Qkw q) hp))]; exact n
 there := fun b u q _ => ⟨u, k b u q⟩
 tups := fun b xs q => by rw [Qaj (Qal q hn)]; exact q
 frzs := fun b u xs q => by rw [Qaj (Qal q hn)]; exact q
 tbls := fun b ps q => ⟨#[], by rw [Qaj (Qal q hn), q]; simp⟩
theorem Un.write (mu : Mut (H x)) (he : e = x\/H e = some (.own x)) (k : ∀ b u, b ≠ e->h.get? b = some u->h'.get? b = some u) (heo : ∃ u, h'.get? e = some u) : Un fs ex H (upd H x o) h h' := by
 have hx : ∀ b, H b = none->b ≠ x := fun b n z => by subst z; rw [n] at mu; exact mu
 have hb : ∀ b, H b = none->b ≠ e := fun b n z => by
  subst z
  rcases he with r | r
  ·exact hx b n r
  ·rw [n] at r; cases r
 have hm : ∀ b u, H b = some u->¬ Mut (some u)->b ≠ x := fun b u q nm z => by subst z; rw [q] at mu; exact nm mu
 refine ⟨fun b u q n _ _ => k b u (hb b n) q, fun b u q n _ _ => ⟨u.slots, k b u (hb b n) q⟩, fun b u q n _ => by rw [Qaj (hx b n)]; exact n, fun b u q _ => ?_,
  fun b xs q => by rw [Qaj (hm b _ q fun z => z)]; exact q, fun b u xs q => by rw [Qaj (hm b _ q fun z => z)]; exact q, fun b ps q => ⟨#[], by rw [Qaj (hm b _ q fun z => z), q]; simp⟩⟩
 by_cases hbe : b = e
 ·subst hbe; exact heo
 ·exact ⟨u, k b u hbe q⟩
end
def trk (h : Heap) (H : Hp) : List Addr := (List.range h.objs.size).filter fun a => (H a).isSome
def hidT (h : Heap) (H : Hp) : Heap := PySem.W.hideAll h (trk h H)
theorem Qjx (h : Heap) (H : Hp) : (hidT h H).objs.size = h.objs.size := PySem.W.hideAll_size _ _
theorem hidT_get {h : Heap} {H : Hp} {b : Addr} {o : Obj} (e : h.get? b = some o) (n : H b = none) : (hidT h H).get? b = some o :=
 PySem.W.hideAll_get _ e fun hm => by
  have q : (H b).isSome = true := (List.mem_filter.mp hm).2
  rw [n] at q; simp at q
theorem of_hidT {h : Heap} {H : Hp} {b : Addr} {o : Obj} (e : (hidT h H).get? b = some o) : h.get? b = some o/\H b = none := by
 have e' : h.get? b = some o := PySem.W.of_hideAll (trk h H) e
 refine ⟨e', ?_⟩
 cases q : H b with
 | none => rfl
 | some x =>
  have hm : b ∈ trk h H := List.mem_filter.mpr ⟨List.mem_range.mpr (Qkw e'), by simp [q]⟩
  have z : (hidT h H).get? b = none := PySem.W.hideAll_none (trk h H) hm
  rw [z] at e; cases e
def allNews (g h : Heap) (L : Addr) : List (Addr × Obj) := (List.range h.objs.size).filterMap fun a => if a = L\/(g.get? a).isSome = true then none else (h.get? a).map fun o => (a, o)
theorem QbT {g h : Heap} {L a : Addr} {o : Obj} (h1 : a ≠ L) (h2 : g.get? a = none) (h3 : h.get? a = some o) : (a, o) ∈ allNews g h L :=
 List.mem_filterMap.mpr ⟨a, List.mem_range.mpr (Qkw h3), by simp [h1, h2, h3]⟩
theorem QdG {g h : Heap} {L : Addr} {p : Addr × Obj} (hp : p ∈ allNews g h L) : p.1 ≠ L/\g.get? p.1 = none/\h.get? p.1 = some p.2 := by
 obtain ⟨b, _, e⟩ := List.mem_filterMap.mp hp
 split at e
 ·cases e
 ·rename_i hn
  cases q : h.get? b with
  | none => rw [q] at e; simp at e
  | some u =>
   rw [q] at e
   simp only [Option.map_some, Option.some.injEq] at e
   subst e
   refine ⟨fun z => hn (.inl z), ?_, q⟩
   show g.get? b = none
   cases r : g.get? b with
   | none => rfl
   | some v => exact (hn (.inr (by simp [r]))).elim
def rest (g h : Heap) (L d : Addr) : List (Addr × Obj) := (allNews g h L).filter fun p => decide (p.1 ≠ d)
theorem rest_ne {g h : Heap} {L d : Addr} : ∀ p ∈ rest g h L d, p.1 ≠ d := fun p hp => of_decide_eq_true (List.mem_filter.mp hp).2
theorem mem_rest {g h : Heap} {L d a : Addr} {o : Obj} (h1 : a ≠ L) (h2 : g.get? a = none) (h3 : h.get? a = some o) (h4 : a ≠ d) : (a, o) ∈ rest g h L d :=
 List.mem_filter.mpr ⟨QbT h1 h2 h3, decide_eq_true h4⟩
theorem QcU {g h : Heap} {L : Addr} : News g L h (allNews g h L) := fun p hp => let ⟨a, b, c⟩ := QdG hp; ⟨c, a, b⟩
theorem news_at {g h : Heap} {L d : Addr} {o : Obj} (h1 : d ≠ L) (h2 : g.get? d = none) (h3 : h.get? d = some o) : News g L h ((d, o) :: rest g h L d) := fun p hp => by
 rcases List.mem_cons.mp hp with rfl | hp
 ·exact ⟨h3, h1, h2⟩
 ·exact QcU p (List.mem_filter.mp hp).1
theorem Qfc {g h h' : Heap} {L d : Addr} {m : Str->Option Value} (k : ∀ b o, g.get? b = some o->h.get? b = some o) (F : Fr g L h' m) (N : News g L h' (rest g h L d)) :
  ∀ b o, b ≠ L->b ≠ d->h.get? b = some o->h'.get? b = some o := fun b o h1 h2 e => by
 cases q : g.get? b with
 | some u =>
  have := k b u q
  rw [e] at this; cases this
  exact F.keep b _ q
 | none => exact (N (b, o) (mem_rest h1 q e h2)).1
end L2
namespace L2
open PySem PySem.Spec PyProof.Rows
structure Mod (K : PySem.W.Frag) (mg : Str->Option Value) (base : Heap) : Prop where
 kin : K.In base
 glob : base.Ns mainGlobals mg
 blt : ∃ mb, base.Ns builtinsNs mb/\∀ x : Str, x ≠ "__name__"->mb x = bootBuiltins x
 nolimit : base.NoLimit
structure Cx where
 prog : Program
 w : World
 K : PySem.W.Frag
 mg : Str->Option Value
 base : Heap
 A : Around
 N : List Str
 s₀ : Shared
 H₀ : Hp
 env : Env
 outer : List Env
 stack : List Env
 ex : List Addr
 fn : Str->Bool
 calm : Bool
 pn : List (Addr × Obj)
 xe : Value->Shared->Prop
def frs (l : List Env) : List Addr := l.filterMap (·.frame)
abbrev Cx.fs (X : Cx) : List Addr := frs X.outer
def Vis (sc : Scope) (x : Str) : Prop := sc.names.lookup x = some .local\/sc.names.lookup x = some .cell\/sc.names.lookup x = some .free
def Loc (sc : Scope) (x : Str) : Prop := sc.names.lookup x = some .local\/sc.names.lookup x = some .cell
def Look (env : Env) (h : Heap) (m : Str->Option Value) (x : Str) (u : Value) : Prop :=
 (env.kindOf x = some .local/\m x = some u)\/((env.kindOf x = some .cell\/env.kindOf x = some .free)/\∃ c, env.cells.lookup x = some c/\h.IsCell c (some u))
structure Cx.Ok (X : Cx) : Prop where
 mod : Mod X.K X.mg X.base
 kind : X.env.scope.kind = .function
 glob : X.env.globals = mainGlobals
 blt : X.env.builtins = builtinsNs
 above : X.s₀.heap.objs.size<=X.env.locals
 inj : ∀ x y c, X.env.cells.lookup x = some c->X.env.cells.lookup y = some c->x = y
 has : ∀ x, (X.env.kindOf x = some .cell\/X.env.kindOf x = some .free)->∃ c, X.env.cells.lookup x = some c
 cab : ∀ x c, X.fn x = true->X.env.cells.lookup x = some c->X.s₀.heap.objs.size<=c
 hd : X.calm = true->X.A.handled = none
 frames : X.A.frames = some X.stack
 stk : X.stack = X.outer\/(X.stack = X.env :: X.outer/\X.env.frame = some X.env.locals)
 exf : ∀ b ∈ X.ex, b ≠ X.env.locals/\∀ x c, X.env.cells.lookup x = some c->c ≠ b
 bs : ∀ b o, X.base.get? b = some o->X.s₀.heap.get? b = some o/\X.H₀ b = none
 bsz : X.base.objs.size<=X.s₀.heap.objs.size
 noex : ∀ b o, X.base.get? b = some o->b ∉ X.ex
 exfs : ∀ b ∈ X.ex, b ∉ X.fs
 funs : X.s₀.heap.FunFrames X.base X.outer
 frf : ∀ b ∈ X.fs, X.H₀ b = none
structure Inv (X : Cx) (pins : List (Addr × Obj)) (σ : List (Option V)) (H : Hp) (s : Shared) : Prop where
 ok : X.Ok
 os : s.os = X.s₀.os
 bare : AllBare s.gens
 base : Un X.fs X.ex X.H₀ H X.s₀.heap s.heap
 loc : ∃ m, s.heap.Ns X.env.locals m/\∀ (i : Nat) (x : Str) (v : V), X.N[i]? = some x->σ[i]? = some (some v)->Vis X.env.scope x->∃ u, RelV v u/\Look X.env s.heap m x u
 cell : ∀ x c, X.env.cells.lookup x = some c->∃ v, s.heap.IsCell c v
 free : H X.env.locals = none
 freeC : ∀ x c, X.env.cells.lookup x = some c->H c = none
 pin : ∀ p ∈ X.pn ++ pins, s.heap.get? p.1 = some p.2/\H p.1 = none/\p.1 ≠ X.env.locals/\p.1 ∉ X.fs/\∀ v, p.2.data ≠ .cell v
 hok : HOk X.prog X.w H s.heap
 len : σ.length = X.N.length
section
variable {X : Cx} {pins : List (Addr × Obj)} {σ : List (Option V)} {H H' : Hp} {s : Shared} {h' : Heap}
theorem Cx.Ok.nofr (ok : X.Ok) {b : Addr} {o : Obj} (e : X.base.get? b = some o) : b ∉ X.fs := fun hb => by
 have := (ok.funs.mem hb).1
 rw [e] at this; cases this
theorem Inv.bs (I : Inv X pins σ H s) : ∀ b o, X.base.get? b = some o->s.heap.get? b = some o/\H b = none := fun b o e =>
 ⟨I.base.keep b o (I.ok.bs b o e).1 (I.ok.bs b o e).2 (I.ok.nofr e) (I.ok.noex b o e), I.base.free b o (I.ok.bs b o e).1 (I.ok.bs b o e).2 (I.ok.noex b o e)⟩
theorem Inv.bk (I : Inv X pins σ H s) : ∀ b o, X.base.get? b = some o->s.heap.get? b = some o := fun b o e => (I.bs b o e).1
theorem Inv.mod (I : Inv X pins σ H s) : Mod X.K X.mg X.base := I.ok.mod
theorem Inv.kIn (I : Inv X pins σ H s) : X.K.In s.heap := I.ok.mod.kin.keeps I.bk
theorem Inv.fr (I : Inv X pins σ H s) : ∃ m, Fr X.base X.env.locals s.heap m :=
 let ⟨m, hn, _⟩ := I.loc
 ⟨m, hn, I.bk, QkI I.ok.bsz I.ok.above⟩
theorem Inv.lt (I : Inv X pins σ H s) : X.env.locals < s.heap.objs.size := let ⟨_, hn, _⟩ := I.loc; hn.lt
theorem Inv.sz (I : Inv X pins σ H s) : X.s₀.heap.objs.size<=s.heap.objs.size := QkI I.ok.above (Nat.le_of_lt I.lt)
theorem Inv.nofs (I : Inv X pins σ H s) {a : Addr} (h : s.heap.objs.size<=a) : a ∉ X.fs := fun hb => by
 obtain ⟨_, o, ho, _⟩ := I.ok.funs.mem hb
 exact absurd (QkC (Qkw ho) (QkI I.sz h)) (QkL _)
theorem Inv.cne (I : Inv X pins σ H s) : ∀ x c, X.env.cells.lookup x = some c->c ≠ X.env.locals := fun x c e z => by
 obtain ⟨v, o, ho, hd⟩ := I.cell x c e
 obtain ⟨m, ⟨o', es, ep, ho', hd', _⟩, _⟩ := I.loc
 rw [z, ho'] at ho; cases ho; rw [hd'] at hd; cases hd
theorem Inv.funs (I : Inv X pins σ H s) : s.heap.FunFrames X.base X.outer := by
 have all : ∀ (l : List Env), (∀ b ∈ frs l, b ∈ X.fs)->X.s₀.heap.FunFrames X.base l->s.heap.FunFrames X.base l := by
  intro l
  induction l with
  | nil => intro _ _; trivial
  | cons env r ih =>
   intro hs hl
   obtain ⟨hk, ⟨L, o, hf, hn, ho, hd⟩, hr⟩ := hl
   have hL : L ∈ X.fs := hs L (by unfold frs; rw [List.filterMap_cons, hf]; exact Qkv)
   obtain ⟨sl, e⟩ := I.base.slot L o ho (I.ok.frf L hL) hL fun z => I.ok.exfs L z hL
   exact ⟨hk, ⟨L, _, hf, hn, e, hd⟩, ih (fun b hb => hs b (by unfold frs; rw [List.filterMap_cons, hf]; exact QkA _ hb)) hr⟩
 exact all X.outer (fun _ hb => hb) I.ok.funs
theorem Inv.stack (I : Inv X pins σ H s) : s.heap.FunFrames X.base X.stack := by
 rcases I.ok.stk with e | ⟨e, hf⟩
 ·rw [e]; exact I.funs
 ·rw [e]
  obtain ⟨m, hn, _⟩ := I.loc
  refine .cons (by rw [I.ok.kind]; decide) hf hn ?_ I.funs
  exact Heap.get?_none_of_le (QkI I.ok.bsz I.ok.above)
theorem Inv.stkSub (I : Inv X pins σ H s) : ∀ b ∈ frs X.stack, b ∈ X.env.locals :: X.fs := fun b hb => by
 rcases I.ok.stk with e | ⟨e, hf⟩
 ·rw [e] at hb; exact QkA _ hb
 ·rw [e] at hb
  unfold frs at hb
  rw [List.filterMap_cons, hf] at hb
  exact hb
theorem Inv.stkFree (I : Inv X pins σ H s) : ∀ b ∈ frs X.stack, H b = none := fun b hb => by
 rcases List.mem_cons.mp (I.stkSub b hb) with e | hb
 ·rw [e]; exact I.free
 ·obtain ⟨_, o, ho, _⟩ := I.ok.funs.mem hb
  exact I.base.free b o ho (I.ok.frf b hb) fun z => I.ok.exfs b z hb
theorem Inv.step {g' : Array GenState} {t' : Nat} {d' : Drawn} {ch : List Addr} (I : Inv X pins σ H s)
  (hch : ∀ b ∈ ch, (b ∈ X.ex\/X.s₀.heap.objs.size<=b)/\b ≠ X.env.locals/\(∀ x c, X.env.cells.lookup x = some c->c ≠ b)/\∀ p ∈ X.pn ++ pins, p.1 ≠ b)
  (keep : ∀ b o, b ≠ X.env.locals->b ∉ X.fs->b ∉ ch->s.heap.get? b = some o->H b = none->h'.get? b = some o)
  (slot : ∀ b o, b ≠ X.env.locals->b ∈ X.fs->b ∉ ch->s.heap.get? b = some o->H b = none->∃ sl, h'.get? b = some { o with slots := sl }) (free : ∀ b o, b ∉ ch->s.heap.get? b = some o->H b = none->H' b = none)
  (there : ∀ b o, b ∉ ch->s.heap.get? b = some o->∃ o', h'.get? b = some o')
  (tups : ∀ b xs, H b = some (.tup xs)->H' b = some (.tup xs)) (frzs : ∀ b o u, H b = some (.frz o u)->H' b = some (.frz o u)) (tbls : ∀ b ps, H b = some (.tbl ps)->∃ more, H' b = some (.tbl (ps ++ more)))
  (ns : ∀ m, s.heap.Ns X.env.locals m->h'.Ns X.env.locals m) (hok : HOk X.prog X.w H' h') (hg : AllBare g') :
  Inv X pins σ H' { s with heap := h', gens := g', drawn := d', toks := t' } := by
 have neL : ∀ b o, X.s₀.heap.get? b = some o->b ≠ X.env.locals := fun b o e => QkF (QkC (Qkw e) I.ok.above)
 have neC : ∀ b o, X.s₀.heap.get? b = some o->b ∉ X.ex->b ∉ ch := fun b o e hx hb => by
  rcases (hch b hb).1 with z | z
  ·exact hx z
  ·exact absurd (QkC (Qkw e) z) (QkL _)
 have cellK : ∀ x c, X.env.cells.lookup x = some c->∀ v, s.heap.IsCell c v->h'.IsCell c v := fun x c e v ⟨o, ho, hd⟩ => by
  have nch : c ∉ ch := fun z => (hch c z).2.2.1 x c e rfl
  by_cases hc : c ∈ X.fs
  ·obtain ⟨sl, q⟩ := slot c o (I.cne x c e) hc nch ho (I.freeC x c e)
   exact ⟨_, q, hd⟩
  ·exact ⟨o, keep c o (I.cne x c e) hc nch ho (I.freeC x c e), hd⟩
 refine ⟨I.ok, I.os, hg, ⟨fun b o e n hb hx => ?_, fun b o e n hb hx => ?_, fun b o e n hx => ?_, fun b o e hx => ?_, fun b xs e => tups b xs (I.base.tups b xs e), fun b o xs e => frzs b o xs (I.base.frzs b o xs e), fun b ps e => ?_⟩, ?_, fun x c e => ?_, ?_, fun x c e => ?_, fun p hp => ?_, hok, I.len⟩
 ·exact keep b o (neL b o e) hb (neC b o e hx) (I.base.keep b o e n hb hx) (I.base.free b o e n hx)
 ·obtain ⟨sl, e1⟩ := I.base.slot b o e n hb hx
  obtain ⟨sl', e2⟩ := slot b _ (neL b o e) hb (neC b o e hx) e1 (I.base.free b o e n hx)
  exact ⟨sl', e2⟩
 ·obtain ⟨o', e1⟩ := I.base.there b o e hx
  exact free b o' (neC b o e hx) e1 (I.base.free b o e n hx)
 ·obtain ⟨o', e1⟩ := I.base.there b o e hx
  exact there b o' (neC b o e hx) e1
 ·obtain ⟨m1, e1⟩ := I.base.tbls b ps e
  obtain ⟨m2, e2⟩ := tbls b _ e1
  exact ⟨m1 ++ m2, by rw [e2, Array.append_assoc]⟩
 ·obtain ⟨m, hn, hl⟩ := I.loc
  refine ⟨m, ns m hn, fun i x v e1 e2 e3 => ?_⟩
  obtain ⟨u, r, l⟩ := hl i x v e1 e2 e3
  refine ⟨u, r, ?_⟩
  rcases l with l | ⟨k, c, e, z⟩
  ·exact .inl l
  ·exact .inr ⟨k, c, e, cellK x c e _ z⟩
 ·obtain ⟨v, z⟩ := I.cell x c e
  exact ⟨v, cellK x c e v z⟩
 ·obtain ⟨m, ⟨o, _, _, ho, _⟩, _⟩ := I.loc
  exact free _ o (fun z => (hch _ z).2.1 rfl) ho I.free
 ·obtain ⟨v, o, ho, hd⟩ := I.cell x c e
  exact free c o (fun z => (hch c z).2.2.1 x c e rfl) ho (I.freeC x c e)
 ·obtain ⟨e, n, ne, nf, d⟩ := I.pin p hp
  have nch : p.1 ∉ ch := fun z => (hch p.1 z).2.2.2 p hp rfl
  exact ⟨keep p.1 p.2 ne nf nch e n, free p.1 p.2 nch e n, ne, nf, d⟩
theorem Inv.un {t' : Nat} (I : Inv X pins σ H s) (u : Un X.fs [] H H' s.heap h') (hok : HOk X.prog X.w H' h') : Inv X pins σ H' { s with heap := h', toks := t' } := by
 obtain ⟨m, ⟨o, es, ep, ho, r⟩, _⟩ := id I.loc
 obtain ⟨sl, hL⟩ := u.any ho I.free (by simp)
 exact I.step (g' := s.gens) (d' := s.drawn) (ch := []) (fun _ z => nomatch z) (fun b o _ hb _ e n => u.keep b o e n hb (by simp)) (fun b o _ hb _ e n => u.slot b o e n hb (by simp)) (fun b o _ e n => u.free b o e n (by simp)) (fun b o _ e => u.there b o e (by simp)) u.tups u.frzs u.tbls (fun m' hm => by
  obtain ⟨o', es', ep', ho', r'⟩ := hm
  rw [ho] at ho'; cases ho'
  exact ⟨_, es', ep', hL, r'⟩) hok I.bare
theorem Inv.call {g' : Array GenState} {t' : Nat} {d' : Drawn} {ch : List Addr} (I : Inv X pins σ H s) (u : Un (frs X.stack) ch H H' s.heap h') (hok : HOk X.prog X.w H' h') (hg : AllBare g')
  (hch : ∀ b ∈ ch, (b ∈ X.ex\/X.s₀.heap.objs.size<=b)/\b ≠ X.env.locals/\(∀ x c, X.env.cells.lookup x = some c->c ≠ b)/\∀ p ∈ X.pn ++ pins, p.1 ≠ b) :
  Inv X pins σ H' { s with heap := h', gens := g', drawn := d', toks := t' } := by
 obtain ⟨m, ⟨o, es, ep, ho, r⟩, _⟩ := id I.loc
 obtain ⟨sl, hL⟩ := u.any ho I.free fun z => (hch _ z).2.1 rfl
 exact I.step (ch := ch) hch (fun b o hL hb hc e n => u.keep b o e n (fun z => (List.mem_cons.mp (I.stkSub b z)).elim hL hb) hc) (fun b o _ _ hc e n => u.any e n hc) (fun b o hc e n => u.free b o e n hc) (fun b o hc e => u.there b o e hc) u.tups u.frzs u.tbls (fun m' hm => by
  obtain ⟨o', es', ep', ho', r'⟩ := hm
  rw [ho] at ho'; cases ho'
  exact ⟨_, es', ep', hL, r'⟩) hok hg
theorem Inv.turned {t' : Nat} {it : Addr} (I : Inv X pins σ H s) (k : ∀ b o, b ≠ it->s.heap.get? b = some o->h'.get? b = some o) (hn : H it = none) (hL : it ≠ X.env.locals)
  (h1 : it ∈ X.ex\/X.s₀.heap.objs.size<=it) (h2 : ∀ x c, X.env.cells.lookup x = some c->c ≠ it) (h3 : ∀ p ∈ X.pn ++ pins, p.1 ≠ it) : Inv X pins σ H { s with heap := h', toks := t' } := by
 have nit : ∀ b u, H b = some u->b ≠ it := fun b u e z => by rw [z, hn] at e; cases e
 refine I.step (g' := s.gens) (d' := s.drawn) (ch := [it]) (fun b hb => ?_) (fun b o _ _ hc e _ => k b o (fun z => hc (by simp [z])) e) (fun b o _ _ hc e _ => ⟨o.slots, k b o (fun z => hc (by simp [z])) e⟩) (fun _ _ _ _ n => n)
  (fun b o hc e => ⟨o, k b o (fun z => hc (by simp [z])) e⟩) (fun _ _ e => e) (fun _ _ _ e => e) (fun b ps e => ⟨#[], by rw [e]; simp⟩) (fun m hm => ?_) (fun b u e => ?_) I.bare
 ·have e : b = it := by simpa using hb
  subst e
  exact ⟨h1, hL, h2, h3⟩
 ·obtain ⟨o, es, ep, ho, r⟩ := hm
  exact ⟨o, es, ep, k _ o (Ne.symm hL) ho, r⟩
 ·refine (I.hok b u e).stay (fun c v hc q => k c v ?_ q) (fun _ q => q) fun _ _ q => q
  rcases hc with z | z
  ·rw [z]; exact nit b u e
  ·exact nit c _ z
theorem Inv.tok (I : Inv X pins σ H s) (t : Nat) : Inv X pins σ H { s with toks := t } := I.un (h' := s.heap) (t' := t) Un.refl I.hok
theorem Inv.kept {t' : Nat} (I : Inv X pins σ H s) (k : ∀ b u, s.heap.get? b = some u->h'.get? b = some u) : Inv X pins σ H { s with heap := h', toks := t' } := I.un (Un.kept k) (I.hok.kept k)
theorem Inv.laid {a : Addr} {o : HO} {t' : Nat} (I : Inv X pins σ H s) (k : ∀ b u, s.heap.get? b = some u->h'.get? b = some u) (hp : s.heap.objs.size<=a) (new : QaT X.prog X.w (upd H a o) h' a o) :
  Inv X pins σ (upd H a o) { s with heap := h', toks := t' } := I.un (Un.laid k hp (I.hok.fresh hp)) (I.hok.laid k hp new)
theorem Inv.write {x e : Addr} {o : HO} {t' : Nat} (I : Inv X pins σ H s) (mu : Mut (H x)) (he : e = x\/H e = some (.own x)) (k : ∀ b u, b ≠ e->s.heap.get? b = some u->h'.get? b = some u) (heo : ∃ u, h'.get? e = some u)
  (new : QaT X.prog X.w (upd H x o) h' x o) : Inv X pins σ (upd H x o) { s with heap := h', toks := t' } := I.un (Un.write mu he k heo) (I.hok.write mu he k heo new)
theorem Inv.pins_of {pins' : List (Addr × Obj)} (I : Inv X pins σ H s) (h : ∀ p ∈ pins', s.heap.get? p.1 = some p.2/\H p.1 = none/\p.1 ≠ X.env.locals/\p.1 ∉ X.fs/\∀ v, p.2.data ≠ .cell v) : Inv X pins' σ H s :=
 ⟨I.ok, I.os, I.bare, I.base, I.loc, I.cell, I.free, I.freeC, fun p hp => (List.mem_append.mp hp).elim (fun z => I.pin p (List.mem_append_left _ z)) (h p), I.hok, I.len⟩
theorem QgO {N : List Str} (hN : N.Nodup) {i j : Nat} {x : Str} (a : N[i]? = some x) (b : N[j]? = some x) : i = j := by
 obtain ⟨h1, e1⟩ := List.getElem?_eq_some_iff.mp a
 obtain ⟨h2, e2⟩ := List.getElem?_eq_some_iff.mp b
 exact (List.getElem_inj hN).mp (e1.trans e2.symm)
theorem Qic {M : Model} {A : Around} {E : Value->Shared->Prop} {i : Nat} {x : Str} {v : V} {u : Value} {Q : Unit->Shared->Prop} (I : Inv X pins σ H s) (hN : X.N.Nodup) (hi : X.N[i]? = some x) (hx : Loc X.env.scope x) (r : RelV v u)
  (h : ∀ s', Inv X pins (σ.set i (some v)) H s'->(∃ a, Heap.SameBut a s.heap s'.heap/\(a = X.env.locals\/X.env.cells.lookup x = some a))->Q () s') (hf : X.fn x = true\/X.env.scope.names.lookup x = some .local := by first | exact .inl rfl | exact .inr rfl | assumption) : wpAny M A (storeName X.env x u) Q E s := by
 obtain ⟨m, hn, hl⟩ := id I.loc
 have hcls : (X.env.scope.kind == .class || (X.env.scope.kind == .module && X.env.locals != X.env.globals)) = false := by rw [I.ok.kind]; rfl
 have hiσ : i < σ.length := by rw [I.len]; exact (List.getElem?_eq_some_iff.mp hi).1
 have cne := I.cne
 have tracked : ∀ {a : Addr} {h' : Heap}, (∃ o, s.heap.get? a = some o/\H a = none)->Heap.SameBut a s.heap h'->HOk X.prog X.w H h' := fun {a h'} ha hs b ob e => by
  obtain ⟨_, _, hfree⟩ := ha
  refine (I.hok b ob e).stay (fun c w' hc q => (hs.2 c ?_).trans q) (fun _ q => q) fun _ _ q => q
  rintro rfl
  rcases hc with rfl | hc
  ·rw [hfree] at e; cases e
  ·rw [hfree] at hc; cases hc
 rcases hx with hk | hk
 ·refine wpAny_storeName_local hk hn (fun h' hn' hs => ?_) hcls
  obtain ⟨oL, _, _, hoL, _⟩ := id hn
  refine h _ ⟨I.ok, I.os, I.bare, ⟨fun b o e n hb hx => ?_, fun b o e n hb hx => ?_, I.base.free, fun b o e hx => ?_, I.base.tups, I.base.frzs, I.base.tbls⟩, ⟨_, hn', fun j y v' e1 e2 e3 => ?_⟩, fun y c e => ?_, I.free, I.freeC, fun p hp => ?_, tracked ⟨oL, hoL, I.free⟩ hs, by simpa using I.len⟩ ⟨_, hs, .inl rfl⟩
  ·exact (hs.2 b (QkF (QkC (Qkw e) I.ok.above))).trans (I.base.keep b o e n hb hx)
  ·obtain ⟨sl, e1⟩ := I.base.slot b o e n hb hx
   exact ⟨sl, (hs.2 b (QkF (QkC (Qkw e) I.ok.above))).trans e1⟩
  ·obtain ⟨o', e1⟩ := I.base.there b o e hx
   exact ⟨o', (hs.2 b (QkF (QkC (Qkw e) I.ok.above))).trans e1⟩
  ·by_cases hj : j = i
   ·subst hj
    rw [hi] at e1; cases e1
    rw [List.getElem?_set_self hiσ] at e2
    cases e2
    exact ⟨u, r, .inl ⟨hk, by simp⟩⟩
   ·rw [List.getElem?_set_ne (Ne.symm hj)] at e2
    obtain ⟨u', r', q⟩ := hl j y v' e1 e2 e3
    refine ⟨u', r', ?_⟩
    rcases q with ⟨k, e⟩ | ⟨k, c, e, z⟩
    ·refine .inl ⟨k, ?_⟩
     have : y ≠ x := fun e => hj (QgO hN e1 (e ▸ hi))
     simp [this, e]
    ·exact .inr ⟨k, c, e, z.sameBut hs (cne y c e)⟩
  ·obtain ⟨w', z⟩ := I.cell y c e
   exact ⟨w', z.sameBut hs (cne y c e)⟩
  ·obtain ⟨e, n, ne, nf, d⟩ := I.pin p hp
   exact ⟨(hs.2 p.1 ne).trans e, n, ne, nf, d⟩
 ·have hfn : X.fn x = true := by
   rcases hf with z | z
   ·exact z
   ·rw [z] at hk; cases hk
  obtain ⟨c, hc⟩ := I.ok.has x (.inl hk)
  obtain ⟨w', z⟩ := I.cell x c hc
  refine wpAny_storeName_cell I.ok.kind hk hc z (fun h' hc' hs => ?_)
  obtain ⟨oc, hoc, hocd⟩ := id z
  refine h { s with heap := h' } ⟨I.ok, I.os, I.bare, ⟨fun b o e n hb hx => ?_, fun b o e n hb hx => ?_, I.base.free, fun b o e hx => ?_, I.base.tups, I.base.frzs, I.base.tbls⟩, ⟨m, hn.sameBut hs (Ne.symm (cne x c hc)), fun j y v' e1 e2 e3 => ?_⟩, fun y c' e => ?_, I.free, I.freeC, fun p hp => ?_, tracked ⟨oc, hoc, I.freeC x c hc⟩ hs, by simpa using I.len⟩ ⟨c, hs, .inr hc⟩
  ·exact (hs.2 b (QkF (QkC (Qkw e) (I.ok.cab x c hfn hc)))).trans (I.base.keep b o e n hb hx)
  ·obtain ⟨sl, e1⟩ := I.base.slot b o e n hb hx
   exact ⟨sl, (hs.2 b (QkF (QkC (Qkw e) (I.ok.cab x c hfn hc)))).trans e1⟩
  ·obtain ⟨o', e1⟩ := I.base.there b o e hx
   exact ⟨o', (hs.2 b (QkF (QkC (Qkw e) (I.ok.cab x c hfn hc)))).trans e1⟩
  ·by_cases hj : j = i
   ·subst hj
    rw [hi] at e1; cases e1
    rw [List.getElem?_set_self hiσ] at e2
    cases e2
    exact ⟨u, r, .inr ⟨.inl hk, c, hc, hc'⟩⟩
   ·rw [List.getElem?_set_ne (Ne.symm hj)] at e2
    obtain ⟨u', r', q⟩ := hl j y v' e1 e2 e3
    refine ⟨u', r', ?_⟩
    rcases q with q | ⟨k, c', e, z'⟩
    ·exact .inl q
    ·refine .inr ⟨k, c', e, z'.sameBut hs ?_⟩
     rintro rfl
     exact hj (QgO hN e1 (I.ok.inj _ _ _ e hc ▸ hi))
  ·by_cases hcc : c' = c
   ·subst hcc; exact ⟨_, hc'⟩
   ·obtain ⟨w2, z2⟩ := I.cell y c' e
    exact ⟨w2, z2.sameBut hs hcc⟩
  ·obtain ⟨e, n, ne, nf, d⟩ := I.pin p hp
   refine ⟨(hs.2 p.1 ?_).trans e, n, ne, nf, d⟩
   intro q
   rw [q, hoc] at e
   have q' : oc = p.2 := Option.some.inj e
   exact d w' (by rw [<-q']; exact hocd)
theorem Qeb {M : Model} {A : Around} {E : Value->Shared->Prop} {i : Nat} {x : Str} {v : V} {u : Value} {Q : Unit->Shared->Prop} (I : Inv X pins σ H s) (hN : X.N.Nodup) (hi : X.N[i]? = some x) (hx : Loc X.env.scope x) (r : RelV v u)
  (h : ∀ s', Inv X pins (σ.set i (some v)) H s'->Q () s') (hf : X.fn x = true\/X.env.scope.names.lookup x = some .local := by first | exact .inl rfl | exact .inr rfl | assumption) : wpAny M A (storeName X.env x u) Q E s :=
 Qic I hN hi hx r (fun s' I' _ => h s' I') hf
theorem Inv.call' {s' : Shared} {ch : List Addr} (I : Inv X pins σ H s) (ho : s'.os = s.os) (u : Un (frs X.stack) ch H H' s.heap s'.heap) (hok : HOk X.prog X.w H' s'.heap) (hg : AllBare s'.gens)
  (hch : ∀ b ∈ ch, (b ∈ X.ex\/X.s₀.heap.objs.size<=b)/\b ≠ X.env.locals/\(∀ x c, X.env.cells.lookup x = some c->c ≠ b)/\∀ p ∈ X.pn ++ pins, p.1 ≠ b) : Inv X pins σ H' s' := by
 obtain ⟨h', g', d', t', o'⟩ := s'
 have e : o' = s.os := ho
 subst e
 exact I.call (g' := g') (t' := t') (d' := d') u hok hg hch
end
abbrev XK := Value->Option Addr->Hp->Prop
abbrev St := List (Option V)
abbrev VK := V->Hp->Prop
abbrev TE := St->Hp->VK->Prop
abbrev TT := St->Hp->(Bool->Hp->Prop)->Prop
abbrev TA := St->Hp->(List V->Hp->Prop)->Prop
structure Ends where
 nx : St->Hp->Prop
 rt : VK
 bk : St->Hp->Prop := fun _ _ => False
 ct : St->Hp->Prop := fun _ _ => False
abbrev TS := Ends->St->Hp->Prop
def EP (X : Cx) (pins : List (Addr × Obj)) (σ : St) (Q : VK) (u : Value) (s' : Shared) : Prop := ∃ v H', Inv X pins σ H' s'/\RelV v u/\Q v H'
def TP (X : Cx) (pins : List (Addr × Obj)) (σ : St) (Q : Bool->Hp->Prop) (b : Bool) (s' : Shared) : Prop := ∃ H', Inv X pins σ H' s'/\Q b H'
def AP (X : Cx) (pins : List (Addr × Obj)) (σ : St) (Q : List V->Hp->Prop) (us : List Value) (s' : Shared) : Prop := ∃ vs H', Inv X pins σ H' s'/\Vals vs us/\Q vs H'
def SP (X : Cx) (pins : List (Addr × Obj)) (D : Ends) (f : Flow) (s' : Shared) : Prop :=
 match f with
 | .next => ∃ σ' H', Inv X pins σ' H' s'/\D.nx σ' H'
 | .brk => ∃ σ' H', Inv X pins σ' H' s'/\D.bk σ' H'
 | .cont => ∃ σ' H', Inv X pins σ' H' s'/\D.ct σ' H'
 | .ret u => ∃ v σ' H', Inv X pins σ' H' s'/\RelV v u/\D.rt v H'
def PE (X : Cx) (e : Expr) (t : TE) : Prop :=
 ∀ (pins : List (Addr × Obj)) (s : Shared) (σ : St) (H : Hp) (Q : VK), Inv X pins σ H s->t σ H Q->wpAny (model X.prog X.w) X.A (eval e X.env) (EP X pins σ Q) X.xe s
def PT (X : Cx) (e : Expr) (t : TT) : Prop :=
 ∀ (pins : List (Addr × Obj)) (s : Shared) (σ : St) (H : Hp) (Q : Bool->Hp->Prop), Inv X pins σ H s->t σ H Q->wpAny (model X.prog X.w) X.A (isTrue e X.env (eval e X.env)) (TP X pins σ Q) X.xe s
def PW (X : Cx) (e : Expr) (t : TT) : Prop :=
 ∀ (whole : Sem Value) (pins : List (Addr × Obj)) (s : Shared) (σ : St) (H : Hp) (Q : Bool->Hp->Prop), Inv X pins σ H s->t σ H Q->wpAny (model X.prog X.w) X.A (isTrue e X.env whole) (TP X pins σ Q) X.xe s
theorem PW.pt {X : Cx} {e : Expr} {t : TT} (h : PW X e t) : PT X e t := h _
def PA (X : Cx) (es : List Expr) (t : TA) : Prop :=
 ∀ (pos : Pos) (pins : List (Addr × Obj)) (s : Shared) (σ : St) (H : Hp) (Q : List V->Hp->Prop), Inv X pins σ H s->t σ H Q->wpAny (model X.prog X.w) X.A (spliced (backTo pos (starEach es X.env))) (AP X pins σ Q) X.xe s
def PS (X : Cx) (st : Stmt) (t : TS) : Prop :=
 ∀ (pins : List (Addr × Obj)) (s : Shared) (σ : St) (H : Hp) (D : Ends), Inv X pins σ H s->t D σ H->wpAny (model X.prog X.w) X.A (exec st X.env) (SP X pins D) X.xe s
def PSs (X : Cx) (st : List Stmt) (t : TS) : Prop :=
 ∀ (pins : List (Addr × Obj)) (s : Shared) (σ : St) (H : Hp) (D : Ends), Inv X pins σ H s->t D σ H->wpAny (model X.prog X.w) X.A (execs st X.env) (SP X pins D) X.xe s
theorem thn {α : Type} {t : Sem α} {Q Q' : α->Shared->Prop} {M : Model} {A : Around} {E : Value->Shared->Prop} {s : Shared} (h : wpAny M A t Q E s) (hQ : ∀ a s, Q a s->Q' a s) : wpAny M A t Q' E s := wpAny_mono h hQ fun _ _ x => x
end L2
namespace L2
open PySem PySem.Spec PyProof.Rows
section
variable {X : Cx}
def tVar (i : Nat) : TE := fun σ H Q => ∃ v, σ[i]? = some (some v)/\Q v H
def tC (v : V) : TE := fun _ H Q => Q v H
theorem pe_var {i : Nat} {x : Str} {pos : Pos} (hN : X.N[i]? = some x) (hv : Vis X.env.scope x) (hd : (x == ("__debug__" : Str)) = false := by decide) (hcd : (x == ("__classdict__" : Str)) = false := by decide) : PE X (.Name x pos) (tVar i) := by
 intro pins s σ H Q I h
 obtain ⟨v, e, h⟩ := h
 obtain ⟨m, hn, hl⟩ := I.loc
 obtain ⟨u, r, l⟩ := hl i x v hN e hv
 have fin : EP X pins σ Q u s := ⟨v, H, I, r, h⟩
 rcases l with ⟨hk, hm⟩ | ⟨hk, c, hc, hcell⟩
 ·exact wpAny_Name (wpAny_loadName_local I.ok.kind hk hn hm fin) hd
 ·rcases hk with hk | hk
  ·exact wpAny_Name (wpAny_loadName_cell I.ok.kind hk hc hcell fin) hd
  ·exact wpAny_Name (wpAny_loadName_free I.ok.kind hk hc hcell fin hcd) hd
theorem pe_int {i j pos} : PE X (.Constant (.int i) j pos) (tC (.int i)) := fun _ _ _ H _ I h => wpAny_Constant_int ⟨.int i, H, I.tok _, ⟨_, rfl⟩, h⟩
theorem pe_bl {b j pos} : PE X (.Constant (.bool b) j pos) (tC (.bl b)) := fun _ _ _ H _ I h => Constant_bool ⟨.bl b, H, I, rfl, h⟩
theorem pe_non {j pos} : PE X (.Constant .none j pos) (tC .non) := fun _ _ _ H _ I h => Constant_none ⟨.non, H, I, rfl, h⟩
theorem pe_str {x j pos} : PE X (.Constant (.str x) j pos) (tC (.str x)) := fun _ _ _ H _ I h => Calls.Constant_str ⟨.str x, H, I.tok _, ⟨_, rfl⟩, h⟩
def Gl (X : Cx) (x : Str) : Prop := X.env.kindOf x = some .globalImplicit
theorem Qjf {E : Value->Shared->Prop} {pins : List (Addr × Obj)} {s : Shared} {σ : St} {H : Hp} {x : Str} {u : Value} {pos : Pos} {Q : Value->Shared->Prop} (I : Inv X pins σ H s) (hg : Gl X x) (hm : X.mg x = some u) (h : Q u s)
  (hd : (x == ("__debug__" : Str)) = false := by decide) : wpAny (model X.prog X.w) X.A (eval (.Name x pos) X.env) Q E s :=
 Calls.Name_function_global I.ok.kind hg (Calls.loadGlobal_global (by rw [I.ok.glob]; exact I.mod.glob.keeps I.bk) hm h) hd
theorem QdS {E : Value->Shared->Prop} {pins : List (Addr × Obj)} {s : Shared} {σ : St} {H : Hp} {x : Str} {u : Value} {pos : Pos} {Q : Value->Shared->Prop} (I : Inv X pins σ H s) (hg : Gl X x) (hm : X.mg x = none) (hv : bootBuiltins x = some u) (h : Q u s)
  (hn : x ≠ "__name__" := by decide) (hd : (x == ("__debug__" : Str)) = false := by decide) : wpAny (model X.prog X.w) X.A (eval (.Name x pos) X.env) Q E s := by
 obtain ⟨mb, h1, h2⟩ := I.mod.blt
 exact Calls.Name_function_global I.ok.kind hg (Calls.loadGlobal_builtin (by rw [I.ok.glob]; exact I.mod.glob.keeps I.bk) hm (by rw [I.ok.blt]; exact h1.keeps I.bk) ((h2 x hn).trans hv) h) hd
theorem QfO {x : Str} {v : V} {u : Value} {pos : Pos} (hg : Gl X x) (hm : X.mg x = some u) (r : RelV v u) (hd : (x == ("__debug__" : Str)) = false := by decide) : PE X (.Name x pos) (tC v) :=
 fun _ _ _ H _ I h => Qjf I hg hm ⟨v, H, I, r, h⟩ hd
theorem pe_bltn {x : Str} {v : V} {u : Value} {pos : Pos} (hg : Gl X x) (hm : X.mg x = none) (hv : bootBuiltins x = some u) (r : RelV v u) (hn : x ≠ "__name__" := by decide) (hd : (x == ("__debug__" : Str)) = false := by decide) : PE X (.Name x pos) (tC v) :=
 fun _ _ _ H _ I h => QdS I hg hm hv ⟨v, H, I, r, h⟩ hn hd
variable {a b : Expr} {ta tb : TE} {pos : Pos}
def tB (t : TE) : TT := fun σ H Q => t σ H fun x H1 => ∃ c, x = .bl c/\Q c H1
theorem pt_val {e : Expr} {t : TE} (h : PE X e t) (he : ∀ whole, isTrue e X.env whole = (do let v <-whole; standAt e.pos; holding [v] (truthy v)) := by intro _; rfl) : PT X e (tB t) := by
 intro pins s σ H Q I hw
 refine isTrue_plain (thn (h pins s σ H _ I hw) fun v s1 ⟨x, H1, I1, r1, q1⟩ => ?_) (he _)
 obtain ⟨d, rfl, q⟩ := q1
 cases r1
 exact wpAny_truthy_bool ⟨H1, I1, q⟩
variable {tA tB' : TT} {rest : List Expr}
def tAnd (t u : TT) : TT := fun σ H Q => t σ H fun c H1 => if c = true then u σ H1 Q else Q false H1
def tOr (t u : TT) : TT := fun σ H Q => t σ H fun c H1 => if c = true then Q true H1 else u σ H1 Q
def tNot (t : TT) : TT := fun σ H Q => t σ H fun c H1 => Q (!c) H1
theorem pw_and1 (ha : PT X a tA) : PW X (.BoolOp .And [a] pos) tA := by
 intro wh pins s σ H Q I h
 refine isTrue_and (thn (ha pins s σ H Q I h) fun c s1 e => ?_)
 cases c with
 | true => exact isTrue_and_nil e
 | false => exact e
theorem pw_or1 (ha : PT X a tA) : PW X (.BoolOp .Or [a] pos) tA := by
 intro wh pins s σ H Q I h
 refine isTrue_or (thn (ha pins s σ H Q I h) fun c s1 e => ?_)
 cases c with
 | false => exact isTrue_or_nil e
 | true => exact e
theorem pw_and (ha : PT X a tA) (hb : PW X (.BoolOp .And (b :: rest) pos) tB') : PW X (.BoolOp .And (a :: b :: rest) pos) (tAnd tA tB') := by
 intro wh pins s σ H Q I h
 refine isTrue_and (thn (ha pins s σ H _ I h) fun c s1 ⟨H1, I1, q1⟩ => ?_)
 cases c with
 | true => exact hb wh pins s1 σ H1 Q I1 q1
 | false => exact ⟨H1, I1, q1⟩
theorem pw_or (ha : PT X a tA) (hb : PW X (.BoolOp .Or (b :: rest) pos) tB') : PW X (.BoolOp .Or (a :: b :: rest) pos) (tOr tA tB') := by
 intro wh pins s σ H Q I h
 refine isTrue_or (thn (ha pins s σ H _ I h) fun c s1 ⟨H1, I1, q1⟩ => ?_)
 cases c with
 | true => exact ⟨H1, I1, q1⟩
 | false => exact hb wh pins s1 σ H1 Q I1 q1
theorem pt_not (ha : PT X a tA) : PT X (.UnaryOp .Not a pos) (tNot tA) := by
 intro pins s σ H Q I h
 exact isTrue_not (ha pins s σ H (fun c H1 => Q (!c) H1) I h)
def tAndV (ta tb : TE) : TE := fun σ H Q => ta σ H fun x H1 => ∃ c, x = .bl c/\if c = true then tb σ H1 Q else Q (.bl false) H1
def tOrV (ta tb : TE) : TE := fun σ H Q => ta σ H fun x H1 => ∃ c, x = .bl c/\if c = true then Q (.bl true) H1 else tb σ H1 Q
def tNotV (ta : TE) : TE := fun σ H Q => ta σ H fun x H1 => ∃ c, x = .bl c/\Q (.bl (!c)) H1
theorem pe_one {op} {t : TE} (h : PE X a t) : PE X (.BoolOp op [a] pos) t := fun pins s σ H Q I hw => BoolOp_one (h pins s σ H Q I hw)
theorem pe_and (ha : PE X a ta) (hb : PE X (.BoolOp .And (b :: rest) pos) tb) : PE X (.BoolOp .And (a :: b :: rest) pos) (tAndV ta tb) := by
 intro pins s σ H Q I h
 refine BoolOp_and (thn (ha pins s σ H _ I h) fun v s1 ⟨x, H1, I1, r1, q1⟩ => ?_)
 obtain ⟨c, rfl, q1⟩ := q1
 cases r1
 refine wpAny_truthy_bool ?_
 cases c with
 | true => exact hb pins s1 σ H1 Q I1 q1
 | false => exact ⟨.bl false, H1, I1, rfl, q1⟩
theorem pe_or (ha : PE X a ta) (hb : PE X (.BoolOp .Or (b :: rest) pos) tb) : PE X (.BoolOp .Or (a :: b :: rest) pos) (tOrV ta tb) := by
 intro pins s σ H Q I h
 refine BoolOp_or (thn (ha pins s σ H _ I h) fun v s1 ⟨x, H1, I1, r1, q1⟩ => ?_)
 obtain ⟨c, rfl, q1⟩ := q1
 cases r1
 refine wpAny_truthy_bool ?_
 cases c with
 | false => exact hb pins s1 σ H1 Q I1 q1
 | true => exact ⟨.bl true, H1, I1, rfl, q1⟩
theorem pe_not (ha : PE X a ta) : PE X (.UnaryOp .Not a pos) (tNotV ta) := by
 intro pins s σ H Q I h
 refine UnaryOp_ (thn (ha pins s σ H _ I h) fun v s1 ⟨x, H1, I1, r1, q1⟩ => ?_)
 obtain ⟨c, rfl, q1⟩ := q1
 cases r1
 exact not_of (wpAny_truthy_bool ⟨.bl (!c), H1, I1, rfl, q1⟩)
def tIf (t : TT) (ta tb : TE) : TE := fun σ H Q => t σ H fun c H1 => if c = true then ta σ H1 Q else tb σ H1 Q
theorem pe_ifExp {c : Expr} (hc : PT X c tA) (ha : PE X a ta) (hb : PE X b tb) : PE X (.IfExp c a b pos) (tIf tA ta tb) := by
 intro pins s σ H Q I h
 refine wpAny_IfExp (thn (hc pins s σ H _ I h) fun d s1 ⟨H1, I1, q1⟩ => ?_)
 cases d with
 | true => exact ha pins s1 σ H1 Q I1 q1
 | false => exact hb pins s1 σ H1 Q I1 q1
end
end L2
namespace L2
open PySem PySem.Spec PyProof.Rows
def SqL (K : PySem.W.Frag) (H : Hp) (a : Addr) (xs : List V) : Prop :=
 Rd H a (.lst xs) ∨
  ∃ (o : Obj) (its : Array Value) (n : Nat), K.lookup a = some o/\o.cls = .type "list"/\o.dict = none/\o.data = .seq its n/\its.size<=sizeLine/\Vals xs its.toList
def SqT (K : PySem.W.Frag) (H : Hp) (a : Addr) (xs : List V) : Prop :=
 Rd H a (.tup xs) ∨
  ∃ (o : Obj) (its : Array Value) (n : Nat), K.lookup a = some o/\o.cls = .type "tuple"/\o.data = .seq its n/\its.size<=sizeLine/\Vals xs its.toList
def absV : Value->Option V
 | .none => some .non
 | .bool b => some (.bl b)
 | .int i _ => some (.int i)
 | .str x _ => some (.str x)
 | .bytes b _ => some (.byt b)
 | .float b _ => some (.flt b)
 | .ref a => some (.ref a)
 | .type n => some (.ty n)
 | _ => none
theorem RelV.abs {x : V} {u : Value} (r : RelV x u) : absV u = some x := by
 cases x with
 | non => cases r; rfl
 | bl _ => cases r; rfl
 | int _ => obtain ⟨t, rfl⟩ := r; rfl
 | str _ => obtain ⟨t, rfl⟩ := r; rfl
 | byt _ => obtain ⟨t, rfl⟩ := r; rfl
 | flt _ => obtain ⟨t, rfl⟩ := r; rfl
 | ref _ => cases r; rfl
 | ty _ => cases r; rfl
theorem RelV.inj {x y : V} {u : Value} (r : RelV x u) (q : RelV y u) : x = y := Option.some.inj (r.abs.symm.trans q.abs)
theorem Vals.inj : ∀ {xs ys : List V} {us : List Value}, Vals xs us->Vals ys us->xs = ys
 | _, _, _, .nil, .nil => rfl
 | _, _, _, .cons r t, .cons r' t' => by rw [r.inj r', Vals.inj t t']
section
variable {X : Cx} {pins : List (Addr × Obj)} {σ : St} {H : Hp} {s : Shared} {a : Addr} {xs ys : List V}
theorem SqL.of {K : PySem.W.Frag} (h : H a = some (.lst xs)) : SqL K H a xs := .inl (.inl h)
theorem Inv.list (I : Inv X pins σ H s) (h : SqL X.K H a xs) : ∃ its : List Value, Vals xs its/\PlainL s.heap a its.toArray/\xs.length<=sizeLine := by
 rcases h with h | ⟨o, its, n, hk, hc, hd, hs, hz, r⟩
 ·obtain ⟨z, its, n, r, e⟩ := h.ok I.hok
  exact ⟨its, r, ⟨_, n, e, rfl, rfl, rfl⟩, z⟩
 ·refine ⟨its.toList, r, ⟨o, n, I.kIn a o hk, hc, hd, by simpa using hs⟩, ?_⟩
  have e := r.length
  simp only [Array.length_toList] at e
  omega
theorem Inv.tuple (I : Inv X pins σ H s) (h : SqT X.K H a xs) : ∃ its : List Value, Vals xs its/\IsTup s.heap a its.toArray/\xs.length<=sizeLine := by
 rcases h with h | ⟨o, its, n, hk, hc, hs, hz, r⟩
 ·obtain ⟨z, its, r, p⟩ := h.ok I.hok
  exact ⟨its, r, p, z⟩
 ·refine ⟨its.toList, r, ⟨o, I.kIn a o hk, hc, n, by simpa using hs⟩, ?_⟩
  have e := r.length
  simp only [Array.length_toList] at e
  omega
theorem Inv.list_inj (I : Inv X pins σ H s) (h : SqL X.K H a xs) (h' : SqL X.K H a ys) : xs = ys := by
 obtain ⟨its, r, ⟨o, n, e, _, _, d⟩, _⟩ := I.list h
 obtain ⟨its', r', ⟨o', n', e', _, _, d'⟩, _⟩ := I.list h'
 rw [e] at e'; cases e'
 rw [d] at d'
 injection d' with d1 _
 have : its = its' := by simpa using congrArg Array.toList d1
 subst this
 exact r.inj r'
theorem Inv.tuple_inj (I : Inv X pins σ H s) (h : SqT X.K H a xs) (h' : SqT X.K H a ys) : xs = ys := by
 obtain ⟨its, r, ⟨o, e, _, n, d⟩, _⟩ := I.tuple h
 obtain ⟨its', r', ⟨o', e', _, n', d'⟩, _⟩ := I.tuple h'
 rw [e] at e'; cases e'
 rw [d] at d'
 injection d' with d1 _
 have : its = its' := by simpa using congrArg Array.toList d1
 subst this
 exact r.inj r'
end
abbrev Cx.wish (X : Cx) (E : Value->Shared->Prop) : Cx := { X with xe := E }
abbrev Cx.nox (X : Cx) : Cx := X.wish fun _ _ => False
theorem Cx.Ok.wish {X : Cx} (ok : X.Ok) (E : Value->Shared->Prop) : (X.wish E).Ok :=
 ⟨ok.mod, ok.kind, ok.glob, ok.blt, ok.above, ok.inj, ok.has, ok.cab, ok.hd, ok.frames, ok.stk, ok.exf, ok.bs, ok.bsz, ok.noex, ok.exfs, ok.funs, ok.frf⟩
theorem Cx.Ok.unwish {X : Cx} {E : Value->Shared->Prop} (ok : (X.wish E).Ok) : X.Ok :=
 ⟨ok.mod, ok.kind, ok.glob, ok.blt, ok.above, ok.inj, ok.has, ok.cab, ok.hd, ok.frames, ok.stk, ok.exf, ok.bs, ok.bsz, ok.noex, ok.exfs, ok.funs, ok.frf⟩
section
variable {X : Cx} {pins : List (Addr × Obj)} {σ : St} {H : Hp} {s : Shared} {E : Value->Shared->Prop}
theorem Inv.wish (I : Inv X pins σ H s) (E : Value->Shared->Prop) : Inv (X.wish E) pins σ H s := ⟨I.ok.wish E, I.os, I.bare, I.base, I.loc, I.cell, I.free, I.freeC, I.pin, I.hok, I.len⟩
theorem Inv.unwish (I : Inv (X.wish E) pins σ H s) : Inv X pins σ H s := ⟨I.ok.unwish, I.os, I.bare, I.base, I.loc, I.cell, I.free, I.freeC, I.pin, I.hok, I.len⟩
theorem SP.unwish {D : Ends} {f : Flow} {s' : Shared} (h : SP (X.wish E) pins D f s') : SP X pins D f s' := by
 cases f with
 | next => obtain ⟨σ', H', I, q⟩ := h; exact ⟨σ', H', I.unwish, q⟩
 | brk => obtain ⟨σ', H', I, q⟩ := h; exact ⟨σ', H', I.unwish, q⟩
 | cont => obtain ⟨σ', H', I, q⟩ := h; exact ⟨σ', H', I.unwish, q⟩
 | ret u => obtain ⟨v, σ', H', I, r, q⟩ := h; exact ⟨v, σ', H', I.unwish, r, q⟩
theorem PSs.nox {st : List Stmt} {t : TS} (h : PSs X.nox st t) : PSs X st t := fun pins s σ H D I hw =>
 wpAny_mono (h pins s σ H D (I.wish _) hw) (fun _ _ q => q.unwish) fun _ _ z => False.elim z
end
section
variable {X : Cx} {st : Stmt} {rest : List Stmt} {t u : TS} {e : Expr} {te : TE} {pos : Pos}
def tNext : TS := fun D σ H => D.nx σ H
def tSeq (t u : TS) : TS := fun D σ H => t { D with nx := u D } σ H
theorem pss_nil : PSs X [] tNext := fun _ _ σ H _ I h => wpAny_execs_nil ⟨σ, H, I, h⟩
theorem pss_cons (h1 : PS X st t) (h2 : PSs X rest u) : PSs X (st :: rest) (tSeq t u) := by
 intro pins s σ H D I h
 refine wpAny_execs_cons (thn (h1 pins s σ H { D with nx := u D } I h) fun f s1 q => ?_)
 cases f with
 | next =>
  obtain ⟨σ', H', I', q⟩ := q
  exact h2 pins s1 σ' H' D I' q
 | ret v => exact q
 | brk => exact q
 | cont => exact q
def tBreak : TS := fun D σ H => D.bk σ H
def tCont : TS := fun D σ H => D.ct σ H
theorem ps_pass : PS X (.Pass pos) tNext := fun _ _ σ H _ I h => wpAny_Pass ⟨σ, H, I, h⟩
theorem ps_break : PS X (.Break pos) tBreak := fun _ _ σ H _ I h => wpAny_Break ⟨σ, H, I, h⟩
theorem QfM : PS X (.Continue pos) tCont := fun _ _ σ H _ I h => wpAny_Continue ⟨σ, H, I, h⟩
theorem Inv.quiet {pins : List (Addr × Obj)} {σ : St} {H : Hp} {s : Shared} (I : Inv X pins σ H s) : interactive X.env = false := by simp [interactive, I.ok.kind]
def tDrop (te : TE) : TS := fun D σ H => te σ H fun _ H1 => D.nx σ H1
theorem ps_expr (he : PE X e te) (hs : swapsWith e none pos.line X.env = pure false := by rfl) : PS X (.Expr e pos) (tDrop te) := by
 intro pins s σ H D I h
 exact wpAny_Expr_any (thn (he pins s σ H _ I h) fun v s1 ⟨x, H1, I1, r1, q1⟩ => ⟨σ, H1, I1, q1⟩) I.quiet hs
def tRet (te : TE) : TS := fun D σ H => te σ H D.rt
theorem ps_ret (he : PE X e te) : PS X (.Return (some e) pos) (tRet te) := by
 intro pins s σ H D I h
 exact wpAny_Return_some (thn (he pins s σ H _ I h) fun v s1 ⟨x, H1, I1, r1, q1⟩ => ⟨x, σ, H1, I1, r1, q1⟩)
def tRetN : TS := fun D _ H => D.rt .non H
theorem ps_retN : PS X (.Return none pos) tRetN := fun _ _ σ H _ I h => wpAny_Return_none ⟨.non, σ, H, I, rfl, h⟩
def tIfS (c : TT) (t u : TS) : TS := fun D σ H => c σ H fun b H1 => if b = true then t D σ H1 else u D σ H1
theorem ps_if {c : Expr} {a b : List Stmt} {tc : TT} (hc : PT X c tc) (ha : PSs X a t) (hb : PSs X b u) : PS X (.If c a b pos) (tIfS tc t u) := by
 intro pins s σ H D I h
 refine wpAny_If (thn (hc pins s σ H _ I h) fun d s1 ⟨H1, I1, q1⟩ => ?_)
 cases d with
 | true => exact ha pins s1 σ H1 D I1 q1
 | false => exact hb pins s1 σ H1 D I1 q1
end
abbrev TG := V->St->Hp->(St->Hp->Prop)->Prop
def PG (X : Cx) (target : Expr) (t : TG) : Prop :=
 ∀ (pins : List (Addr × Obj)) (s : Shared) (σ : St) (H : Hp) (v : V) (u : Value) (Q : St->Hp->Prop), Inv X pins σ H s->RelV v u->t v σ H Q ->
  wpAny (model X.prog X.w) X.A (assign target X.env u) (fun _ s' => ∃ σ' H', Inv X pins σ' H' s'/\Q σ' H') X.xe s
abbrev TSet := V->V->V->Hp->(Hp->Prop)->Prop
def PSet (X : Cx) (t : TSet) : Prop :=
 ∀ (pins : List (Addr × Obj)) (s : Shared) (σ : St) (H : Hp) (o i v : V) (ov iv u : Value) (Q : Hp->Prop), Inv X pins σ H s->RelV o ov->RelV i iv->RelV v u->t o i v H Q ->
  wpAny (model X.prog X.w) X.A (setItem ov iv u) (fun _ s' => ∃ H', Inv X pins σ H' s'/\Q H') X.xe s
section
variable {X : Cx} {pos : Pos}
def QdH (i : Nat) : TG := fun v σ H Q => Q (σ.set i (some v)) H
theorem QiF {i : Nat} {x : Str} (hN : X.N.Nodup) (hi : X.N[i]? = some x) (hx : Loc X.env.scope x) (hf : X.fn x = true\/X.env.scope.names.lookup x = some .local := by first | exact .inl rfl | exact .inr rfl | assumption) : PG X (.Name x pos) (QdH i) := by
 intro pins s σ H v u Q I r h
 exact wpAny_assign_Name (Qeb I hN hi hx r (fun s' I' => ⟨_, H, I', h⟩) hf)
def gSub (to ti : TE) (t : TSet) : TG := fun v σ H Q => to σ H fun o H1 => ti σ H1 fun i H2 => t o i v H2 fun H3 => Q σ H3
theorem pg_sub {o i : Expr} {to ti : TE} {t : TSet} (ho : PE X o to) (hi : PE X i ti) (hs : PSet X t)
  (ha : ∀ v, assign (.Subscript o i pos) X.env v = (do
   let ov <-holding [v] (eval o X.env)
   let iv <-holding [v, ov] (eval i X.env)
   standAt pos
   holding [v, ov, iv] (setItem ov iv v)
   release [v, ov, iv] []) := by intro _; rfl) : PG X (.Subscript o i pos) (gSub to ti t) := by
 intro pins s σ H v u Q I r h
 rw [ha]
 refine wpAny_bind (wpAny_holding (thn (ho pins s σ H _ I h) fun ov s1 ⟨x, H1, I1, r1, q1⟩ => ?_))
 refine wpAny_bind (wpAny_holding (thn (hi pins s1 σ H1 _ I1 q1) fun iv s2 ⟨y, H2, I2, r2, q2⟩ => ?_))
 refine wpAny_bind (wpAny_standAt (wpAny_bind (wpAny_holding (thn (hs pins s2 σ H2 x y v ov iv u _ I2 r1 r2 r q2) fun _ s3 ⟨H3, I3, q3⟩ => ?_))))
 exact wpAny_release ⟨σ, H3, I3, q3⟩
def tAsg (te : TE) (g : TG) : TS := fun D σ H => te σ H fun x H1 => g x σ H1 D.nx
theorem ps_asg {tg e : Expr} {te : TE} {g : TG} (he : PE X e te) (hg : PG X tg g) (hs : swapsWithSole [tg] e pos.line X.env = pure false := by rfl) (hw : swappedStores [tg] e X.env = pure none := by rfl)
  (h1 : (assignEach [tg] X.env).map (·.2) = [assign tg X.env] := by rfl) : PS X (.Assign [tg] e pos) (tAsg te g) := by
 intro pins s σ H D I h
 refine wpAny_Assign_stores (thn (he pins s σ H _ I h) fun v s1 ⟨x, H1, I1, r1, q1⟩ => ?_) hs hw
 rw [h1]
 exact thn (hg pins s1 σ H1 x v _ I1 r1 q1) fun _ s2 q => q
theorem ps_set {i : Nat} {x : Str} {e : Expr} {te : TE} {pos' : Pos} (hN : X.N.Nodup) (hi : X.N[i]? = some x) (hx : Loc X.env.scope x) (he : PE X e te) (hs : swapsWith e (some (.Name x pos')) pos.line X.env = pure false := by rfl) (hf : X.fn x = true\/X.env.scope.names.lookup x = some .local := by first | exact .inl rfl | exact .inr rfl | assumption) :
  PS X (.Assign [.Name x pos'] e pos) (tAsg te (QdH i)) := by
 intro pins s σ H D I h
 refine wpAny_Assign_Name (thn (he pins s σ H _ I h) fun v s1 ⟨y, H1, I1, r1, q1⟩ => ?_) hs
 exact Qeb I1 hN hi hx r1 (fun s2 I2 => ⟨_, H1, I2, q1⟩) hf
end
section
variable {X : Cx} {pos : Pos}
end
structure It where
 go : Nat->Hp->Prop
 yld : Nat->Hp->V->Hp->Prop
 stop : Nat->Hp->Prop
def FpOk (X : Cx) (pins : List (Addr × Obj)) (H : Hp) (b : Addr) : Prop :=
 H b = none/\b ≠ X.env.locals/\b ∉ X.fs/\(b ∈ X.ex\/X.s₀.heap.objs.size<=b)/\(∀ x c, X.env.cells.lookup x = some c->c ≠ b)/\∀ p ∈ X.pn ++ pins, p.1 ≠ b
theorem Inv.fpOk {X : Cx} {pins : List (Addr × Obj)} {σ : St} {H H' : Hp} {s : Shared} {b : Addr} (I : Inv X pins σ H s) (hb : s.heap.objs.size<=b) (hn : H' b = none) : FpOk X pins H' b := by
 refine ⟨hn, Nat.ne_of_gt (QkC I.lt hb), I.nofs hb, .inr (QkI I.sz hb), fun x c e z => ?_, fun p hp z => ?_⟩
 ·obtain ⟨v, q⟩ := I.cell x c e
  exact absurd (QkC q.lt (by rw [z]; exact hb)) (QkL _)
 ·exact absurd (QkC (Qkw (I.pin p hp).1) (by rw [z]; exact hb)) (QkL _)
structure Turn (P : Program) (w : World) (K : PySem.W.Frag) (tg : Expr) (J : It) (fp : List Addr) (it : Addr) (tn : Nat->Heap->Prop) : Prop where
 mem : it ∈ fp
 obj : ∀ i h, tn i h->∀ b ∈ fp, ∃ o, h.get? b = some o/\∀ v, o.data ≠ .cell v
 keep : ∀ i h h', tn i h->(∀ b ∈ fp, ∀ o, h.get? b = some o->h'.get? b = some o)->tn i h'
 item : ∀ (X : Cx), X.prog = P->X.w = w->X.K = K->X.calm = true->∀ (i : Nat) (pins : List (Addr × Obj)) (s : Shared) (σ : St) (H : Hp) (E : Value->Shared->Prop), Inv X pins σ H s->(∀ b ∈ fp, FpOk X pins H b)->tn i s.heap->J.go i H ->
  wpAny (model P w) X.A (pyNext (.ref it)) (fun r s1 => ∃ u, r = some u /\
   wpAny (model P w) X.A (letOwnedTupleGo tg (.ref it) u) (fun _ s2 => ∃ x H', Inv X pins σ H' s2/\RelV x u/\J.yld i H x H'/\tn (i + 1) s2.heap/\∀ b ∈ fp, H' b = none) E s1) E s
 done : ∀ (X : Cx), X.prog = P->X.w = w->X.K = K->X.calm = true->∀ (i : Nat) (pins : List (Addr × Obj)) (s : Shared) (σ : St) (H : Hp) (E : Value->Shared->Prop), Inv X pins σ H s->(∀ b ∈ fp, FpOk X pins H b)->tn i s.heap->J.stop i H ->
  wpAny (model P w) X.A (pyNext (.ref it)) (fun r s1 => r = none/\Inv X pins σ H s1) E s
 self : ∀ (A : Around) (i : Nat) (s : Shared) (Q : Value->Shared->Prop) (E : Value->Shared->Prop), tn i s.heap->Q (.ref it) s->wpAny (model P w) A (pyIter (.ref it)) Q E s
abbrev TI := St->Hp->(It->Hp->Prop)->Prop
def PIE (X : Cx) (pins : List (Addr × Obj)) (σ : St) (tg : Expr) (R : It->Hp->Prop) (itv : Value) (s2 : Shared) : Prop :=
 ∃ (it : Addr) (fp : List Addr) (tn : Nat->Heap->Prop) (J : It) (H' : Hp), itv = .ref it/\Inv X pins σ H' s2/\Turn X.prog X.w X.K tg J fp it tn/\tn 0 s2.heap/\(∀ b ∈ fp, FpOk X pins H' b)/\R J H'
def PI (X : Cx) (tg iter : Expr) (wi : TI) : Prop :=
 ∀ (pins : List (Addr × Obj)) (s : Shared) (σ : St) (H : Hp) (R : It->Hp->Prop), Inv X pins σ H s->wi σ H R ->
  wpAny (model X.prog X.w) X.A (eval iter X.env) (fun v s1 => wpAny (model X.prog X.w) X.A (pyIter v) (PIE X pins σ tg R) X.xe s1) X.xe s
theorem go_of {M : Model} {A : Around} {E : Value->Shared->Prop} {s : Shared} {tg : Expr} {it : Addr} {u : Value} {o : Obj} {n : String} {vs : Array Value} {Q : Unit->Shared->Prop} (ho : s.heap.get? it = some o) (hc : o.cls = .type n) (hd : o.data = .fields vs)
    (hn : ["enumerate", "zip", "dict_itemiterator", "dict_reverseitemiterator", "odict_iterator", "itertools.zip_longest", "itertools.pairwise"].contains n = false) (hQ : Q () s) : wpAny M A (letOwnedTupleGo tg (.ref it) u) Q E s := by
  unfold letOwnedTupleGo
  cases tg <;> first
    | exact wpAny_pure hQ
    | (cases u <;> first
        | exact wpAny_pure hQ
        | (refine wpAny_bind (wpAny_load ho ?_)
           rw [hc, hd]
           show wpAny M A (if (["enumerate", "zip", "dict_itemiterator", "dict_reverseitemiterator", "odict_iterator", "itertools.zip_longest", "itertools.pairwise"].contains n && vs[0]? == some (rawInt _)) = true then _ else _) Q E s
           rw [if_neg (by intro h; rw [hn, Bool.false_and] at h; cases h)]
           exact wpAny_pure hQ))
def Itl (K : PySem.W.Frag) (a : Addr) : It :=
 ⟨fun i H => ∃ xs x, SqL K H a xs/\xs[i]? = some x, fun i H x H' => H' = H/\∀ xs, SqL K H a xs->xs[i]? = some x, fun i H => ∃ xs, SqL K H a xs/\xs.length<=i⟩
def Itt (K : PySem.W.Frag) (a : Addr) : It :=
 ⟨fun i H => ∃ xs x, SqT K H a xs/\xs[i]? = some x, fun i H x H' => H' = H/\∀ xs, SqT K H a xs->xs[i]? = some x, fun i H => ∃ xs, SqT K H a xs/\xs.length<=i⟩
def Itr (lo : Int) (n : Nat) : It := ⟨fun i _ => i < n, fun i H x H' => H' = H/\x = .int (lo + i), fun i _ => n<=i⟩
theorem QhZ {P : Program} {w : World} {K : PySem.W.Frag} {tg : Expr} (a it : Addr) : Turn P w K tg (Itl K a) [it] it (fun i h => h.IsListIter it a i) where
 mem := by simp
 obj := fun i h st b hb => by
  have e : b = it := by simpa using hb
  subst e
  obtain ⟨o, e, c, d⟩ := st
  exact ⟨o, e, fun v z => by rw [d] at z; cases z⟩
 keep := fun i h h' st k => st.at fun o e => k it (by simp) o e
 item := by
  intro X hP hw hK hc i pins s σ H E I hf st hg
  subst hP hw hK
  obtain ⟨xs, x, hq, hx⟩ := hg
  obtain ⟨its, rv, p, hz⟩ := I.list hq
  obtain ⟨u, hu, ru⟩ := rv.get hx
  obtain ⟨f0, f1, f2, f3, f4, f5⟩ := hf it (by simp)
  refine wpAny_pyNext_list_item st p.isList (x := u) (by simpa using hu) fun h' st' sb => ?_
  have I1 : Inv X pins σ H { s with heap := h' } := I.turned (t' := s.toks) (fun b o hb e => (sb.2 b hb).trans e) f0 f1 f3 f4 f5
  obtain ⟨o, e, c, d⟩ := id st'
  exact ⟨u, rfl, go_of (s := { s with heap := h' }) e c d (by decide) ⟨x, H, I1, ru, ⟨rfl, fun ys hy => by rw [I.list_inj hy hq]; exact hx⟩, st', fun b hb => (hf b hb).1⟩⟩
 done := by
  intro X hP hw hK hc i pins s σ H E I hf st hg
  subst hP hw hK
  obtain ⟨xs, hq, hx⟩ := hg
  obtain ⟨its, rv, p, hz⟩ := I.list hq
  obtain ⟨f0, f1, f2, f3, f4, f5⟩ := hf it (by simp)
  have hl := rv.length
  exact wpAny_pyNext_list_end (I.ok.hd hc) st p.isList (by simp; omega) fun h' eb => ⟨rfl, I.turned (t' := s.toks) (fun b o hb e => eb b o hb e) f0 f1 f3 f4 f5⟩
 self := fun _ _ _ _ _ st h => wpAny_pyIter_listiter st h
theorem Qho {P : Program} {w : World} {K : PySem.W.Frag} {tg : Expr} (a it : Addr) : Turn P w K tg (Itt K a) [it] it (fun i h => h.IsTupleIter it a i) where
 mem := by simp
 obj := fun i h st b hb => by
  have e : b = it := by simpa using hb
  subst e
  obtain ⟨o, e, c, d⟩ := st
  exact ⟨o, e, fun v z => by rw [d] at z; cases z⟩
 keep := fun i h h' st k => st.at fun o e => k it (by simp) o e
 item := by
  intro X hP hw hK hc i pins s σ H E I hf st hg
  subst hP hw hK
  obtain ⟨xs, x, hq, hx⟩ := hg
  obtain ⟨its, rv, p, hz⟩ := I.tuple hq
  obtain ⟨u, hu, ru⟩ := rv.get hx
  obtain ⟨f0, f1, f2, f3, f4, f5⟩ := hf it (by simp)
  refine wpAny_pyNext_tuple_item st (show s.heap.IsTuple a its.toArray from p) (x := u) (by simpa using hu) fun h' st' sb => ?_
  have I1 : Inv X pins σ H { s with heap := h' } := I.turned (t' := s.toks) (fun b o hb e => (sb.2 b hb).trans e) f0 f1 f3 f4 f5
  obtain ⟨o, e, c, d⟩ := id st'
  exact ⟨u, rfl, go_of (s := { s with heap := h' }) e c d (by decide) ⟨x, H, I1, ru, ⟨rfl, fun ys hy => by rw [I.tuple_inj hy hq]; exact hx⟩, st', fun b hb => (hf b hb).1⟩⟩
 done := by
  intro X hP hw hK hc i pins s σ H E I hf st hg
  subst hP hw hK
  obtain ⟨xs, hq, hx⟩ := hg
  obtain ⟨its, rv, p, hz⟩ := I.tuple hq
  obtain ⟨f0, f1, f2, f3, f4, f5⟩ := hf it (by simp)
  have hl := rv.length
  exact wpAny_pyNext_tuple_end (I.ok.hd hc) st (show s.heap.IsTuple a its.toArray from p) (by simp; omega) fun h' eb => ⟨rfl, I.turned (t' := s.toks) (fun b o hb e => eb b o hb e) f0 f1 f3 f4 f5⟩
 self := fun _ _ _ _ _ st h => wpAny_pyIter_tupleiter st h
theorem Qhp {P : Program} {w : World} {K : PySem.W.Frag} {tg : Expr} (it : Addr) (lo : Int) (n : Nat) : Turn P w K tg (Itr lo n) [it] it (fun i h => IsRangeIter h it (lo + (i : Nat) * 1) ((n : Int) - (i : Nat)) 1) where
 mem := by simp
 obj := fun i h st b hb => by
  have e : b = it := by simpa using hb
  subst e
  exact ⟨_, st, fun v z => by
   have z' : Data.fields _ = Data.cell v := z
   cases z'⟩
 keep := fun i h h' st k => k it (by simp) _ st
 item := by
  intro X hP hw hK hc i pins s σ H E I hf st hg
  subst hP hw hK
  obtain ⟨f0, f1, f2, f3, f4, f5⟩ := hf it (by simp)
  have W := Walks.range (prog := X.prog) (w := X.w) (I.ok.hd hc) it lo 1 n
  refine W.item i s _ _ hg st fun v h' tk hv st' kk => ?_
  obtain ⟨t, rfl⟩ := hv
  have I1 : Inv X pins σ H { s with heap := h', toks := tk } := I.turned (fun b o hb e => kk b o (by simpa using hb) e) f0 f1 f3 f4 f5
  refine ⟨_, rfl, go_of (s := { s with heap := h', toks := tk }) (n := "range_iterator") st' rfl rfl (by decide) ⟨.int (lo + i), H, I1, ⟨t, ?_⟩, ⟨rfl, rfl⟩, st', fun b hb => (hf b hb).1⟩⟩
  rw [Int.mul_one]
 done := by
  intro X hP hw hK hc i pins s σ H E I hf st hg
  subst hP hw hK
  obtain ⟨f0, f1, f2, f3, f4, f5⟩ := hf it (by simp)
  exact wpAny_pyNext_range_end (I.ok.hd hc) st (by have : n<=i := hg; omega) fun h' eb => ⟨rfl, I.turned (t' := s.toks) (fun b o hb e => eb b o hb e) f0 f1 f3 f4 f5⟩
 self := fun _ _ _ _ _ st h => wpAny_pyIter_rangeiter st h
end L2
namespace L2
open PySem PySem.Spec PyProof.Rows
section
variable {X : Cx} {tg : Expr}
theorem range_it {pins : List (Addr × Obj)} {σ : St} {H : Hp} {s : Shared} {R : It->Hp->Prop} {E : Value->Shared->Prop} {lo hi : Int} {t u v : Tok} {tk : Nat} (I : Inv X pins σ H s) (h1 : -(2 ^ 62)<=lo) (h2 : lo < 2 ^ 62) (h3 : -(2 ^ 62)<=hi) (h4 : hi < 2 ^ 62)
  (q : R (Itr lo (hi - lo).toNat) H) : wpAny (model X.prog X.w) X.A (pyIter (.ref s.heap.objs.size)) (PIE X pins σ tg R) E { s with heap := s.heap.push { cls := .type "range", data := .fields #[.int lo t, .int hi u, .int 1 v] }, toks := tk } := by
 refine wpAny_pyIter_range (IsRange.new ..) (small_one h1 h2 h3 h4) ?_
 have I1 : Inv X pins σ H { s with heap := s.heap.push { cls := .type "range", data := .fields #[.int lo t, .int hi u, .int 1 v] }, toks := tk } := I.kept fun b o e => Qkt _ e
 refine ⟨(s.heap.push { cls := .type "range", data := .fields #[.int lo t, .int hi u, .int 1 v] }).objs.size, [(s.heap.push { cls := .type "range", data := .fields #[.int lo t, .int hi u, .int 1 v] }).objs.size], _, _, H, rfl,
  I1.kept (t' := tk) fun b o e => Qkt _ e, Qhp _ lo (hi - lo).toNat, ?_, fun b hb => ?_, q⟩
 ·have e1 : lo + ((0 : Nat) : Int) * 1 = lo := by simp
  have e2 : (((hi - lo).toNat : Nat) : Int) - ((0 : Nat) : Int) = Builtin.Range.rangeSize lo hi 1 := by rw [rangeSize_one]; split <;> omega
  show IsRangeIter _ _ (lo + ((0 : Nat) : Int) * 1) ((((hi - lo).toNat : Nat) : Int) - ((0 : Nat) : Int)) 1
  rw [e1, e2]
  exact QkE _ rfl
 ·have e : b = (s.heap.push { cls := .type "range", data := .fields #[.int lo t, .int hi u, .int 1 v] }).objs.size := by simpa using hb
  subst e
  exact I1.fpOk (Qky _) (I1.hok.fresh (Qky _))
def iRng1 (ta : TA) : TI := fun σ H R => ta σ H fun vs H1 => ∃ j : Int, vs = [.int j]/\-(2 ^ 62)<=j/\j < 2 ^ 62/\R (Itr 0 j.toNat) H1
theorem QiE {a : Expr} {ta : TA} {p pos : Pos} (hg : Gl X "range") (hm : X.mg "range" = none) (ha : PA X [a] ta) (hs : starEach [a] X.env = [(false, eval a X.env)] := by rfl) : PI X tg (.Call (.Name "range" p) [a] [] pos) (iRng1 ta) := by
 intro pins s σ H R I h
 refine Call_ (QdS I hg hm boot_range (PyProof.Rows.callWith_type1 (thn (ha pos pins s σ H _ I h) fun us s1 ⟨vs, H1, I1, r1, q1⟩ => ?_) hs rfl))
 obtain ⟨j, e, q1, q2, q⟩ := q1
 subst e
 cases r1 with
 | cons r rr =>
  cases rr
  obtain ⟨t, rfl⟩ := r
  exact call_range_1 (range_it I1 (by omega) (by omega) q1 q2 (by simpa using q))
def tFor (wi : TI) (g : TG) (tb : TS) : TS := fun D σ H => wi σ H fun J H1 => ∃ W : Nat->Nat->St->Hp->Prop, (∃ m, W 0 m σ H1)/\∀ i m σ H, W i m σ H ->
 (J.stop i H/\D.nx σ H)\/(J.go i H/\∃ N : St->Hp->Prop, (∀ σ' H', N σ' H'->∃ m', m' < m/\W (i + 1) m' σ' H')/\∀ x H', J.yld i H x H'->g x σ H' fun σ2 H2 => tb { D with nx := N, ct := N, bk := D.nx } σ2 H2)
def QeU (fp : List Addr) (h : Heap) : List (Addr × Obj) := fp.filterMap fun b => (h.get? b).map fun o => (b, o)
theorem QbK {fp : List Addr} {h : Heap} {b : Addr} {o : Obj} (hb : b ∈ fp) (e : h.get? b = some o) : (b, o) ∈ QeU fp h := List.mem_filterMap.mpr ⟨b, hb, by rw [e]; rfl⟩
theorem QiQ {fp : List Addr} {h : Heap} {p : Addr × Obj} (hp : p ∈ QeU fp h) : p.1 ∈ fp/\h.get? p.1 = some p.2 := by
 obtain ⟨b, hb, e⟩ := List.mem_filterMap.mp hp
 cases q : h.get? b with
 | none => rw [q] at e; cases e
 | some o =>
  rw [q] at e
  have e' : (b, o) = p := Option.some.inj e
  subst e'
  exact ⟨hb, q⟩
theorem Inv.pinned {pins : List (Addr × Obj)} {σ : St} {H : Hp} {s : Shared} {fp : List Addr} (I : Inv X pins σ H s) (hf : ∀ b ∈ fp, FpOk X pins H b) (ho : ∀ b ∈ fp, ∃ o, s.heap.get? b = some o/\∀ v, o.data ≠ .cell v) : Inv X (pins ++ QeU fp s.heap) σ H s :=
 I.pins_of fun p hp => (List.mem_append.mp hp).elim (fun z => I.pin p (Qku _ z)) fun z => by
  obtain ⟨hb, e⟩ := QiQ z
  obtain ⟨f0, f1, f2, _⟩ := hf p.1 hb
  obtain ⟨o, e', d⟩ := ho p.1 hb
  rw [e] at e'; cases e'
  exact ⟨e, f0, f1, f2, d⟩
theorem Inv.unpinned {pins pl : List (Addr × Obj)} {σ : St} {H : Hp} {s : Shared} (I : Inv X (pins ++ pl) σ H s) : Inv X pins σ H s := I.pins_of fun p hp => I.pin p (Qku _ (List.mem_append_left _ hp))
theorem ps_for {iter : Expr} {body : List Stmt} {wi : TI} {g : TG} {tb : TS} {pos : Pos} (hp : PassesOwn (model X.prog X.w) X.A X.env X.xe) (hc : X.calm = true) (hi : PI X tg iter wi) (hg : PG X tg g) (hb : PSs X body tb)
  (hs : ∀ x, foldedSetIterable iter X.env x = pure x := by intro _; rfl) : PS X (.For tg iter body [] pos) (tFor wi g tb) := by
 intro pins s σ H D I h
 refine wpAny_For (thn (hi pins s σ H _ I h) fun v s1 h1 => thn h1 fun itv s2 h2 => ?_) hs
 obtain ⟨it, fp, tn, J, H2, e, I2, T, st2, f2, W, ⟨m0, w0⟩, turn⟩ := h2
 subst e
 have stat : ∀ {H' : Hp}, (∀ b ∈ fp, H' b = none)->∀ b ∈ fp, FpOk X pins H' b := fun hn b hb => ⟨hn b hb, (f2 b hb).2⟩
 refine codeAny_forLoop_any (fun n s' => ∃ i σ' H', Inv X pins σ' H' s'/\tn i s'.heap/\(∀ b ∈ fp, H' b = none)/\W i n σ' H') ?_ m0 ⟨0, σ, H2, I2, st2, fun b hb => (f2 b hb).1, w0⟩
 rintro n s3 ⟨i, σ3, H3, I3, st3, fr3, w3⟩
 rcases turn i n σ3 H3 w3 with ⟨stop, qn⟩ | ⟨go, N, hN, step⟩
 ·refine wpAny_passesOwn hp (thn (T.done X rfl rfl rfl hc i pins s3 σ3 H3 X.xe I3 (stat fr3) st3 stop) fun r s4 ⟨hr, I4⟩ => ?_)
  subst hr
  exact wpAny_execs_nil ⟨σ3, H3, I4, qn⟩
 ·refine wpAny_passesOwn hp (thn (T.item X rfl rfl rfl hc i pins s3 σ3 H3 X.xe I3 (stat fr3) st3 go) fun r s4 ⟨u, hr, h4⟩ => ?_)
  subst hr
  refine wpAny_passesOwn hp (thn h4 fun _ s5 ⟨x, H5, I5, r5, y5, st5, fr5⟩ => ?_)
  have I5' := I5.pinned (stat fr5) (T.obj _ _ st5)
  refine wpAny_passesOwn hp (thn (hg _ s5 σ3 H5 x u _ I5' r5 (step x H5 y5)) fun _ s6 ⟨σ6, H6, I6, q6⟩ => ?_)
  refine wpAny_passesOwn hp (thn (hb _ s6 σ6 H6 _ I6 q6) fun f s7 q7 => ?_)
  have again : ∀ {σ7 : St} {H7 : Hp}, Inv X (pins ++ QeU fp s5.heap) σ7 H7 s7->N σ7 H7->∃ m, m < n/\∃ i σ' H', Inv X pins σ' H' s7/\tn i s7.heap/\(∀ b ∈ fp, H' b = none)/\W i m σ' H' := fun {σ7 H7} I7 n7 => by
   obtain ⟨m', hm, w7⟩ := hN σ7 H7 n7
   refine ⟨m', hm, i + 1, σ7, H7, I7.unpinned, T.keep _ _ _ st5 fun b hb o e => (I7.pin (b, o) (Qku _ (Qku _ (QbK hb e)))).1, fun b hb => ?_, w7⟩
   obtain ⟨o, e, d⟩ := T.obj _ _ st5 b hb
   exact (I7.pin (b, o) (Qku _ (Qku _ (QbK hb e)))).2.1
  cases f with
  | next => obtain ⟨σ7, H7, I7, n7⟩ := q7; exact again I7 n7
  | cont => obtain ⟨σ7, H7, I7, n7⟩ := q7; exact again I7 n7
  | brk => obtain ⟨σ7, H7, I7, q7⟩ := q7; exact ⟨σ7, H7, I7.unpinned, q7⟩
  | ret v => obtain ⟨x7, σ7, H7, I7, r7, q7⟩ := q7; exact ⟨x7, σ7, H7, I7.unpinned, r7, q7⟩
end
end L2
namespace L2
open PySem PySem.Spec PyProof.Rows
abbrev R2 := V->V->Hp->VK->Prop
def OpR (X : Cx) (f : Value->Value->Sem Value) (r : R2) : Prop :=
 ∀ (pins : List (Addr × Obj)) (s : Shared) (σ : St) (H : Hp) (x y : V) (v u : Value) (Q : VK), Inv X pins σ H s->RelV x v->RelV y u->r x y H Q ->
  wpAny (model X.prog X.w) X.A (f v u) (EP X pins σ Q) X.xe s
def UnR (X : Cx) (f : Value->Sem Value) (r : V->Hp->VK->Prop) : Prop :=
 ∀ (pins : List (Addr × Obj)) (s : Shared) (σ : St) (H : Hp) (x : V) (v : Value) (Q : VK), Inv X pins σ H s->RelV x v->r x H Q ->
  wpAny (model X.prog X.w) X.A (f v) (EP X pins σ Q) X.xe s
def Qgv (X : Cx) (f : Value) (r : List V->Hp->VK->Prop) : Prop :=
 ∀ (pins : List (Addr × Obj)) (s : Shared) (σ : St) (H : Hp) (xs : List V) (us : List Value) (Q : VK), Inv X pins σ H s->Vals xs us->r xs H Q ->
  wpAny (model X.prog X.w) X.A (call f us) (EP X pins σ Q) X.xe s
def tOp (r : R2) (ta tb : TE) : TE := fun σ H Q => ta σ H fun x H1 => tb σ H1 fun y H2 => r x y H2 Q
def tUn (r : V->Hp->VK->Prop) (ta : TE) : TE := fun σ H Q => ta σ H fun x H1 => r x H1 Q
def rI (C : Int->Int->Prop) (g : Int->Int->V) : R2 := fun x y H Q => ∃ i j, x = .int i/\y = .int j/\C i j/\Q (g i j) H
def rI0 (g : Int->Int->V) : R2 := fun x y H Q => ∃ i j, x = .int i/\y = .int j/\Q (g i j) H
def rU (g : Int->V) : V->Hp->VK->Prop := fun x H Q => ∃ i, x = .int i/\Q (g i) H
section
variable {X : Cx} {a b c : Expr} {ta tb tc : TE} {pos : Pos}
theorem binT (ha : PE X a ta) (hb : PE X b tb) {pins : List (Addr × Obj)} {s : Shared} {σ : St} {H : Hp} {R : V->V->Hp->Prop} (I : Inv X pins σ H s)
  (h : ta σ H fun x H1 => tb σ H1 fun y H2 => R x y H2) {Q : Value->Shared->Prop} {f : Value->Value->Sem Value}
  (hf : ∀ v u s2 x y H2, Inv X pins σ H2 s2->RelV x v->RelV y u->R x y H2->wpAny (model X.prog X.w) X.A (f v u) Q X.xe s2) :
  wpAny (model X.prog X.w) X.A (eval a X.env) (fun v s₁ => wpAny (model X.prog X.w) X.A (eval b X.env) (fun u s₂ => wpAny (model X.prog X.w) X.A (f v u) Q X.xe s₂) X.xe s₁) X.xe s := by
 refine thn (ha pins s σ H _ I h) fun v s1 ⟨x, H1, I1, r1, q1⟩ => ?_
 refine thn (hb pins s1 σ H1 _ I1 q1) fun u s2 ⟨y, H2, I2, r2, q2⟩ => ?_
 exact hf v u s2 x y H2 I2 r1 r2 q2
theorem pe_op {op : Operator} {r : R2} (ho : OpR X (binaryOp op) r) (ha : PE X a ta) (hb : PE X b tb) : PE X (.BinOp a op b pos) (tOp r ta tb) := by
 intro pins s σ H Q I h
 exact wpAny_BinOp (binT ha hb I h fun v u s2 x y H2 I2 rx ry q => ho pins s2 σ H2 x y v u Q I2 rx ry q)
theorem pe_un {op : UnaryOp} {r : V->Hp->VK->Prop} (ho : UnR X (unaryOp op) r) (ha : PE X a ta) : PE X (.UnaryOp op a pos) (tUn r ta) := by
 intro pins s σ H Q I h
 exact UnaryOp_ (thn (ha pins s σ H _ I h) fun v s1 ⟨x, H1, I1, r1, q1⟩ => ho pins s1 σ H1 x v Q I1 r1 q1)
theorem opI {f : Value->Value->Sem Value} {C : Int->Int->Prop} {g : Int->Int->Int}
  (rule : ∀ (i j : Int) (t u : Tok) (s : Shared) (Q : Value->Shared->Prop) (E : Value->Shared->Prop), C i j->Q (.int (g i j) s.toks) { s with toks := s.toks + 1 }->wpAny (model X.prog X.w) X.A (f (.int i t) (.int j u)) Q E s) :
  OpR X f (rI C fun i j => .int (g i j)) := by
 intro pins s σ H x y v u Q I rx ry h
 obtain ⟨i, j, rfl, rfl, hc, q⟩ := h
 obtain ⟨t, rfl⟩ := rx
 obtain ⟨t', rfl⟩ := ry
 exact rule i j t t' s _ _ hc ⟨.int (g i j), H, I.tok _, ⟨_, rfl⟩, q⟩
theorem opI0 {f : Value->Value->Sem Value} {g : Int->Int->Int}
  (rule : ∀ (i j : Int) (t u : Tok) (s : Shared) (Q : Value->Shared->Prop) (E : Value->Shared->Prop), Q (.int (g i j) s.toks) { s with toks := s.toks + 1 }->wpAny (model X.prog X.w) X.A (f (.int i t) (.int j u)) Q E s) :
  OpR X f (rI0 fun i j => .int (g i j)) := by
 intro pins s σ H x y v u Q I rx ry h
 obtain ⟨i, j, rfl, rfl, q⟩ := h
 obtain ⟨t, rfl⟩ := rx
 obtain ⟨t', rfl⟩ := ry
 exact rule i j t t' s _ _ ⟨.int (g i j), H, I.tok _, ⟨_, rfl⟩, q⟩
theorem opB0 {f : Value->Value->Sem Value} {g : Int->Int->Bool}
  (rule : ∀ (i j : Int) (t u : Tok) (s : Shared) (Q : Value->Shared->Prop) (E : Value->Shared->Prop), Q (.bool (g i j)) s->wpAny (model X.prog X.w) X.A (f (.int i t) (.int j u)) Q E s) :
  OpR X f (rI0 fun i j => .bl (g i j)) := by
 intro pins s σ H x y v u Q I rx ry h
 obtain ⟨i, j, rfl, rfl, q⟩ := h
 obtain ⟨t, rfl⟩ := rx
 obtain ⟨t', rfl⟩ := ry
 exact rule i j t t' s _ _ ⟨.bl (g i j), H, I, rfl, q⟩
def CDiv (i j : Int) : Prop := 0 < j/\j < 1073741824
def CMul (i j : Int) : Prop := (-(2 ^ 64) < i/\i < 2 ^ 64)\/(-(2 ^ 64) < j/\j < 2 ^ 64)
theorem CMul.ok {i j : Int} (h : CMul i j) : IntMulOk i j := by
 rcases h with ⟨h1, h2⟩ | ⟨h1, h2⟩
 ·exact .of_left (intBits_le_64 h1 h2)
 ·exact .of_right (intBits_le_64 h1 h2)
theorem op_add : OpR X (binaryOp .Add) (rI0 fun i j => .int (i + j)) := opI0 fun _ _ _ _ _ _ _ q => add_int q
theorem op_sub : OpR X (binaryOp .Sub) (rI0 fun i j => .int (i - j)) := opI0 fun _ _ _ _ _ _ _ q => sub_int q
theorem op_mul : OpR X (binaryOp .Mult) (rI CMul fun i j => .int (i * j)) := opI fun _ _ _ _ _ _ _ hc q => mul_int q hc.ok
theorem op_fdiv : OpR X (binaryOp .FloorDiv) (rI CDiv fun i j => .int (i / j)) := opI fun i j _ _ _ _ _ hc q => by
 have h1 : (0 : Int) < j := hc.1
 have h2 : j < 1073741824 := hc.2
 exact floordiv_int (by omega) (by rw [Int.fdiv_eq_ediv_of_nonneg i (by omega)]; exact q) (.inl (PyProof.noPylong_small (by omega)))
theorem op_mod : OpR X (binaryOp .Mod) (rI (fun _ j => 0 < j) fun i j => .int (i % j)) := opI fun i j _ _ _ _ _ hc q => by
 have h1 : (0 : Int) < j := hc
 exact mod_int' (by omega) (by rw [Int.fmod_eq_emod_of_nonneg i (by omega)]; exact q)
theorem unI {f : Value->Sem Value} {g : Int->Int}
  (rule : ∀ (i : Int) (t : Tok) (s : Shared) (Q : Value->Shared->Prop) (E : Value->Shared->Prop), Q (.int (g i) s.toks) { s with toks := s.toks + 1 }->wpAny (model X.prog X.w) X.A (f (.int i t)) Q E s) :
  UnR X f (rU fun i => .int (g i)) := by
 intro pins s σ H x v Q I rx h
 obtain ⟨i, rfl, q⟩ := h
 obtain ⟨t, rfl⟩ := rx
 exact rule i t s _ _ ⟨.int (g i), H, I.tok _, ⟨_, rfl⟩, q⟩
theorem un_neg : UnR X (unaryOp .USub) (rU fun i => .int (-i)) := unI fun _ _ _ _ _ q => neg_int q
end
section
variable {X : Cx} {a b c : Expr} {ta tb tc : TE} {pos : Pos}
theorem fin_bl {pins : List (Addr × Obj)} {σ : St} {H : Hp} {s : Shared} {Q : VK} {k k' : Bool} (I : Inv X pins σ H s) (q : Q (.bl k) H) (e : k = k') : EP X pins σ Q (.bool k') s := by
 subst e
 exact ⟨.bl k, H, I, rfl, q⟩
theorem op_lt : OpR X (compareOp .Lt) (rI0 fun i j => .bl (decide (i < j))) := opB0 fun _ _ _ _ _ _ _ q => lt_int q
theorem op_le : OpR X (compareOp .LtE) (rI0 fun i j => .bl (decide (i<=j))) := opB0 fun _ _ _ _ _ _ _ q => le_int q
theorem op_gt : OpR X (compareOp .Gt) (rI0 fun i j => .bl (decide (j < i))) := opB0 fun _ _ _ _ _ _ _ q => gt_int q
theorem QiO : OpR X (compareOp .Lt) (fun x y H Q => ∃ i j, x = .str i/\y = .str j/\Q (.bl (decide (i.cps.toList < j.cps.toList))) H) := by
 intro pins s σ H x y v u Q I rx ry h
 obtain ⟨i, j, rfl, rfl, q⟩ := h
 obtain ⟨t, rfl⟩ := rx
 obtain ⟨t', rfl⟩ := ry
 exact lt_str (fin_bl I q rfl)
theorem QiP : OpR X (compareOp .In) (fun x y H Q => ∃ i j, x = .str i/\y = .str j/\Q (.bl (!(Builtin.Str.occurrences j i 0 j.length 1).isEmpty)) H) := by
 intro pins s σ H x y v u Q I rx ry h
 obtain ⟨i, j, rfl, rfl, q⟩ := h
 obtain ⟨t, rfl⟩ := rx
 obtain ⟨t', rfl⟩ := ry
 exact in_str (fin_bl I q rfl)
theorem QiG {op : CmpOp} {r : R2} (ho : OpR X (compareOp op) r) (ha : PE X a ta) (hb : PE X b tb) (hm : behindInMarks op b = false) : PE X (.Compare a [op] [b] pos) (tOp r ta tb) := by
 intro pins s σ H Q I h
 exact wpAny_Compare1 (binT ha hb I h fun v u s2 x y H2 I2 rx ry q => ho pins s2 σ H2 x y v u Q I2 rx ry q) hm
def tTest (t : TE) : TT := fun σ H Q => t σ H fun x H' => ∃ k, x = .bl k/\Q k H'
theorem Qiy {op : CmpOp} {r : R2} (ho : OpR X (compareOp op) r) (ha : PE X a ta) (hb : PE X b tb) (hm : behindInMarks op b = false) : PT X (.Compare a [op] [b] pos) (tTest (tOp r ta tb)) := by
 intro pins s σ H Q I h
 refine wpAny_isTrue_Compare1 (thn (ha pins s σ H _ I h) fun v s1 ⟨x, H1, I1, r1, q1⟩ => thn (hb pins s1 σ H1 _ I1 q1) fun u s2 ⟨y, H2, I2, r2, q2⟩ =>
  thn (ho pins s2 σ H2 x y v u _ I2 r1 r2 q2) fun c s3 ⟨z, H3, I3, r3, k, e, q3⟩ => ?_) hm
 subst e
 cases r3
 exact wpAny_truthy_bool ⟨H3, I3, q3⟩
theorem QdQ : (sizeLine : Nat) < 2 ^ 63 := by rw [sizeLine_eq]; decide
theorem QhG : OpR X (binaryOp .Add) (fun x y H Q => ∃ i j, x = .str i/\y = .str j/\i.length + j.length<=sizeLine/\Q (.str (i ++ j)) H) := by
 intro pins s σ H x y v u Q I rx ry h
 obtain ⟨i, j, rfl, rfl, hz, q⟩ := h
 obtain ⟨t, rfl⟩ := rx
 obtain ⟨t', rfl⟩ := ry
 exact add_str (fun t' tk => ⟨.str (i ++ j), H, I.tok _, ⟨_, rfl⟩, q⟩) hz
theorem vals1 {x : V} {us : List Value} (r : Vals [x] us) : ∃ u, us = [u]/\RelV x u := by
 cases r with
 | cons r1 r2 => cases r2; exact ⟨_, rfl, r1⟩
end
end L2
namespace L2
open PySem PySem.Spec PyProof.Rows
section
variable {prog : Program} {w : World} {A : Around} {E : Value->Shared->Prop} {s : Shared} {K : PySem.W.Frag} {x dx C f : Addr} {mA : Str->Option Value} {name : Str} {v : Value}
end
theorem RelO.some_of {v : V} {o : Option Value} (r : RelO (some v) o) : ∃ u, o = some u/\RelV v u := by
 cases o with
 | none => exact (show False from r).elim
 | some u => exact ⟨u, rfl, r⟩
section
variable {P : Program} {w : World} {H H' : Hp} {h h' : Heap} {a C dx : Addr} {fs fs' : List (Str × V)}
end
section
variable {X : Cx} {pins : List (Addr × Obj)} {σ : St} {H : Hp} {s : Shared} {a C dx : Addr} {fs : List (Str × V)} {f : Str} {v : V} {A : Around} {E : Value->Shared->Prop}
end
section
variable {X : Cx} {o e value : Expr} {f : Str} {pos pos' tpos : Pos} {ta tv : TE}
end
section
variable {X : Cx} {pins : List (Addr × Obj)} {σ : St} {H : Hp} {s : Shared} {A : Around} {E : Value->Shared->Prop} {Q : Value->Shared->Prop} {c : Value} {b : Bool}
end
end L2
namespace L2
open PySem PySem.Spec PyProof.Rows
structure Room (k : Nat) (A : Around) : Prop where
 hd : A.handled = none
 dp : A.depth + 3 * k + 5 < recursionLimit
 un : A.units + 16 * k + 200 < cLine
theorem Room.mono {j k : Nat} {A : Around} (r : Room k A) (h : j<=k) : Room j A := ⟨r.hd, by have := r.dp; omega, by have := r.un; omega⟩
theorem Room.deeper {k : Nat} {A : Around} (r : Room (k + 1) A) (env : Env) : Room k (A.deeper env) :=
 ⟨r.hd, by have := r.dp; show A.depth + 1 + 3 * k + 5 < _; omega, by have := r.un; show A.units + 3 + 16 * k + 200 < _; omega⟩
theorem Room.depth {k : Nat} {A : Around} (r : Room k A) : A.depth < recursionLimit := by have := r.dp; omega
def tNil : TA := fun _ H Q => Q [] H
def tCons (ta : TE) (tr : TA) : TA := fun σ H Q => ta σ H fun x H1 => tr σ H1 fun xs H2 => Q (x :: xs) H2
section
variable {X : Cx} {e : Expr} {es : List Expr} {te : TE} {t : TA} {pos : Pos}
theorem pa_nil : PA X [] tNil := fun _ _ _ _ H Q I h => Calls.spliced_nil ⟨[], H, I, .nil, h⟩
theorem pa_cons (ha : PE X e te) (hr : PA X es t) (hs : starEach (e :: es) X.env = (false, eval e X.env) :: starEach es X.env := by rfl) : PA X (e :: es) (tCons te t) := by
 intro pos pins s σ H Q I h
 rw [hs]
 show wpAny _ _ (spliced ((false, eval e X.env) :: backTo pos (starEach es X.env))) _ _ s
 refine Calls.spliced_cons (thn (ha pins s σ H _ I h) fun u s1 ⟨x, H1, I1, r1, q1⟩ => ?_)
 exact thn (hr pos pins s1 σ H1 _ I1 q1) fun us s2 ⟨xs, H2, I2, r2, q2⟩ => ⟨x :: xs, H2, I2, .cons r1 r2, q2⟩
def tTup (t : TA) : TE := fun σ H Q => t σ H fun xs H1 => xs.length<=sizeLine/\∀ p, H1 p = none->Q (.ref p) (upd H1 p (.tup xs))
def tLst (t : TA) : TE := fun σ H Q => t σ H fun xs H1 => xs.length<=sizeLine/\∀ p, H1 p = none->Q (.ref p) (upd H1 p (.lst xs))
theorem pe_tup {x1} (h : PA X es t) : PE X (.Tuple es x1 pos) (tTup t) := by
 intro pins s σ H Q I hq
 refine wpAny_Tuple_spliced (thn (h pos pins s σ H _ I hq) fun us s1 ⟨xs, H1, I1, r, z, q⟩ => ⟨by rw [<-r.length]; exact z, ?_⟩)
 have hf : H1 s1.heap.objs.size = none := I1.hok.fresh (Qky _)
 refine ⟨.ref s1.heap.objs.size, upd H1 s1.heap.objs.size (.tup xs), I1.laid (t' := s1.toks) (fun b u e => Qkt _ e) (Qky _) ?_, rfl, q _ hf⟩
 exact ⟨z, us, r, ⟨_, QkE _ rfl, rfl, _, rfl⟩⟩
theorem pe_lst (h : PA X es t) : PE X (.List es pos) (tLst t) := by
 intro pins s σ H Q I hq
 refine wpAny_List_spliced (thn (h pos pins s σ H _ I hq) fun us s1 ⟨xs, H1, I1, r, z, q⟩ => ⟨by rw [<-r.length]; exact z, ?_⟩)
 have hf : H1 s1.heap.objs.size = none := I1.hok.fresh (Qky _)
 refine ⟨.ref s1.heap.objs.size, upd H1 s1.heap.objs.size (.lst xs), I1.laid (t' := s1.toks) (fun b u e => Qkt _ e) (Qky _) ?_, rfl, q _ hf⟩
 exact ⟨z, us, 0, r, QkE _ rfl⟩
end
abbrev Sp := List V->Hp->VK->XK->Prop
abbrev CXT := List Env->Hp->Shared->XK->Value->Shared->Prop
structure Env0 (P : Program) (w : World) (K : PySem.W.Frag) (mg : Str->Option Value) (base : Heap) (A : Around) (outer : List Env) (s : Shared) (H : Hp) : Prop where
 frames : A.frames = some outer
 mod : Mod K mg base
 bs : ∀ b o, base.get? b = some o->s.heap.get? b = some o/\H b = none
 bsz : base.objs.size<=s.heap.objs.size
 funs : s.heap.FunFrames base outer
 frf : ∀ b ∈ frs outer, H b = none
 hok : HOk P w H s.heap
 bare : AllBare s.gens
def CE (outer : List Env) (P : Program) (w : World) (H : Hp) (s : Shared) (Q : VK) (u : Value) (s' : Shared) : Prop :=
 ∃ v H', s'.os = s.os/\AllBare s'.gens/\Un (frs outer) [] H H' s.heap s'.heap/\HOk P w H' s'.heap/\RelV v u/\Q v H'
def CR (CX : CXT) (outer : List Env) (P : Program) (w : World) (H : Hp) (s : Shared) (Q : VK) (E : XK) (r : Result) (s' : Shared) : Prop :=
 match r with
 | .ok (.ret u) => CE outer P w H s Q u s'
 | .ok _ => False
 | .error e => CX outer H s E e s'
structure FnOk (P : Program) (w : World) (K : PySem.W.Frag) (mg : Str->Option Value) (base : Heap) (CX : CXT) (k : Nat) (f : Addr) (fd : FuncData) (ps : List Str) (sp : Sp) : Prop where
 len : ∀ vs H Q E, sp vs H Q E->vs.length = ps.length
 run : ∀ (A : Around) (outer : List Env) (s : Shared) (H : Hp) (args : Args) (us : List Value) (vs : List V) (Q : VK) (E : XK), Room k A->Env0 P w K mg base A outer s H->BindsTo s fd args (ps.zip us)->Vals vs us->sp vs H Q E ->
  codeAny (model P w) A (.call (.ref f) args) (CR CX outer P w H s Q E) s
theorem FnOk.mono {P : Program} {w : World} {K : PySem.W.Frag} {mg : Str->Option Value} {base : Heap} {CX : CXT} {j k : Nat} {f : Addr} {fd : FuncData} {ps : List Str} {sp : Sp} (F : FnOk P w K mg base CX j f fd ps sp) (h : j<=k) :
  FnOk P w K mg base CX k f fd ps sp := ⟨F.len, fun A outer s H args us vs Q E hr => F.run A outer s H args us vs Q E (hr.mono h)⟩
section
variable {X : Cx} {pins : List (Addr × Obj)} {σ : St} {H : Hp} {s s' : Shared}
theorem Inv.env0 (I : Inv X pins σ H s) : Env0 X.prog X.w X.K X.mg X.base X.A X.stack s H :=
 ⟨I.ok.frames, I.ok.mod, I.bs, QkI I.ok.bsz I.sz, I.stack, I.stkFree, I.hok, I.bare⟩
theorem Inv.after {Q : VK} {u : Value} (I : Inv X pins σ H s) (h : CE X.stack X.prog X.w H s Q u s') : EP X pins σ Q u s' := by
 obtain ⟨v, H', os, bare, un, hok, r, q⟩ := h
 obtain ⟨hh, g, d, t, os'⟩ := s'
 obtain rfl : os' = s.os := os
 exact ⟨v, H', I.call (h' := hh) (g' := g) (d' := d) (t' := t) (ch := []) un hok bare (fun b z => absurd z (by simp)), r, q⟩
end
def tCall (sp : Sp) (dvs : List V) (E : XK) (t : TA) : TE := fun σ H Q => t σ H fun vs H1 => sp (vs ++ dvs) H1 Q E
def QbY (K : PySem.W.Frag) (fd : FuncData) (ps : List Str) (ds : List Value) : Prop :=
 ∀ (s : Shared) (us : List Value), K.In s.heap->(us ++ ds).length = ps.length->BindsTo s fd ⟨us, []⟩ (ps.zip (us ++ ds))
theorem QbY.all {K : PySem.W.Frag} {fd : FuncData} {ps : List Str} (h : ∀ us : List Value, us.length = ps.length->bindArgs fd ⟨us, []⟩ = pure (ps.zip us)) : QbY K fd ps [] := fun s us _ hl => by
 rw [List.append_nil] at hl ⊢
 exact .of_eq (h us hl)
def Qkm (CX : CXT) (X : Cx) (E : XK) : Prop := ∀ (pins : List (Addr × Obj)) (σ : St) (H : Hp) (s : Shared) (e : Value) (s' : Shared), Inv X pins σ H s->CX X.stack H s E e s'->X.xe e s'
section
variable {X : Cx} {CX : CXT} {k : Nat} {f C : Addr} {fd : FuncData} {ps : List Str} {sp : Sp} {dvs : List V} {ds : List Value} {E : XK} {x m : Str} {p pos apos : Pos} {e o : Expr} {es : List Expr} {ta : TE} {t : TA}
theorem run_fn {pins : List (Addr × Obj)} {σ : St} {H : Hp} {s : Shared} {Q : VK} {us : List Value} {vs : List V} (F : FnOk X.prog X.w X.K X.mg X.base CX k f fd ps sp) (hr : Room k X.A) (hb : QbY X.K fd ps ds) (hd : Vals dvs ds) (hx : Qkm CX X E)
  (I : Inv X pins σ H s) (r : Vals vs us) (h : sp (vs ++ dvs) H Q E) : wpAny (model X.prog X.w) X.A (call (.ref f) us) (EP X pins σ Q) X.xe s := by
 have r2 : Vals (vs ++ dvs) (us ++ ds) := r.append hd
 have hl : (us ++ ds).length = ps.length := by rw [<-r2.length]; exact F.len _ _ _ _ h
 refine wpAny_call (codeAny_mono (F.run X.A X.stack s H ⟨us, []⟩ (us ++ ds) (vs ++ dvs) Q E hr I.env0 (hb s us I.kIn hl) r2 h) fun r s' hq => ?_)
 cases r with
 | error e => exact hx pins σ H s e s' I hq
 | ok fl =>
  cases fl with
  | ret u => exact I.after hq
  | next => exact False.elim hq
  | brk => exact False.elim hq
  | cont => exact False.elim hq
theorem pe_call (F : FnOk X.prog X.w X.K X.mg X.base CX k f fd ps sp) (hr : Room k X.A) (hg : Gl X x) (hm : X.mg x = some (.ref f)) (hk : PySem.W.keepIn X.K (.ref f) = true) (hb : QbY X.K fd ps ds) (hd : Vals dvs ds) (hx : Qkm CX X E)
  (ha : PA X (e :: es) t) (hdb : (x == ("__debug__" : Str)) = false := by decide) (he : starEach (e :: es) X.env = (false, eval e X.env) :: starEach es X.env := by rfl) (hpl : (backTo pos (starEach es X.env)).any (·.1) = false := by rfl) :
  PE X (.Call (.Name x p) (e :: es) [] pos) (tCall sp dvs E t) := by
 intro pins s σ H Q I h
 refine wpAny_Call_Name_kw (Qjf I hg hm ?_ hdb)
 refine PySem.W.callWith_K (h₀ := X.base) I.ok.mod.kin hk (thn (ha pos pins s σ H _ I h) fun us s1 ⟨vs, H1, I1, r, q⟩ => ⟨I1.kIn, ?_⟩) he hpl
 exact run_fn F hr hb hd hx I1 r q
end
section
variable {X : Cx} {CX : CXT} {k : Nat} {f C : Addr} {fd : FuncData} {ps ks : List Str} {sp : Sp} {E : XK} {x m : Str} {p pos apos kpos : Pos} {e o : Expr} {es : List Expr} {kws : List Keyword} {te ta : TE} {t tk : TA} {nm : Option Str}
variable {g : List Value->List Value->List Value} {gV : List V->List V->List V}
end
structure FnScope (N P : List Str) (sc : Scope) : Prop where
 kind : sc.kind = .function
 co : sc.isCoroutine = false
 gen : sc.isGenerator = false
 nd : N.Nodup
 pre : N.take P.length = P
 par : ∀ x ∈ P, sc.names.lookup x = some .local\/sc.names.lookup x = some .cell
 nofree : ∀ y ∈ sc.names, y.2 ≠ .free
theorem Qfw {kindOf : Str->Option NameKind} {x : Str} : ∀ {binds : List (Str × Value)} {m : Str->Option Value}, (∀ v, (x, v) ∉ binds)->bindL kindOf binds m x = m x
 | [], _, _ => rfl
 | (n, v) :: r, m, h => by
  unfold bindL
  rw [Qfw fun w hw => h w (QkA _ hw)]
  split
  ·have : x ≠ n := by rintro rfl; exact h v Qkv
   simp [this]
  ·rfl
theorem Qfy {kindOf : Str->Option NameKind} {x : Str} : ∀ {binds : List (Str × Value)} {m : Str->Option Value}, (∀ v, (x, v) ∉ binds)->bindC kindOf binds m x = m x
 | [], _, _ => rfl
 | (n, v) :: r, m, h => by
  unfold bindC
  rw [Qfy fun w hw => h w (QkA _ hw)]
  split
  ·rfl
  ·have : x ≠ n := by rintro rfl; exact h v Qkv
   simp [this]
theorem Qfx {kindOf : Str->Option NameKind} {x : Str} {v : Value} : ∀ {P : List Str} {vs : List Value} {i : Nat} {m : Str->Option Value}, P.Nodup->P[i]? = some x->vs[i]? = some v->kindOf x = some .local ->
  bindL kindOf (P.zip vs) m x = some v
 | [], _, _, _, _, h, _, _ => by simp at h
 | _ :: _, [], _, _, _, _, h, _ => by simp at h
 | p :: P, w :: vs, 0, m, nd, h1, h2, hk => by
  simp at h1 h2; subst h1; subst h2
  show bindL kindOf ((p, w) :: P.zip vs) m p = _
  unfold bindL
  rw [Qfw fun v hv => (List.nodup_cons.mp nd).1 (List.of_mem_zip hv).1, if_pos hk]
  simp
 | p :: P, w :: vs, i + 1, m, nd, h1, h2, hk => by
  show bindL kindOf ((p, w) :: P.zip vs) m x = _
  unfold bindL
  exact Qfx (i := i) (List.nodup_cons.mp nd).2 (by simpa using h1) (by simpa using h2) hk
theorem Qfz {kindOf : Str->Option NameKind} {x : Str} {v : Value} : ∀ {P : List Str} {vs : List Value} {i : Nat} {m : Str->Option Value}, P.Nodup->P[i]? = some x->vs[i]? = some v->kindOf x ≠ some .local ->
  bindC kindOf (P.zip vs) m x = some v
 | [], _, _, _, _, h, _, _ => by simp at h
 | _ :: _, [], _, _, _, _, h, _ => by simp at h
 | p :: P, w :: vs, 0, m, nd, h1, h2, hk => by
  simp at h1 h2; subst h1; subst h2
  show bindC kindOf ((p, w) :: P.zip vs) m p = _
  unfold bindC
  rw [Qfy fun v hv => (List.nodup_cons.mp nd).1 (List.of_mem_zip hv).1, if_neg hk]
  simp
 | p :: P, w :: vs, i + 1, m, nd, h1, h2, hk => by
  show bindC kindOf ((p, w) :: P.zip vs) m x = _
  unfold bindC
  exact Qfz (i := i) (List.nodup_cons.mp nd).2 (by simpa using h1) (by simpa using h2) hk
def start (N : List Str) (vs : List V) : St := vs.map some ++ List.replicate (N.length - vs.length) none
def cxOf (CX : CXT) (P : Program) (w : World) (K : PySem.W.Frag) (mg : Str->Option Value) (base : Heap) (N : List Str) (qual : Str) (scope : Scope) (f : Addr) (cd : Value) (A : Around) (outer : List Env) (s : Shared) (H : Hp) (E : XK) : Cx where
 prog := P
 w := w
 K := K
 mg := mg
 base := base
 A := A.deeper (envOfC qual scope s.heap.objs.size f cd)
 N := N
 s₀ := s
 H₀ := H
 env := envOfC qual scope s.heap.objs.size f cd
 outer := outer
 stack := envOfC qual scope s.heap.objs.size f cd :: outer
 ex := []
 calm := true
 fn := fun _ => true
 pn := []
 xe := fun e s' => wpAny (model P w) (A.deeper (envOfC qual scope s.heap.objs.size f cd)) (leaving (envOfC qual scope s.heap.objs.size f cd) e) (fun _ s'' => CX outer H s E e s'') (fun e' s'' => CX outer H s E e' s'') s'
theorem Qhf {sc : Scope} {n : Nat} {x : Str} (h : sc.names.lookup x = some .cell) : ∃ c, (cellsFrom n sc.names []).lookup x = some c := by
 have q := PySem.W.cellsFrom_some sc.names n [] (.inl h)
 exact Option.isSome_iff_exists.mp q
theorem Qjp {CX : CXT} {P : Program} {w : World} {K : PySem.W.Frag} {mg : Str->Option Value} {base : Heap} {N ps : List Str} {qual : Str} {scope : Scope} {f : Addr} {cd : Value} {A : Around} {outer : List Env} {s s1 : Shared} {H : Hp} {E : XK} {us : List Value} {vs : List V}
  (S : FnScope N ps scope) (hd : A.handled = none) (e0 : Env0 P w K mg base A outer s H) (hl : vs.length = ps.length) (r : Vals vs us)
  (x : InCallC s s.heap.objs.size (bindL (envOfC qual scope s.heap.objs.size f cd).kindOf (ps.zip us) fun _ => none) (cellsFrom (s.heap.objs.size + 1) scope.names []) (bindC (envOfC qual scope s.heap.objs.size f cd).kindOf (ps.zip us) fun _ => none) s1) :
  Inv (cxOf CX P w K mg base N qual scope f cd A outer s H E) [] (start N vs) H s1 := by
 have hpl : ps.length<=N.length := by have := congrArg List.length S.pre; rw [List.length_take] at this; omega
 obtain ⟨h1, tk, rfl, hk⟩ := x.done
 have noA : ∀ b : Addr, b ∉ (cxOf CX P w K mg base N qual scope f cd A outer s H E).ex := fun b z => absurd (show b ∈ ([] : List Addr) from z) (by simp)
 refine ⟨⟨e0.mod, S.kind, rfl, rfl, Qky _, fun y z c h1 h2 => ?_, fun y hy => ?_, fun y c _ h => ?_, fun _ => hd, Around.frames_deeper e0.frames, .inr ⟨rfl, rfl⟩, fun b z => absurd z (noA b), e0.bs, e0.bsz, fun b _ _ => noA b, fun b z => absurd z (noA b), e0.funs, e0.frf⟩,
  rfl, e0.bare, Un.kept hk, ⟨_, x.toInCall.ns, fun i y v h1 h2 h3 => ?_⟩, fun y c h => ⟨_, x.cell y c h⟩, e0.hok.fresh (Qky _), fun y c h => ?_, fun p hp => absurd (show p ∈ ([] : List (Addr × Obj)) from hp) (by simp), e0.hok.kept hk, ?_⟩
 ·exact name_of_addr x.apart (PySem.mem_of_lookup h1) (PySem.mem_of_lookup h2)
 ·have hy : scope.names.lookup y = some .cell\/scope.names.lookup y = some .free := hy
  rcases hy with hy | hy
  ·exact Qhf hy
  ·exact absurd rfl (S.nofree _ (PySem.mem_of_lookup hy))
 ·exact Nat.le_of_lt (x.above y c (PySem.mem_of_lookup h))
 ·have hi : i < vs.length := by
   unfold start at h2
   by_cases hi : i < vs.length
   ·exact hi
   ·rw [List.getElem?_append_right (by simpa using hi)] at h2
    rw [List.getElem?_replicate] at h2
    split at h2 <;> cases h2
  have ha : vs[i]? = some v := by
   unfold start at h2
   rw [List.getElem?_append_left (by simpa using hi), QkG] at h2
   cases e : vs[i]? with
   | none => rw [e] at h2; cases h2
   | some a => rw [e] at h2; cases h2; rfl
  obtain ⟨u, hu, rv⟩ := r.get ha
  have hp : ps[i]? = some y := by
   rw [<-S.pre, List.getElem?_take_of_lt (by omega)]; exact h1
  have ndP : ps.Nodup := by rw [<-S.pre]; exact S.nd.sublist (List.take_sublist _ _)
  refine ⟨u, rv, ?_⟩
  rcases S.par y (List.mem_of_getElem? hp) with k | k
  ·exact .inl ⟨k, Qfx ndP hp hu k⟩
  ·obtain ⟨c, e⟩ := Qhf (n := s.heap.objs.size + 1) k
   refine .inr ⟨.inl k, c, e, ?_⟩
   have q := x.cell y c e
   rw [Qfz ndP hp hu (by show scope.names.lookup y ≠ _; rw [k]; decide)] at q
   exact q
 ·exact e0.hok.fresh (Nat.le_of_lt (x.above y c (PySem.mem_of_lookup h)))
 ·unfold start
  show _ = N.length
  rw [QkB, Qkz, List.length_replicate]
  omega
theorem fn_of {CX : CXT} {P : Program} {w : World} {K : PySem.W.Frag} {mg : Str->Option Value} {base : Heap} {k : Nat} {f : Addr} {name qual : Str} {params : Arguments} {body : List Stmt} {scope : Scope} {dV kV doc pm cdv ct oc : Value} {an od : Option Addr}
  {osl : Array (Option Value)} {N ps : List Str} {sp : Sp} (lk : K.lookup f = some ⟨oc, od, .func (PySem.W.fnOf name qual params body scope dV kV doc pm an cdv ct), osl⟩) (hcd : PySem.W.codeIn K cdv qual = true) (S : FnScope N ps scope)
  (len : ∀ vs H Q E, sp vs H Q E->vs.length = ps.length)
  (hbody : ∀ (A : Around) (outer : List Env) (s : Shared) (H : Hp) (vs : List V) (Q : VK) (E : XK), Room k (A.deeper (envOfC qual scope s.heap.objs.size f cdv))->sp vs H Q E ->
   ∃ t, PSs (cxOf CX P w K mg base N qual scope f cdv A outer s H E) body t/\t { nx := fun _ H' => Q .non H', rt := Q } (start N vs) H) :
  FnOk P w K mg base CX (k + 1) f (PySem.W.fnOf name qual params body scope dV kV doc pm an cdv ct) ps sp := by
 refine ⟨len, fun A outer s H args us vs Q E hr e0 hb r hsp => ?_⟩
 have hl := len _ _ _ _ hsp
 have KX : K.In s.heap := e0.mod.kin.keeps fun b o e => (e0.bs b o e).1
 have lim : s.heap.NoLimit := e0.mod.nolimit.keeps fun b o e => (e0.bs b o e).1
 have hkind : ∀ y ∈ ps.zip us, scope.names.lookup y.1 = some .local\/(scope.names.lookup y.1 = some .cell/\((cellsFrom (s.heap.objs.size + 1) scope.names []).lookup y.1).isSome = true) := fun ⟨n, v⟩ hy => by
  rcases S.par n (List.of_mem_zip hy).1 with q | q
  ·exact .inl q
  ·exact .inr ⟨q, PySem.W.cellsFrom_some _ _ _ (.inl q)⟩
 refine codeAny_call_function hr.depth (KX _ _ lk) rfl S.co S.gen rfl (PySem.W.codeRec_of KX hcd) (hb _ _ _ _ ?_)
 refine wpAny_newFunctionEnv_cells S.kind hkind fun env he s1 x => ?_
 subst he
 refine ⟨lim.keeps x.toInCall.keep, codeAny_func ?_⟩
 obtain ⟨t, ht, hq⟩ := hbody A outer s H vs Q E (hr.deeper _) hsp
 have I : Inv (cxOf CX P w K mg base N qual scope f cdv A outer s H E) [] (start N vs) H s1 := Qjp S hr.hd e0 hl r x
 refine wpAny_mono (ht [] s1 (start N vs) H _ I hq) (fun fl s' hs => ?_) fun e s' hs => hs
 have fin : ∀ {σ' : St} {H' : Hp} {v : V} {u : Value}, Inv (cxOf CX P w K mg base N qual scope f cdv A outer s H E) [] σ' H' s'->RelV v u->Q v H'->CE outer P w H s Q u s' :=
  fun {σ' H' v u} J rv q => ⟨v, H', J.os, J.bare, J.base, J.hok, rv, q⟩
 cases fl with
 | ret u =>
  obtain ⟨v, σ', H', J, rv, q⟩ := hs
  exact fin J rv q
 | next =>
  obtain ⟨σ', H', J, q⟩ := hs
  exact fin (v := V.non) (u := Value.none) J rfl q
 | brk =>
  obtain ⟨_, _, _, q⟩ := hs
  exact False.elim q
 | cont =>
  obtain ⟨_, _, _, q⟩ := hs
  exact False.elim q
end L2
namespace L2
open PySem PySem.Spec PyProof.Rows
section
variable {X : Cx} {x : Str} {p pos : Pos} {e : Expr} {es : List Expr} {t : TA} {id T : String} {r : List V->Hp->VK->Prop}
def tCB (r : List V->Hp->VK->Prop) (t : TA) : TE := fun σ H Q => t σ H fun vs H1 => r vs H1 Q
theorem pe_callB (hc : Qgv X (.builtin id) r) (hg : Gl X x) (hm : X.mg x = none) (hv : bootBuiltins x = some (.builtin id)) (ha : PA X (e :: es) t) (hn : x ≠ "__name__" := by decide) (hdb : (x == ("__debug__" : Str)) = false := by decide)
  (he : starEach (e :: es) X.env = (false, eval e X.env) :: starEach es X.env := by rfl) (hpl : (backTo pos (starEach es X.env)).any (·.1) = false := by rfl) : PE X (.Call (.Name x p) (e :: es) [] pos) (tCB r t) := by
 intro pins s σ H Q I h
 refine wpAny_Call_Name_kw (QdS I hg hm hv ?_ hn hdb)
 exact PyProof.Rows.callWith_builtin1 (thn (ha pos pins s σ H _ I h) fun us s1 ⟨vs, H1, I1, r1, q1⟩ => hc pins s1 σ H1 vs us Q I1 r1 q1) he hpl
theorem QiH (hc : Qgv X (.type T) r) (hg : Gl X x) (hm : X.mg x = none) (hv : bootBuiltins x = some (.type T)) (ha : PA X (e :: es) t) (hn : x ≠ "__name__" := by decide) (hdb : (x == ("__debug__" : Str)) = false := by decide)
  (he : starEach (e :: es) X.env = (false, eval e X.env) :: starEach es X.env := by rfl) (hpl : (backTo pos (starEach es X.env)).any (·.1) = false := by rfl) : PE X (.Call (.Name x p) (e :: es) [] pos) (tCB r t) := by
 intro pins s σ H Q I h
 refine wpAny_Call_Name_kw (QdS I hg hm hv ?_ hn hdb)
 exact PyProof.Rows.callWith_type1 (thn (ha pos pins s σ H _ I h) fun us s1 ⟨vs, H1, I1, r1, q1⟩ => hc pins s1 σ H1 vs us Q I1 r1 q1) he hpl
end
end L2
namespace HT
open PySem PyProof.Rows
theorem rcLt_int (A : Around) (s : Shared) (a : Int) (t : Tok) (c : Int) (u : Tok) (prog : Program) (w : World) (E : Value->Shared->Prop) (Q : Value->Shared->Prop) (h : Q (.bool (decide (a < c))) s) :
  wpAny (model prog w) A (richCompare .Lt (.int a t) (.int c u)) Q E s :=
 (PyProof.Rows.lt_int h : wpAny (model prog w) A (compareOp .Lt (.int a t) (.int c u)) Q E s)
section
open PySem.SeqAt
open PySem.AutoSeq1 (wpAny_loadPart')
open PySem.MeetsSeq PySem.MeetsSeq2 PySem.MeetsSeq3
end
section
variable {prog : Program} {w : World} {A : Around} {E : Value->Shared->Prop} {s : Shared}
theorem cat_tup {t b : Addr} {vs ws : List Value} {Q : Value->Shared->Prop} (ht : IsTup s.heap t vs.toArray) (hb : IsTup s.heap b ws.toArray) (hv : vs ≠ [])
  (h1 : ws = []->Q (.ref t) s) (h2 : ws ≠ []->Q (.ref s.heap.objs.size) { s with heap := s.heap.push { cls := .type "tuple", data := .seq (vs ++ ws).toArray } })
  (hsz : vs.length + ws.length<=sizeLine) : wpAny (model prog w) A (binaryOp .Add (.ref t) (.ref b)) Q E s := by
 obtain ⟨⟨cls, dd, data, sl⟩, ho, hc, n, hd⟩ := id ht
 obtain ⟨⟨cls2, dd2, data2, sl2⟩, ho2, hc2, n2, hd2⟩ := id hb
 simp only at hc hd hc2 hd2
 subst hc hd hc2 hd2
 have e : vs.toArray ++ ws.toArray = (vs ++ ws).toArray := by simp
 by_cases hw : ws = []
 ·exact concat_meets ⟨_, ho, rfl⟩ ⟨_, ho2, rfl⟩ noFill_tuple_add seq_tuple_add PySem.F.slot_tuple_add PySem.F.entry_tuple_add (PySem.F.args_tuple_add_2 _ _)
   (tuple_addW1 t b vs.toArray ws.toArray n n2 dd dd2 sl sl2 (by simpa using hv) (by simp [hw])) ⟨ho, ho2, h1 hw⟩
 ·refine concat_meets ⟨_, ho, rfl⟩ ⟨_, ho2, rfl⟩ noFill_tuple_add seq_tuple_add PySem.F.slot_tuple_add PySem.F.entry_tuple_add (PySem.F.args_tuple_add_2 _ _)
   (tuple_addW2 t b vs.toArray ws.toArray n n2 dd dd2 sl sl2 (by simpa using hv) (by simpa using hw) (by rw [Qkx, Qkx]; exact hsz)) ⟨ho, ho2, ?_⟩
  rw [e]
  exact h2 hw
def sIx (n d : Nat) : Option Int->Nat
 | none => d
 | some v => if v < 0 then (v + (n : Int)).toNat else min v.toNat n
theorem sIx_nat (n d k : Nat) : sIx n d (some (k : Int)) = min k n := by
 show (if (k : Int) < 0 then ((k : Int) + (n : Int)).toNat else min (k : Int).toNat n) = min k n
 rw [if_neg (by omega), Int.toNat_natCast]
theorem sIx_le (n d : Nat) (hd : d<=n) (o : Option Int) : sIx n d o<=n := by
 cases o with
 | none => exact hd
 | some v =>
  show (if v < 0 then (v + (n : Int)).toNat else min v.toNat n)<=n
  by_cases hv : v < 0
  ·rw [if_pos hv]; omega
  ·rw [if_neg hv]; exact Nat.min_le_right _ _
theorem Qkc (v : Int) (n d : Nat) : (if v < 0 then max (v + (n : Int)) 0 else min v (n : Int)) = ((sIx n d (some v) : Nat) : Int) := by
 show (if v < 0 then max (v + (n : Int)) 0 else min v (n : Int)) = (((if v < 0 then (v + (n : Int)).toNat else min v.toNat n) : Nat) : Int)
 by_cases hv : v < 0
 ·simp only [if_pos hv]; omega
 ·simp only [if_neg hv]; omega
theorem QhV (lo hi : Option Int) (n : Nat) : Builtin.Slice.sliceAdjust lo hi 1 (n : Int) = (((sIx n 0 lo : Nat) : Int), ((sIx n n hi : Nat) : Int)) := by
 have h1 : ¬ ((1 : Int) < 0) := by omega
 unfold Builtin.Slice.sliceAdjust
 simp only [h1, if_false]
 refine Prod.ext ?_ ?_
 ·cases lo with
  | none => rfl
  | some v => exact Qkc v n 0
 ·cases hi with
  | none => rfl
  | some v => exact Qkc v n n
theorem QhB (i j : Nat) : Builtin.Slice.slicePlaces (i : Int) (j : Int) 1 = j - i := by
 unfold Builtin.Slice.slicePlaces
 have h1 : (1 : Int) > 0 := by omega
 simp only [h1, if_true, Int.ediv_one]
 split <;> omega
theorem QdM {v : Value} {o : Option Int} {Q : Option Int->Shared->Prop} (p : IsPart v o) (h : Q o s) : wpAny (model prog w) A (Builtin.Slice.slicePartIndex v) Q E s := by
 cases p with
 | none => exact slicePart_none h
 | int i t => exact slicePart_int h
theorem sliceApplied_gen {sl : Addr} {vl vu : Value} {lo hi : Option Int} {n : Nat} {Q : Int × Int × Nat->Shared->Prop} (hs : s.heap.IsSliceOf sl vl vu .none) (pl : IsPart vl lo) (pu : IsPart vu hi)
  (h : Q (((sIx n 0 lo : Nat) : Int), 1, sIx n n hi - sIx n 0 lo) s) : wpAny (model prog w) A (Builtin.Slice.sliceApplied (.ref sl) (pure (n : Int))) Q E s := by
 obtain ⟨os, hos, hcs, hds⟩ := id hs
 unfold Builtin.Slice.sliceApplied Builtin.Slice.sliceFields
 refine wpAny_bind (wpAny_bind (wpAny_field hos hds (x := vl) rfl (wpAny_bind (wpAny_field hos hds (x := vu) rfl (wpAny_bind (wpAny_field hos hds (x := .none) rfl (wpAny_pure ?_)))))))
 refine wpAny_bind (slicePart_none ?_)
 show wpAny _ _ (if ((1 : Int) == 0) = true then _ else _) _ _ s
 rw [if_neg (by decide)]
 refine wpAny_bind (QdM pl (wpAny_bind (QdM pu (wpAny_bind (wpAny_pure ?_)))))
 show wpAny _ _ (match Builtin.Slice.sliceAdjust lo hi 1 (n : Int) with | (lo, hi) => pure (lo, (1 : Int), Builtin.Slice.slicePlaces lo hi 1)) _ _ s
 rw [QhV lo hi n]
 show wpAny _ _ (pure (((sIx n 0 lo : Nat) : Int), (1 : Int), Builtin.Slice.slicePlaces ((sIx n 0 lo : Nat) : Int) ((sIx n n hi : Nat) : Int) 1)) _ _ s
 rw [QhB]
 exact wpAny_pure h
theorem pick_gen (xs : Array Value) (i k : Nat) : ((List.range k).filterMap fun (m : Nat) => xs[((i : Int) + (m : Int) * 1).toNat]?).toArray = ((xs.toList.drop i).take k).toArray := by
 have e : (fun (m : Nat) => xs[((i : Int) + (m : Int) * 1).toNat]?) = fun m => xs[i + m]? := by
  funext m
  have : ((i : Int) + (m : Int) * 1).toNat = i + m := by omega
  rw [this]
 rw [e]
 have := pick_run xs i k
 rw [List.filterMap_map] at this
 have e2 : ((fun x => xs[x]?) ∘ fun x => i + x) = fun m => xs[i + m]? := rfl
 rw [e2] at this
 rw [this]
theorem getItem_tuple_cut {t sl : Addr} {items : Array Value} {vl vu : Value} {lo hi : Option Int} {Q : Value->Shared->Prop} (ht : IsTup s.heap t items) (hs : s.heap.IsSliceOf sl vl vu .none) (pl : IsPart vl lo) (pu : IsPart vu hi)
  (hw : ¬ (sIx items.size 0 lo = 0/\sIx items.size items.size hi = items.size))
  (h : Q (.ref s.heap.objs.size) { s with heap := s.heap.push { cls := .type "tuple", data := .seq ((items.toList.drop (sIx items.size 0 lo)).take (sIx items.size items.size hi - sIx items.size 0 lo)).toArray } })
  (hsz : items.size<=sizeLine) : wpAny (model prog w) A (getItem (.ref t) (.ref sl)) Q E s := by
 have htake : sizeOk (.seq ((items.toList.drop (sIx items.size 0 lo)).take (sIx items.size items.size hi - sIx items.size 0 lo)).toArray) := by
  show ((items.toList.drop (sIx items.size 0 lo)).take (sIx items.size items.size hi - sIx items.size 0 lo)).toArray.size<=sizeLine
  rw [Qkx, List.length_take, List.length_drop, Array.length_toList]
  omega
 have hj : sIx items.size items.size hi<=items.size := sIx_le _ _ (Qky _) hi
 obtain ⟨os, hos, hcs, hds⟩ := id hs
 have hTs : s.TypeIs (.ref sl) "slice" := ⟨os, hos, hcs⟩
 unfold getItem
 try with_reducible refine wpAny_holding ?_
 first | refine wpAny_bind (wpAny_pure ?_) | skip
 refine wpAny_bind (wpAny_sequenceKey ht.typeIs (by decide) ?_)
 refine wpAny_bind (wpAny_callSpecial?_slot (name := Str.ofString "__getitem__") ht.typeIs PyProof.Rows.slot_tuple_getitem
  (wpAny_call_entry PyProof.Rows.slot_tuple_getitem ht.typeIs entry_tuple_getitem ?_ (args_tuple_getitem _ _)))
 show wpAny _ _ (Builtin.Tuple.tupleItemsOf (.ref t) >>= _) _ _ s
 refine wpAny_bind (tupleItemsOf_ ht ?_)
 refine wpAny_bind (wpAny_typeOf hTs ?_)
 rw [if_pos (by decide)]
 refine wpAny_bind (sliceApplied_gen hs pl pu ?_)
 have hno : ¬ ((((sIx items.size 0 lo : Nat) : Int) == 0 && (1 : Int) == 1 && (sIx items.size items.size hi - sIx items.size 0 lo) == items.size) = true) := by
  intro q
  rw [QkK, QkK] at q
  have q1 : ((sIx items.size 0 lo : Nat) : Int) = 0 := eq_of_beq q.1.1
  have q2 : sIx items.size items.size hi - sIx items.size 0 lo = items.size := eq_of_beq q.2
  exact hw ⟨by omega, by omega⟩
 show wpAny _ _ (if (((sIx items.size 0 lo : Nat) : Int) == 0 && (1 : Int) == 1 && (sIx items.size items.size hi - sIx items.size 0 lo) == items.size) = true then _ else _) _ _ s
 rw [if_neg hno, pick_gen]
 first
  | exact wpAny_bind (m := Builtin.Tuple.tupleExact _) (wpAny_newObj_type (wpAny_pure ⟨_, rfl, wpAny_pure h⟩) htake)
  | exact wpAny_bind (m := Builtin.Tuple.tupleExact _) (wpAny_newObj_type (wpAny_bind (wpAny_pure (wpAny_pure ⟨_, rfl, wpAny_pure h⟩))) htake)
  | exact wpAny_bind (wpAny_bind (m := Builtin.Tuple.tupleExact _) (wpAny_newObj_type (wpAny_pure (wpAny_pure ⟨_, rfl, wpAny_pure h⟩)) htake))
  | exact wpAny_bind (wpAny_bind (m := Builtin.Tuple.tupleExact _) (wpAny_newObj_type (wpAny_pure ⟨_, rfl, wpAny_pure h⟩) htake))
end
end HT
namespace L2
open PySem PySem.Spec PyProof.Rows
abbrev TO := St->Hp->(Option Int->Hp->Prop)->Prop
def PO (X : Cx) (e : Option Expr) (t : TO) : Prop :=
 ∀ (pins : List (Addr × Obj)) (s : Shared) (σ : St) (H : Hp) (Q : Option Int->Hp->Prop), Inv X pins σ H s->t σ H Q ->
  wpAny (model X.prog X.w) X.A (evalPart e X.env) (fun u s' => ∃ o H', Inv X pins σ H' s'/\IsPart u o/\Q o H') X.xe s
def tNoPart : TO := fun _ H Q => Q none H
def tPart (t : TE) : TO := fun σ H Q => t σ H fun x H1 => ∃ i, x = .int i/\Q (some i) H1
section
variable {X : Cx} {e : Expr} {te : TE} {lo hi : Option Expr} {tl th : TO} {pos p2 : Pos}
theorem Qeh : PO X none tNoPart := by
 intro pins s σ H Q I h
 rw [evalPart_none]
 exact wpAny_pure ⟨none, H, I, .none, h⟩
theorem Qeg (h : PE X e te) : PO X (some e) (tPart te) := by
 intro pins s σ H Q I hw
 rw [evalPart_some]
 refine thn (h pins s σ H _ I hw) fun u s1 ⟨x, H1, I1, r1, q1⟩ => ?_
 obtain ⟨i, rfl, q⟩ := q1
 obtain ⟨t, rfl⟩ := r1
 exact ⟨some i, H1, I1, .int i t, q⟩
def SlR (X : Cx) (r : V->Option Int->Option Int->Hp->VK->Prop) : Prop :=
 ∀ (pins : List (Addr × Obj)) (s : Shared) (σ : St) (H : Hp) (x : V) (v vl vu : Value) (lo hi : Option Int) (sl : Addr) (Q : VK), Inv X pins σ H s->RelV x v->s.heap.IsSliceOf sl vl vu .none->IsPart vl lo->IsPart vu hi->r x lo hi H Q ->
  ∃ T id, typeLookup (.type T) "__getitem__" = pure (some (.builtin id))/\s.TypeIs v T/\wpAny (model X.prog X.w) X.A (getItem v (.ref sl)) (EP X pins σ Q) X.xe s
def tSl (r : V->Option Int->Option Int->Hp->VK->Prop) (te : TE) (tl th : TO) : TE := fun σ H Q => te σ H fun x H1 => tl σ H1 fun l H2 => th σ H2 fun u H3 => r x l u H3 Q
theorem QcQ {r : V->Option Int->Option Int->Hp->VK->Prop} (hr : SlR X r) (he : PE X e te) (hl : PO X lo tl) (hu : PO X hi th) : PE X (.Subscript e (.Slice lo hi none p2) pos) (tSl r te tl th) := by
 intro pins s σ H Q I h
 refine Subscript_ (thn (he pins s σ H _ I h) fun v s1 ⟨x, H1, I1, r1, q1⟩ => ?_)
 refine wpAny_Slice (thn (hl pins s1 σ H1 _ I1 q1) fun vl s2 ⟨l, H2, I2, pl, q2⟩ => thn (hu pins s2 σ H2 _ I2 q2) fun vu s3 ⟨u, H3, I3, pu, q3⟩ => ?_)
 rw [evalPart_none]
 refine wpAny_pure ?_
 have I4 : Inv X pins σ H3 { s3 with heap := s3.heap.push { cls := .type "slice", data := .fields #[vl, vu, .none] } } := I3.kept (t' := s3.toks) fun b ob q => Qkt _ q
 obtain ⟨T, id, hT, ht, hg⟩ := hr pins { s3 with heap := s3.heap.push { cls := .type "slice", data := .fields #[vl, vu, .none] } } σ H3 x v vl vu l u s3.heap.objs.size Q I4 r1 (Heap.IsSliceOf.new ..) pl pu q3
 show wpAny (model X.prog X.w) X.A (subscriptTail e (.Slice lo hi none p2) v (.ref s3.heap.objs.size)) (EP X pins σ Q) X.xe { s3 with heap := s3.heap.push { cls := .type "slice", data := .fields #[vl, vu, .none] } }
 exact tail_any (ops := [.ref s3.heap.objs.size, v]) ht hT hg (by with_unfolding_all rfl)
def cutV (xs : List V) (lo hi : Option Int) : List V := (xs.drop (HT.sIx xs.length 0 lo)).take (HT.sIx xs.length xs.length hi - HT.sIx xs.length 0 lo)
theorem Qdy (xs : List V) (lo hi : Option Int) : (cutV xs lo hi).length<=xs.length := by
 unfold cutV
 rw [List.length_take, List.length_drop]
 omega
def rSlT (K : PySem.W.Frag) : V->Option Int->Option Int->Hp->VK->Prop := fun x lo hi H Q => ∃ a xs, x = .ref a/\SqT K H a xs /\
 ¬ (HT.sIx xs.length 0 lo = 0/\HT.sIx xs.length xs.length hi = xs.length)/\∀ p, H p = none->Q (.ref p) (upd H p (.tup (cutV xs lo hi)))
theorem sl_tup : SlR X (rSlT X.K) := by
 intro pins s σ H x v vl vu lo hi sl Q I rx hs pl pu h
 obtain ⟨a, xs, rfl, hx, hw, q⟩ := h
 cases rx
 obtain ⟨its, r, ht, hz⟩ := I.tuple hx
 have hlen : its.toArray.size = xs.length := by rw [Qkx]; exact r.length.symm
 refine ⟨"tuple", _, PyProof.Rows.slot_tuple_getitem.lookup, ht.typeIs, ?_⟩
 refine HT.getItem_tuple_cut ht hs pl pu (by rw [hlen]; exact hw) ?_ (by rw [hlen]; exact hz)
 rw [hlen]
 refine ⟨.ref s.heap.objs.size, _, I.laid (t' := s.toks) (o := .tup (cutV xs lo hi)) (fun b ob q => Qkt _ q) (Qky _) ?_, rfl, q _ (I.hok.fresh (Qky _))⟩
 exact ⟨QkI (Qdy xs lo hi) hz, _, (r.drop (HT.sIx xs.length 0 lo)).take (HT.sIx xs.length xs.length hi - HT.sIx xs.length 0 lo), IsTup.new _ _⟩
def rCatT (K : PySem.W.Frag) : R2 := fun x y H Q => ∃ a b xs ys, x = .ref a/\y = .ref b/\SqT K H a xs/\SqT K H b ys/\xs ≠ []/\xs.length + ys.length<=sizeLine /\
 (ys = []->Q (.ref a) H)/\(ys ≠ []->∀ p, H p = none->Q (.ref p) (upd H p (.tup (xs ++ ys))))
theorem Vals.nil_iff {xs : List V} {us : List Value} (r : Vals xs us) : us = [] ↔ xs = [] := by
 cases r with
 | nil => simp
 | cons _ _ => simp
theorem op_catT : OpR X (binaryOp .Add) (rCatT X.K) := by
 intro pins s σ H x y v u Q I rx ry h
 obtain ⟨a, b, xs, ys, rfl, rfl, ha, hb, hx, hz, q1, q2⟩ := h
 cases rx
 cases ry
 obtain ⟨its, r1, p1, _⟩ := I.tuple ha
 obtain ⟨its2, r2, p2, _⟩ := I.tuple hb
 refine HT.cat_tup p1 p2 (fun z => hx (r1.nil_iff.mp z)) (fun z => ⟨.ref a, H, I, rfl, q1 (r2.nil_iff.mp z)⟩) (fun z => ?_) (by rw [<-r1.length, <-r2.length]; exact hz)
 refine ⟨.ref s.heap.objs.size, _, I.laid (t' := s.toks) (o := .tup (xs ++ ys)) (fun b ob q => Qkt _ q) (Qky _) ?_, rfl, q2 (fun w => z (r2.nil_iff.mpr w)) _ (I.hok.fresh (Qky _))⟩
 exact ⟨by rw [QkB]; exact hz, _, r1.append r2, IsTup.new _ _⟩
end
end L2
namespace L2
open PySem PySem.Spec PyProof.Rows
def ixN (n : Nat) (i : Int) : Option Nat := if 0<=i then (if i < n then some i.toNat else none) else if -(n : Int)<=i then some (i + n).toNat else none
def atI {α : Type} (xs : List α) (i : Int) : Option α := (ixN xs.length i).bind fun j => xs[j]?
theorem Qjo {n : Nat} {i : Int} {j : Nat} (h : ixN n i = some j) : seqIndex? i n = some j/\j < n/\-(n : Int)<=i/\i < n := by
 unfold ixN at h
 by_cases h0 : 0<=i
 ·rw [if_pos h0] at h
  by_cases h1 : i < n
  ·rw [if_pos h1] at h
   have e : i.toNat = j := Option.some.inj h
   exact ⟨by rw [seqIndex_of h0 h1, e], by omega, by omega, h1⟩
  ·rw [if_neg h1] at h; cases h
 ·rw [if_neg h0] at h
  by_cases h1 : -(n : Int)<=i
  ·rw [if_pos h1] at h
   have e : (i + n).toNat = j := Option.some.inj h
   exact ⟨by rw [seqIndex_neg (by omega) h1, e], by omega, h1, by omega⟩
  ·rw [if_neg h1] at h; cases h
theorem Qgr {α : Type} {xs : List α} {i : Int} {v : α} (h : atI xs i = some v) : ∃ j, seqIndex? i xs.length = some j/\xs[j]? = some v/\j < xs.length/\-(xs.length : Int)<=i/\i < xs.length := by
 unfold atI at h
 cases e : ixN xs.length i with
 | none => rw [e] at h; cases h
 | some j =>
  rw [e] at h
  obtain ⟨h1, h2, h3, h4⟩ := Qjo e
  exact ⟨j, h1, h, h2, h3, h4⟩
theorem Qkf {α : Type} {xs : List α} {j : Nat} {v : α} (h : xs[j]? = some v) : atI xs (j : Int) = some v := by
 have hj : j < xs.length := (List.getElem?_eq_some_iff.mp h).1
 have e : ixN xs.length (j : Int) = some j := by
  unfold ixN
  rw [if_pos (by omega), if_pos (by omega)]; simp
 unfold atI; rw [e]; exact h
def Qgt (b : Expr) : Prop := ∀ o i, subscripted b false o i = operate [o, i] (getItem o i)
def IxR (X : Cx) (r : R2) : Prop :=
 ∀ (value slice : Expr) (pins : List (Addr × Obj)) (s : Shared) (σ : St) (H : Hp) (x y : V) (v u : Value) (Q : VK), Inv X pins σ H s->RelV x v->RelV y u->r x y H Q ->
  subscripted slice false v u = operate [v, u] (getItem v u)->wpAny (model X.prog X.w) X.A (subscriptTail value slice v u) (EP X pins σ Q) X.xe s
def MtR (X : Cx) (id : String) (r : V->List V->Hp->VK->Prop) : Prop :=
 ∀ (pins : List (Addr × Obj)) (s : Shared) (σ : St) (H : Hp) (x : V) (xs : List V) (v : Value) (us : List Value) (Q : VK), Inv X pins σ H s->RelV x v->Vals xs us->r x xs H Q ->
  wpAny (model X.prog X.w) X.A (call (.builtin id) (v :: us)) (EP X pins σ Q) X.xe s
section
variable {X : Cx} {a b : Expr} {ta tb : TE} {pos : Pos}
theorem pe_ix {r : R2} (hr : IxR X r) (ha : PE X a ta) (hb : PE X b tb) (hs : Qgt b) : PE X (.Subscript a b pos) (tOp r ta tb) := by
 intro pins s σ H Q I h
 exact Subscript_ (binT ha hb I h fun v u s2 x y H2 I2 rx ry q => hr a b pins s2 σ H2 x y v u Q I2 rx ry q (hs _ _))
def rIxL (K : PySem.W.Frag) : R2 := fun x y H Q => ∃ p xs i v, x = .ref p/\y = .int i/\SqL K H p xs/\atI xs i = some v/\Q v H
def rIxT (K : PySem.W.Frag) : R2 := fun x y H Q => ∃ p xs i v, x = .ref p/\y = .int i/\SqT K H p xs/\atI xs i = some v/\Q v H
def rIxS : R2 := fun x y H Q => ∃ z i c, x = .str z/\y = .int i/\z.length<=sizeLine/\atI z.cps.toList i = some c/\Q (.str ⟨#[c]⟩) H
theorem ix_list : IxR X (rIxL X.K) := by
 intro value slice pins s σ H x y v u Q I rx ry h hs
 obtain ⟨p, xs, i, z, rfl, rfl, hq, he, q⟩ := h
 cases rx
 obtain ⟨t, rfl⟩ := ry
 obtain ⟨its, r, pl, hz⟩ := I.list hq
 obtain ⟨j, h1, h2, h3, h4, h5⟩ := Qgr he
 obtain ⟨w, ew, rw'⟩ := r.get h2
 have hl := r.length
 have hn := QdQ
 have fin : EP X pins σ Q w s := ⟨z, H, I, rw', q⟩
 by_cases h0 : 0<=i
 ·have hj : i.toNat = j := by
   rw [seqIndex_of h0 h5] at h1
   exact Option.some.inj h1
  exact item_listR pl.isList h0 (by omega) (by rw [hj]; simpa using ew) fin hs
 ·have hj : (i + (its.toArray.size : Int)).toNat = j := by
   rw [seqIndex_neg (by omega) h4] at h1
   rw [Qkx, <-hl]
   exact Option.some.inj h1
  exact subscriptTail_builtinR (x := w) pl.isList.typeIs slot_list_getitem.lookup
   (wpAny_getItem_list_neg (Q := fun r s' => r = w/\EP X pins σ Q r s') pl.isList (by omega) (by rw [Qkx] <;> omega) (by omega) (by rw [hj]; simpa using ew) ⟨rfl, fin⟩) hs
theorem ix_tup : IxR X (rIxT X.K) := by
 intro value slice pins s σ H x y v u Q I rx ry h hs
 obtain ⟨p, xs, i, z, rfl, rfl, hq, he, q⟩ := h
 cases rx
 obtain ⟨t, rfl⟩ := ry
 obtain ⟨its, r, pl, hz⟩ := I.tuple hq
 obtain ⟨j, h1, h2, h3, h4, h5⟩ := Qgr he
 obtain ⟨w, ew, rw'⟩ := r.get h2
 have hl := r.length
 have hn := QdQ
 have fin : EP X pins σ Q w s := ⟨z, H, I, rw', q⟩
 exact subscriptTail_builtinR (x := w) pl.typeIs slot_tuple_getitem.lookup
  (getItem_tuple (j := j) (Q := fun r s' => r = w/\EP X pins σ Q r s') pl (by omega) (by omega) (by rw [Qkx, <-hl]; exact h1) (by simpa using ew) ⟨rfl, fin⟩) hs
theorem ix_str : IxR X rIxS := by
 intro value slice pins s σ H x y v u Q I rx ry h hs
 obtain ⟨z, i, c, rfl, rfl, hz, he, q⟩ := h
 obtain ⟨t, rfl⟩ := rx
 obtain ⟨t', rfl⟩ := ry
 obtain ⟨j, h1, h2, h3, h4, h5⟩ := Qgr he
 have hl : z.cps.toList.length = z.length := by simp [Str.length]
 rw [hl] at h1 h4 h5
 have hn := QdQ
 exact tail_any (typeIs_str s z t) slot_str_getitem.lookup (getItem_str (c := c) (by
  have e1 : decide (i < -(2 ^ 63 : Int)) = false := decide_eq_false (by omega)
  have e2 : decide (i ≥ 2 ^ 63) = false := decide_eq_false (by omega)
  rw [e1, e2, Bool.or_false]) (by rw [h1]; simpa using h2) ⟨.str ⟨#[c]⟩, H, I.tok _, ⟨_, rfl⟩, q⟩) hs
theorem QhI (its : List Value) (n j : Nat) (u : Value) : Obj.mapSeq (·.setIfInBounds j u) { cls := .type "list", data := .seq its.toArray n } = { cls := .type "list", data := .seq (its.set j u).toArray n } := by
 simp [Obj.mapSeq]
theorem Inv.lst {pins : List (Addr × Obj)} {σ : St} {H : Hp} {s : Shared} {p : Addr} {xs : List V} (I : Inv X pins σ H s) (h : H p = some (.lst xs)) :
  ∃ (its : List Value) (n : Nat), Vals xs its/\s.heap.get? p = some { cls := .type "list", data := .seq its.toArray n }/\xs.length<=sizeLine := by
 obtain ⟨z, its, n, r, e⟩ := I.hok p _ h
 exact ⟨its, n, r, e, z⟩
theorem Inv.lstUpd {pins : List (Addr × Obj)} {σ : St} {H : Hp} {s : Shared} {p : Addr} {xs ys : List V} {its its' : List Value} {n n' : Nat} {f : Obj->Obj} (I : Inv X pins σ H s) (h : H p = some (.lst xs))
  (ho : s.heap.get? p = some { cls := .type "list", data := .seq its.toArray n }) (hf : f { cls := .type "list", data := .seq its.toArray n } = { cls := .type "list", data := .seq its'.toArray n' }) (r : Vals ys its') (hz : ys.length<=sizeLine) (t : Nat) :
  Inv X pins σ (upd H p (.lst ys)) { s with heap := s.heap.update p f, toks := t } := by
 have e : (s.heap.update p f).get? p = some { cls := .type "list", data := .seq its'.toArray n' } := by
  rw [Heap.get?_update_self f ho (by rw [hf] <;> rfl), hf]
 refine I.write (x := p) (e := p) (by rw [h]; trivial) (.inl rfl) (fun b u hb q => (Heap.get?_update_other _ _ (Ne.symm hb)).trans q) ⟨_, e⟩ ?_
 exact ⟨hz, its', n', r, e⟩
def rSetL : V->V->V->Hp->(Hp->Prop)->Prop := fun o i v H Q => ∃ p xs k j, o = .ref p/\i = .int k/\H p = some (.lst xs)/\ixN xs.length k = some j/\Q (upd H p (.lst (xs.set j v)))
theorem set_list : PSet X rSetL := by
 intro pins s σ H o i v ov iv u Q I ro ri rv h
 obtain ⟨p, xs, k, j, rfl, rfl, hp, hj, q⟩ := h
 cases ro
 obtain ⟨t, rfl⟩ := ri
 obtain ⟨its, n, r, ho, hz⟩ := I.lst hp
 obtain ⟨h1, h2, h3, h4⟩ := Qjo hj
 have hl := r.length
 have hn := QdQ
 have I' : Inv X pins σ (upd H p (.lst (xs.set j v))) { s with heap := s.heap.update p (Obj.mapSeq (·.setIfInBounds j u)) } :=
  I.lstUpd hp ho (QhI its n j u) (r.set rv j) (by rw [List.length_set]; exact hz) s.toks
 by_cases h0 : 0<=k
 ·have hk : k.toNat = j := by
   rw [seqIndex_of h0 h4] at h1
   exact Option.some.inj h1
  exact PySem.W.ki_setAt ho h0 (by omega) (by rw [Qkx, <-hl]; exact h4) (by rw [hk]; exact ⟨_, I', q⟩)
 ·have hk : (k + (its.toArray.size : Int)).toNat = j := by
   rw [seqIndex_neg (by omega) h3] at h1
   rw [Qkx, <-hl]
   exact Option.some.inj h1
  exact PySem.W.ki_setBack ho (by omega) (by rw [Qkx, <-hl]; exact h3) (by omega) (by rw [hk]; exact ⟨_, I', q⟩)
theorem QeM (lo hi : Option Int) (n : Nat) : (sliceBounds lo hi none n).1 = ((HT.sIx n 0 lo : Nat) : Int)/\(sliceBounds lo hi none n).2.1 = ((HT.sIx n n hi : Nat) : Int)/\(sliceBounds lo hi none n).2.2 = 1 := by
 refine ⟨?_, ?_, rfl⟩
 ·cases lo with
  | none => simp [sliceBounds, HT.sIx]
  | some i =>
   simp only [sliceBounds, HT.sIx, Option.getD_none, show (1 : Int) > 0 by decide, if_true]
   by_cases h : i < 0
   ·simp only [h, if_true] <;> omega
   ·simp only [h, if_false] <;> omega
 ·cases hi with
  | none => simp [sliceBounds, HT.sIx]
  | some i =>
   simp only [sliceBounds, HT.sIx, Option.getD_none, show (1 : Int) > 0 by decide, if_true]
   by_cases h : i < 0
   ·simp only [h, if_true] <;> omega
   ·simp only [h, if_false] <;> omega
theorem Qed (its : List Value) (lo hi : Option Int) : slicePick its.toArray lo hi none = ((its.drop (HT.sIx its.length 0 lo)).take (HT.sIx its.length its.length hi - HT.sIx its.length 0 lo)).toArray := by
 obtain ⟨h1, h2, h3⟩ := QeM lo hi its.toArray.size
 unfold slicePick
 rw [h1, h2, h3]
 simp only [sliceRange_one, pick_run, Qkx] <;> rfl
def rSlL (K : PySem.W.Frag) : V->Option Int->Option Int->Hp->VK->Prop := fun x lo hi H Q => ∃ a xs, x = .ref a/\SqL K H a xs/\∀ p, H p = none->Q (.ref p) (upd H p (.lst (cutV xs lo hi)))
theorem sl_list : SlR X (rSlL X.K) := by
 intro pins s σ H x v vl vu lo hi sl Q I rx hs pl pu h
 obtain ⟨a, xs, rfl, hx, q⟩ := h
 cases rx
 obtain ⟨its, r, ht, hz⟩ := I.list hx
 have hlen := r.length
 refine ⟨"list", _, slot_list_getitem.lookup, ht.isList.typeIs, ?_⟩
 refine wpAny_getItem_list_slice ht.isList hs pl pu .none (by simp) ?_ (by rw [Qkx] <;> omega)
 rw [Qed, <-hlen]
 refine ⟨.ref s.heap.objs.size, _, I.laid (t' := s.toks) (o := .lst (cutV xs lo hi)) (fun b ob q => Qkt _ q) (Qky _) ?_, rfl, q _ (I.hok.fresh (Qky _))⟩
 exact ⟨QkI (Qdy xs lo hi) hz, _, 0, (r.drop (HT.sIx xs.length 0 lo)).take (HT.sIx xs.length xs.length hi - HT.sIx xs.length 0 lo), QkE _ rfl⟩
def Qck : V->Bool
 | .non => true
 | .bl _ => true
 | .int _ => true
 | .str _ => true
 | _ => false
def eqV : V->V->Bool
 | .non, .non => true
 | .bl a, .bl b => a == b
 | .bl a, .int b => (if a then 1 else 0) == b
 | .int a, .bl b => a == (if b then 1 else 0)
 | .int a, .int b => a == b
 | .str a, .str b => a == b
 | _, _ => false
theorem QjN {A : Around} {s : Shared} {y x : V} {u v : Value} (ry : RelV y u) (rx : RelV x v) (fy : Qck y = true) (fx : Qck x = true) : SeqAt.EqAt A s u v (eqV y x) := by
 cases y with
 | non =>
  cases ry
  cases x with
  | non => cases rx; exact SeqAt.EqAt.same _
  | bl b => cases rx; exact SeqAt.EqAt.none_bool b
  | int b => obtain ⟨t, rfl⟩ := rx; exact SeqAt.EqAt.none_int b t
  | str b => obtain ⟨t, rfl⟩ := rx; exact SeqAt.EqAt.none_str b t
  | _ => exact absurd (show false = true from fx) Qkr
 | bl a =>
  cases ry
  cases x with
  | non => cases rx; exact SeqAt.EqAt.bool_none a
  | bl b => cases rx; exact SeqAt.EqAt.bool_bool a b
  | int b => obtain ⟨t, rfl⟩ := rx; exact SeqAt.EqAt.bool_int a b t
  | str b => obtain ⟨t, rfl⟩ := rx; exact SeqAt.EqAt.bool_str a b t
  | _ => exact absurd (show false = true from fx) Qkr
 | int a =>
  obtain ⟨t', rfl⟩ := ry
  cases x with
  | non => cases rx; exact SeqAt.EqAt.int_none a t'
  | bl b => cases rx; exact SeqAt.EqAt.int_bool a t' b
  | int b => obtain ⟨t, rfl⟩ := rx; exact SeqAt.EqAt.int_int a t' b t
  | str b => obtain ⟨t, rfl⟩ := rx; exact SeqAt.EqAt.int_str a t' b t
  | _ => exact absurd (show false = true from fx) Qkr
 | str a =>
  obtain ⟨t', rfl⟩ := ry
  cases x with
  | non => cases rx; exact SeqAt.EqAt.str_none a t'
  | bl b => cases rx; exact SeqAt.EqAt.str_bool a t' b
  | int b => obtain ⟨t, rfl⟩ := rx; exact SeqAt.EqAt.str_int a t' b t
  | str b => obtain ⟨t, rfl⟩ := rx; exact SeqAt.EqAt.str_str a t' b t
  | _ => exact absurd (show false = true from fx) Qkr
 | _ => exact absurd (show false = true from fy) Qkr
theorem QeV : OpR X (compareOp .NotIn) (fun x y H Q => ∃ i j, x = .str i/\y = .str j/\Q (.bl (!(!(Builtin.Str.occurrences j i 0 j.length 1).isEmpty))) H) := by
 intro pins s σ H x y v u Q I rx ry h
 obtain ⟨i, j, rfl, rfl, q⟩ := h
 obtain ⟨t, rfl⟩ := rx
 obtain ⟨t', rfl⟩ := ry
 exact notIn_str ⟨.bl _, H, I, rfl, q⟩
theorem Qfv : Qgv X (.builtin "len") (fun xs H Q => ∃ p ys, xs = [.ref p]/\(SqL X.K H p ys\/SqT X.K H p ys)/\Q (.int ys.length) H) := by
 intro pins s σ H xs us Q I r h
 obtain ⟨p, ys, rfl, hq, q⟩ := h
 obtain ⟨u, rfl, rx⟩ := vals1 r
 cases rx
 have hn := QdQ
 rcases hq with hq | hq
 ·obtain ⟨its, r', pl, hz⟩ := I.list hq
  have hlen := r'.length
  exact Calls.call_len_list pl.isList (by simp only [Qkx] <;> omega) ⟨.int ys.length, H, I.tok _, ⟨s.toks + 1, by rw [Qkx, hlen]⟩, q⟩
 ·obtain ⟨its, r', pl, hz⟩ := I.tuple hq
  have hlen := r'.length
  exact len_tuple pl (by simp only [Qkx] <;> omega) ⟨.int ys.length, H, I.tok _, ⟨s.toks + 1, by rw [Qkx, hlen]⟩, q⟩
theorem Qfu : Qgv X (.builtin "len") (fun xs H Q => ∃ z, xs = [.str z]/\z.length<=sizeLine/\Q (.int z.length) H) := by
 intro pins s σ H xs us Q I r h
 obtain ⟨z, rfl, hz, q⟩ := h
 obtain ⟨u, rfl, t, rfl⟩ := vals1 r
 have hn := QdQ
 exact len_str (by omega) ⟨.int z.length, H, I.tok _, ⟨_, rfl⟩, q⟩
theorem Qft : Qgv X (.type "list") (fun xs H Q => ∃ p ys, xs = [.ref p]/\(SqL X.K H p ys\/SqT X.K H p ys)/\∀ l, H l = none->Q (.ref l) (upd H l (.lst ys))) := by
 intro pins s σ H xs us Q I r h
 obtain ⟨p, ys, rfl, hq, q⟩ := h
 obtain ⟨u, rfl, rx⟩ := vals1 r
 cases rx
 have fin : ∀ (its : List Value), Vals ys its->ys.length<=sizeLine->∀ (h' : Heap) (c' : Nat), (∀ b o', s.heap.get? b = some o'->h'.get? b = some o') ->
   h'.get? s.heap.objs.size = some { cls := .type "list", dict := none, data := .seq its.toArray c', slots := #[] }->EP X pins σ Q (.ref s.heap.objs.size) { s with heap := h' } := fun its r' hz h' c' kp e =>
  ⟨.ref s.heap.objs.size, _, I.laid (t' := s.toks) kp (Qky _) (show QaT X.prog X.w _ h' _ (.lst ys) from ⟨hz, its, c', r', e⟩), rfl, q _ (I.hok.fresh (Qky _))⟩
 rcases hq with hq | hq
 ·obtain ⟨its, r', pl, hz⟩ := I.list hq
  have hlen := r'.length
  obtain ⟨o, ho, hc, n, hd⟩ := pl.isList
  exact call_list_seq p (.inl rfl) ho hc hd (fun h' c' kp e => fin its r' hz h' c' kp e) (by simp only [Qkx] <;> omega)
 ·obtain ⟨its, r', pl, hz⟩ := I.tuple hq
  have hlen := r'.length
  obtain ⟨o, ho, hc, n, hd⟩ := pl
  exact call_list_seq p (.inr rfl) ho hc hd (fun h' c' kp e => fin its r' hz h' c' kp e) (by simp only [Qkx] <;> omega)
theorem Qco : Qgv X (.type "tuple") (fun xs H Q => ∃ p ys, xs = [.ref p]/\((SqL X.K H p ys/\∀ l, H l = none->Q (.ref l) (upd H l (.tup ys)))\/(SqT X.K H p ys/\Q (.ref p) H))) := by
 intro pins s σ H xs us Q I r h
 obtain ⟨p, ys, rfl, h⟩ := h
 obtain ⟨u, rfl, rx⟩ := vals1 r
 cases rx
 rcases h with ⟨hq, q⟩ | ⟨hq, q⟩
 ·obtain ⟨its, r', pl, hz⟩ := I.list hq
  have hlen := r'.length
  refine call_tuple_list pl.isList (fun h' kp => ?_) (by simp only [Qkx] <;> omega)
  have I1 : Inv X pins σ H { s with heap := h' } := I.kept (t' := s.toks) kp
  have I2 : Inv X pins σ (upd H h'.objs.size (.tup ys)) { s with heap := h'.push { cls := .type "tuple", data := .seq its.toArray } } :=
   I1.laid (t' := s.toks) (fun b o e => Qkt _ e) (Qky _) (show QaT X.prog X.w _ _ _ (.tup ys) from ⟨hz, its, r', IsTup.new _ _⟩)
  exact ⟨.ref h'.objs.size, _, I2, rfl, q _ (I1.hok.fresh (Qky _))⟩
 ·obtain ⟨its, r', pl, hz⟩ := I.tuple hq
  exact call_tuple_same pl ⟨.ref p, H, I, rfl, q⟩
def tyV (K : PySem.W.Frag) (T : String) (x : V) (H : Hp) : Prop := match x with
 | .str _ => T = "str"
 | .int _ => T = "int"
 | .ref p => (T = "list"/\∃ xs, SqL K H p xs)\/(T = "tuple"/\∃ o, K.lookup p = some o/\o.cls = .type "tuple"/\o.dict = none) ∨
   (T = "dict"/\((∃ kvs, H p = some (.dK kvs))\/∃ kvs, H p = some (.dT kvs)))\/(T = "set"/\∃ S n, H p = some (.set S n))
 | _ => False
theorem tyV_is {pins : List (Addr × Obj)} {σ : St} {H : Hp} {s : Shared} {T : String} {x : V} {v : Value} (I : Inv X pins σ H s) (r : RelV x v) (ty : tyV X.K T x H) :
  s.TypeIs v T/\∀ a, v = .ref a->∃ ob, s.heap.get? a = some ob/\ob.dict = none := by
 cases x with
 | str z =>
  obtain ⟨t, rfl⟩ := r
  cases (show T = "str" from ty)
  exact ⟨typeIs_str s z t, fun _ e => nomatch e⟩
 | int i =>
  obtain ⟨t, rfl⟩ := r
  cases (show T = "int" from ty)
  exact ⟨typeIs_int s i t, fun _ e => nomatch e⟩
 | ref p =>
  cases r
  rcases ty with ⟨rfl, xs, hq⟩ | ⟨rfl, o, hk, hc, hd⟩ | ⟨rfl, hk⟩ | ⟨rfl, S, n, hk⟩
  ·obtain ⟨its, _, pl, _⟩ := I.list hq
   refine ⟨pl.isList.typeIs, fun a e => ?_⟩
   cases e
   obtain ⟨o, n, e, c, hd, _⟩ := pl
   exact ⟨o, e, hd⟩
  ·refine ⟨⟨o, I.kIn p o hk, hc⟩, fun a e => ?_⟩
   cases e
   exact ⟨o, I.kIn _ o hk, hd⟩
  ·have z : ∃ o, s.heap.get? p = some o/\o.ExactDict := by
    rcases hk with ⟨kvs, hk⟩ | ⟨kvs, hk⟩
    ·obtain ⟨_, _, _, _, o, _, _, e, ex, _⟩ := I.hok p _ hk
     exact ⟨o, e, ex⟩
    ·obtain ⟨_, _, _, _, o, _, _, e, ex, _⟩ := I.hok p _ hk
     exact ⟨o, e, ex⟩
   obtain ⟨o, e, ex⟩ := z
   refine ⟨⟨o, e, ex.1⟩, fun a e2 => ?_⟩
   cases e2
   exact ⟨o, e, ex.2.1⟩
  ·obtain ⟨o, _, _, _, e, ex, _⟩ := I.hok p _ hk
   refine ⟨⟨o, e, ex.1⟩, fun a e2 => ?_⟩
   cases e2
   exact ⟨o, e, ex.2.1⟩
 | _ => exact False.elim ty
def tBM0 (K : PySem.W.Frag) (T : String) (r : V->List V->Hp->VK->Prop) (to : TE) : TE := fun σ H Q => to σ H fun x H1 => tyV K T x H1/\r x [] H1 Q
def tBM (K : PySem.W.Frag) (T : String) (r : V->List V->Hp->VK->Prop) (to : TE) (t : TA) : TE := fun σ H Q => to σ H fun x H1 => tyV K T x H1/\t σ H1 fun xs H2 => r x xs H2 Q
variable {o e : Expr} {es : List Expr} {to : TE} {t : TA} {name : Str} {apos cpos : Pos} {T id : String} {r : V->List V->Hp->VK->Prop}
theorem pe_bm0 (pa : PlainAttrs T) (slot : Slot T name id) (hty : typeOf (.builtin id) = pure (.type "method_descriptor")) (hm : MtR X id r) (ho : PE X o to)
  (hbase : attributeBase o name X.env (eval o X.env) = eval o X.env := by rfl) (hline : (apos.endLine == cpos.line) = true := by rfl) : PE X (.Call (.Attribute o name apos) [] [] cpos) (tBM0 X.K T r to) := by
 intro pins s σ H Q I h
 refine wpAny_Call_method0_late hbase hline (thn (ho pins s σ H _ I h) fun v s1 ⟨x, H1, I1, r1, ty, q1⟩ => ?_)
 obtain ⟨h1, h2⟩ := tyV_is I1 r1 ty
 exact ⟨T, id, pa, slot, hty, h1, h2, Calls.callWith_builtin rfl (PySem.evalArgs_none (hm pins s1 σ H1 x [] v [] Q I1 r1 .nil q1))⟩
theorem pe_bm (pa : PlainAttrs T) (slot : Slot T name id) (hty : typeOf (.builtin id) = pure (.type "method_descriptor")) (hm : MtR X id r) (ho : PE X o to) (ha : PA X (e :: es) t)
  (hbase : attributeBase o name X.env (eval o X.env) = eval o X.env := by rfl)
  (hfew : ((backTo cpos (starEach (e :: es) X.env)).all (fun x => !x.1) && (backToKw cpos (keywordEach [] X.env)).all (fun x => x.1.isSome)
   && decide ((e :: es).length + ([] : List Keyword).length + (if ([] : List Keyword).isEmpty then 0 else 1) < 30)) = true := by rfl)
  (hline : (apos.endLine == cpos.line) = true := by rfl) (hs : starEach (e :: es) X.env = (false, eval e X.env) :: starEach es X.env := by rfl) (hplain : (backTo cpos (starEach es X.env)).any (·.1) = false := by rfl) :
  PE X (.Call (.Attribute o name apos) (e :: es) [] cpos) (tBM X.K T r to t) := by
 intro pins s σ H Q I h
 refine wpAny_Call_method_late hbase hfew hline rfl (thn (ho pins s σ H _ I h) fun v s1 ⟨x, H1, I1, r1, ty, q1⟩ => ?_)
 obtain ⟨h1, h2⟩ := tyV_is I1 r1 ty
 refine ⟨T, id, pa, slot, hty, h1, h2, ?_⟩
 have hA := ha cpos pins s1 σ H1 _ I1 q1
 rw [hs] at hA ⊢
 refine Calls.callWith_builtin (by show (false || (backTo cpos (starEach es X.env)).any (·.1)) = false; rw [hplain] <;> rfl) (Calls.evalArgs_plain ?_)
 exact thn hA fun us s2 ⟨vs, H2, I2, r2, q2⟩ => hm pins s2 σ H2 x vs v us Q I2 r1 r2 q2
end
end L2
namespace L2
open PySem PySem.Spec PyProof.Rows
def MtM (X : Cx) (id : String) (r : V->List V->Hp->VK->Prop) : Prop :=
 ∀ (pins : List (Addr × Obj)) (s : Shared) (σ : St) (H : Hp) (x : V) (xs : List V) (v : Value) (us : List Value) (Q : VK), Inv X pins σ H s->RelV x v->Vals xs us->r x xs H Q ->
  wpAny (model X.prog X.w) X.A (call (.builtin id) (v :: us)) (EP X pins σ Q) X.xe s
theorem Vals.one : ∀ {x : V} {us : List Value}, Vals [x] us->∃ u, us = [u]/\RelV x u
 | _, _, .cons r .nil => ⟨_, rfl, r⟩
theorem Vals.rep {xs : List V} {us : List Value} (h : Vals xs us) : ∀ k : Nat, Vals (List.replicate k xs).flatten (List.replicate k us).flatten
 | 0 => .nil
 | k + 1 => by
  rw [List.replicate_succ, List.replicate_succ, List.flatten_cons, List.flatten_cons]
  exact Vals.append h (Vals.rep h k)
theorem Qfh (its : List Value) : ∀ (k : Nat) (acc : List Value),
  List.foldl (fun x1 x2 => x1 ++ x2) acc.toArray (List.replicate k its.toArray) = (acc ++ (List.replicate k its).flatten).toArray
 | 0, acc => by simp
 | k + 1, acc => by
  have e : acc.toArray ++ its.toArray = (acc ++ its).toArray := by simp
  have e2 : (acc ++ its) ++ (List.replicate k its).flatten = acc ++ (List.replicate (k + 1) its).flatten := by
   rw [List.replicate_succ, List.flatten_cons, List.append_assoc]
  rw [<-e2, <-Qfh its k (acc ++ its), <-e, List.replicate_succ, List.foldl_cons]
section
variable {X : Cx} {pins : List (Addr × Obj)} {σ : St} {H : Hp} {s : Shared} {l b : Addr} {xs ys zs : List V}
theorem Inv.lset {its its' : List Value} {n : Nat} {f : Array Value->Array Value} {t' : Nat} (I : Inv X pins σ H s) (hH : H l = some (.lst xs))
  (e : s.heap.get? l = some { cls := .type "list", data := .seq its.toArray n }) (hf : f its.toArray = its'.toArray) (hv : Vals ys its') (hz : ys.length<=sizeLine) :
  Inv X pins σ (upd H l (.lst ys)) { s with heap := s.heap.update l (Obj.mapSeq f), toks := t' } := by
 have q := PySem.IsL.update e f
 rw [hf] at q
 refine I.write (x := l) (e := l) (by rw [hH]; exact trivial) (.inl rfl) (fun b' u hb hu => (Heap.get?_update_other s.heap (Obj.mapSeq f) (Ne.symm hb)).trans hu) ⟨_, q⟩ ?_
 exact ⟨hz, its', _, hv, q⟩
theorem Inv.lnew {its : List Value} {t' : Nat} (I : Inv X pins σ H s) (hv : Vals ys its) (hz : ys.length<=sizeLine) :
  Inv X pins σ (upd H s.heap.objs.size (.lst ys)) { s with heap := s.heap.push { cls := .type "list", data := .seq its.toArray }, toks := t' } :=
 I.laid (fun _ _ q => Qkt _ q) (Qky _) ⟨hz, its, 0, hv, QkE _ rfl⟩
theorem Inv.fresh (I : Inv X pins σ H s) : H s.heap.objs.size = none := I.hok.fresh (Qky _)
theorem Inv.lstM (I : Inv X pins σ H s) (hH : H l = some (.lst xs)) : xs.length<=sizeLine/\∃ (its : List Value) (n : Nat), Vals xs its/\xs.length = its.length/\s.heap.get? l = some { cls := .type "list", data := .seq its.toArray n } := by
 obtain ⟨z, its, n, r, e⟩ := I.hok l _ hH
 exact ⟨z, its, n, r, r.length, e⟩
theorem notLongL {n : Nat} (h : n<=sizeLine) : Builtin.List.listTooLong n = false := by
 unfold Builtin.List.listTooLong
 exact decide_eq_false (by omega)
end
section
variable {X : Cx}
def rAppend : V->List V->Hp->VK->Prop := fun x vs H Q => ∃ l xs y, x = .ref l/\vs = [y]/\H l = some (.lst xs)/\xs.length < sizeLine/\Q .non (upd H l (.lst (xs ++ [y])))
theorem QiV : MtM X "list.append" rAppend := by
 intro pins s σ H x vs v us Q I rx rv h
 obtain ⟨l, xs, y, rfl, rfl, hH, hz, q⟩ := h
 cases rx
 obtain ⟨u, rfl, ru⟩ := rv.one
 obtain ⟨z, its, n, r, hl, e⟩ := I.lstM hH
 refine call_meets F.slot_list_append ⟨_, e, rfl⟩ F.entry_list_append (F.args_list_append_2 _ _) (PySem.list_append l its.toArray n u (by rw [Qkx]; omega)) ⟨e, ?_⟩
 refine ⟨.non, _, I.lset (its' := its ++ [u]) hH e (by simp) (r.append (.cons ru .nil)) ?_, rfl, q⟩
 rw [QkB, QkJ]
 omega
theorem len_rep {α : Type} (xs : List α) (k : Nat) : (List.replicate k xs).flatten.length = k * xs.length := by
 induction k with
 | zero => simp
 | succ k ih => rw [List.replicate_succ, List.flatten_cons, QkB, ih, Nat.succ_mul, Nat.add_comm]
end
section
variable {prog : Program} {w : World} {A : Around} {E : Value->Shared->Prop} {s : Shared}
end
section
variable {X : Cx}
end
end L2
namespace Att
open PySem PySem.W PySem.Calls PyProof.Rows
theorem Qdq {P : Params} {h : Heap} : ∀ (ns : List Int) (vs : List Value), WellAll P h vs (ns.map WData.int)->IntsAre vs ns := by
 intro ns
 induction ns with
 | nil =>
  intro vs w
  rw [List.map_nil] at w
  cases w
  exact .nil
 | cons n ns ih =>
  intro vs w
  rw [List.map_cons] at w
  cases w with
  | cons a b =>
   cases a
   exact .cons _ _ (ih _ b)
theorem Qio {l : OpenLaw} {n : Nat} (hn : l.most = some n) {P : Params} {h : Heap} {args : List WData} {vals : List Value}
  (hpre : l.row.toRowW.claim.pre args = true) (hwl : WellAll P h vals args) :
  ∃ a vs ns, vals = [Value.ref a]/\args = [WData.list (ns.map WData.int)]/\h.get? a = some { cls := .type "list", data := .seq vs.toArray }/\IntsAre vs ns/\ns.length<=n := by
 have hsh : WShape.hasAll [] args [.list .int] = true := (pre_splitW hpre).1
 have hc : l.pre.holds [] { args := args } = true := (pre_splitW hpre).2
 obtain ⟨d, r, rfl, h1, h2⟩ := hasAllW_cons hsh
 obtain rfl := hasAllW_nil h2
 obtain ⟨xs, rfl, h3⟩ := hasW_list h1
 obtain ⟨ns, rfl⟩ := items_int h3
 have hlen : ns.length<=n := by
  unfold OpenLaw.pre at hc
  have h4 : (WTm.not (.lt (.lit (.int (n : Int))) (.len (.arg 0)))).holds [] { args := [.list (ns.map .int)] } = true := by
   have h4 := (holds_andW hc).1
   rw [hn] at h4
   exact h4
  have h5 := condW_of h4 (w_not (w_lt w_lit (w_len_list (w_arg rfl))))
  rw [Qkz] at h5
  refine Nat.le_of_not_lt fun q => ?_
  have q' : (n : Int) < ((ns.length : Nat) : Int) := by omega
  first
   | (rw [decide_eq_true q'] at h5; exact absurd h5 (by decide))
   | (simp at h5; omega)
 cases hwl with
 | cons w1 w2 =>
  cases w2
  cases w1 with
  | list ho hall => exact ⟨_, _, ns, rfl, rfl, ho, Qdq ns _ hall, hlen⟩
theorem QiA (l : OpenLaw) (args : List WData) : l.row.toRowW.claim.post args (.bool true) args = true :=
 postW_of (r := l.row.toRowW) (X := (true == true))
  (show WShape.has [] (.bool true) .bool = true by first | rfl | decide | simp [WShape.has, WShape.arms, WShape.armsAll])
  (show (WTm.eq .res (.lit (.bool true))).value [] { args := args, res := some (.bool true), after := args } = some (.bool (true == true)) from w_eq_bool (w_res rfl) w_lit) rfl
theorem attach_call {l : OpenLaw} {n : Nat} {q : Program} {loose : List Str} {XP : (Str->Option Value)->Heap->Prop} {YP : World->Heap->Prop} {d : DefRec}
  (hn : l.most = some n) (hdf : d.params.defaults = [])
  (call : ∀ (w : World) (s₀ s₁ : Shared) (mg mb : Str->Option Value) (fa : Addr) (o : Obj) (pm cd doc : Value) (a : Addr) (vs : List Value) (ns : List Int),
   Ground q loose [] XP w s₀ mg mb s₁.heap->YP w s₁.heap ->
   s₁.heap.get? fa = some o->o.data = .func (docDef d.name d.params d.body d.scope pm cd doc)->s₁.heap.CodeRec cd d.name->mg d.name = some (.ref fa) ->
   s₁.heap.get? a = some { cls := .type "list", data := .seq vs.toArray }->IntsAre vs ns->ns.length<=n->s₁.gens = #[] ->
   codeAny (model l.prog w) callerA (.call (.ref fa) ⟨[.ref a], []⟩) (fun r s' => r = .ok (.ret (.bool true))/\OldK s₁.heap s'.heap/\s'.os = s₁.os/\AllBare s'.gens) s₁) :
  WalkO q loose XP YP l.row.toRowW d [] (fun f vs => PySem.call f vs) := by
 intro w s₀ s₁ mg mb G Y fa o pm cd doc dV kV ho hd hcd hD hmg hg args vals as hpre hlay hrd hwl hlo
 obtain rfl : dV = .none := Dflts.none hD hdf
 obtain rfl : kV = .none := Dflts.noKw hD
 obtain ⟨a, vs, ns, rfl, rfl, hobj, hints, hlen⟩ := Qio hn hpre hwl
 refine enter_call (codeAny_mono (call w s₀ s₁ mg mb fa o pm cd doc a vs ns G Y ho (fd_plain hd) hcd hmg hobj hints hlen hg) fun r s' hq => ?_)
 obtain ⟨rfl, h2, h3, h4⟩ := hq
 exact ⟨.inl ⟨.bool true, .bool true, [], rfl, fun _ => rfl, .bool true, QiA l _, fun _ => ⟨List.Pairwise.nil, fun _ hm => (nomatch hm)⟩⟩, h2, h3, h4⟩
section
variable {prog : Program} {w : World} {A : Around} {E : Value->Shared->Prop} {s : Shared} {K : Frag}
end
end Att
namespace L2
open PySem PySem.Spec PyProof.Rows
theorem QeE : ∀ {vs : List Value} {ns : List Int}, IntsAre vs ns->Vals (ns.map V.int) vs
 | _, _, .nil => .nil
 | _, _, .cons n t h => .cons ⟨t, rfl⟩ (QeE h)
def Only (H : Hp) : Prop := ∀ b, H b = none\/∃ o xs, H b = some (.frz o (.lst xs))
theorem law_call {P : Program} {w : World} {K : PySem.W.Frag} {mg mb : Str->Option Value} {CX : CXT} {k : Nat} {fa a : Addr} {fd : FuncData} {x : Str} {sp : Sp} {s₁ : Shared} {vs : List Value} {ns : List Int}
  (KX : K.In s₁.heap) (hns : s₁.heap.Ns mainGlobals mg) (hb : s₁.heap.Ns builtinsNs mb) (hbb : ∀ x : Str, x ≠ "__name__"->mb x = bootBuiltins x) (hlim : s₁.heap.NoLimit) (hg : s₁.gens = #[])
  (ha : s₁.heap.get? a = some { cls := .type "list", data := .seq vs.toArray }) (hi : IntsAre vs ns) (hl : ns.length<=sizeLine) (hr : Room k callerA)
  (F : ∀ base : Heap, K.In base->base.Ns mainGlobals mg->FnOk P w K mg base CX k fa fd [x] sp) (hbind : ∀ (s : Shared) (u : Value), BindsTo s fd ⟨[u], []⟩ [(x, u)])
  (hsp : ∀ H : Hp, Only H->SqL K H a (ns.map V.int)->sp [.ref a] H (fun v _ => v = .bl true) fun _ _ _ => False)
  (hCX : ∀ H e s', CX [] H s₁ (fun _ _ _ => False) e s'->False) :
  codeAny (model P w) callerA (.call (.ref fa) ⟨[.ref a], []⟩) (fun r s' => r = .ok (.ret (.bool true))/\OldK s₁.heap s'.heap/\s'.os = s₁.os/\AllBare s'.gens) s₁ := by
 have rv := QeE hi
 have lenV := hi.length
 have core : ∀ H : Hp, Only H->SqL K H a (ns.map V.int)->HOk P w H s₁.heap->(∀ b, H b ≠ none->b = a)->(H a ≠ none->K.lookup a = none) ->
   codeAny (model P w) callerA (.call (.ref fa) ⟨[.ref a], []⟩) (fun r s' => r = .ok (.ret (.bool true))/\OldK s₁.heap s'.heap/\s'.os = s₁.os/\AllBare s'.gens) s₁ := by
  intro H hO hS hok hA hK
  have base_of : ∀ {b : Addr} {o : Obj}, s₁.heap.get? b = some o->H b = none->(hidT s₁.heap H).get? b = some o := fun e n => hidT_get e n
  have noA : ∀ {b : Addr} {o : Obj} {es : Array DictEntry} {ep : Nat}, s₁.heap.get? b = some o->o.data = .dict es ep->H b = none := fun {b o es ep} e d => by
   cases q : H b with
   | none => rfl
   | some u =>
    have e' : b = a := hA b (by rw [q]; simp)
    subst e'
    rw [ha] at e; cases e
    have d' : Data.seq vs.toArray _ = Data.dict es ep := d
    cases d'
  have nsK : ∀ {b : Addr} {m : Str->Option Value}, s₁.heap.Ns b m->(hidT s₁.heap H).Ns b m := fun {b m} ⟨o, es, ep, e, d, r⟩ => ⟨o, es, ep, base_of e (noA e d), d, r⟩
  have hKb : K.In (hidT s₁.heap H) := fun b o e => base_of (KX b o e) (by
   cases q : H b with
   | none => rfl
   | some u =>
    have e' : b = a := hA b (by rw [q]; simp)
    subst e'
    rw [hK (by rw [q]; simp)] at e; cases e)
  have hM : Mod K mg (hidT s₁.heap H) := ⟨hKb, nsK hns, ⟨mb, nsK hb, hbb⟩, let ⟨mc, h1, h2⟩ := hlim; ⟨mc, nsK h1, h2⟩⟩
  have e0 : Env0 P w K mg (hidT s₁.heap H) callerA [] s₁ H := ⟨rfl, hM, fun b o e => of_hidT e, Nat.le_of_eq (Qjx _ _), trivial, fun b hb => absurd (show b ∈ ([] : List Addr) from hb) (by simp), hok, .of_eq hg⟩
  refine codeAny_mono ((F _ hKb (nsK hns)).run callerA [] s₁ H ⟨[.ref a], []⟩ [.ref a] [.ref a] _ _ hr e0 (hbind s₁ (.ref a)) (.cons rfl .nil) (hsp H hO hS)) fun r s' h => ?_
  cases r with
  | error e => exact (hCX H e s' h).elim
  | ok fl =>
   cases fl with
   | next => exact False.elim h
   | brk => exact False.elim h
   | cont => exact False.elim h
   | ret u =>
    obtain ⟨v, H', os, bare, un, hok', r', q⟩ := h
    have q' : v = .bl true := q
    subst q'
    obtain rfl : u = Value.bool true := r'
    refine ⟨rfl, OldK.of_keep fun b o e => ?_, os, bare⟩
    cases q : H b with
    | none => exact un.keep b o e q (by intro z; exact absurd (show b ∈ ([] : List Addr) from z) (by simp)) (by simp)
    | some u =>
     rcases hO b with z | ⟨ob, xs, z⟩
     ·rw [q] at z; cases z
     ·have z2 := un.frzs b ob _ z
      obtain ⟨e1, _⟩ := hok b _ z
      obtain ⟨e2, _⟩ := hok' b _ z2
      rw [e] at e1; cases e1
      exact e2
 cases hk : K.lookup a with
 | some o =>
  have e := KX a o hk
  rw [ha] at e
  cases e
  refine core (fun _ => none) (fun _ => .inl rfl) (.inr ⟨_, vs.toArray, _, hk, rfl, rfl, rfl, by rw [Qkx, lenV]; exact hl, by simpa using rv⟩) (fun b u z => by have z' : (none : Option HO) = some u := z; cases z') (fun b z => absurd rfl z) fun z => absurd rfl z
 | none =>
  refine core (fun b => if b = a then some (.frz { cls := .type "list", data := .seq vs.toArray } (.lst (ns.map V.int))) else none) (fun b => ?_) (.inl (.inr ⟨{ cls := .type "list", data := .seq vs.toArray }, if_pos rfl⟩)) (fun b u z => ?_) (fun b z => ?_) fun _ => hk
  ·by_cases hb : b = a
   ·exact .inr ⟨_, _, if_pos hb⟩
   ·exact .inl (if_neg hb)
  ·by_cases hb : b = a
   ·have z' := (if_pos hb).symm.trans z
    cases z'
    subst hb
    exact ⟨ha, by rw [Qkz]; exact hl, vs, _, rv, ha⟩
   ·have z' := (if_neg hb).symm.trans z
    cases z'
  ·by_cases hb : b = a
   ·exact hb
   ·exact absurd (if_neg hb) z
end L2
namespace L2
open PySem PySem.Spec PyProof.Rows
theorem walk_of {l : PySem.W.OpenLaw} {n k : Nat} {q : Program} {loose : List Str} {XP : (Str->Option Value)->Heap->Prop} {YP : World->Heap->Prop} {d : DefRec} {K : Params->PySem.W.Frag} {CX : World->CXT} {sp : World->Sp} {x : Str}
  (hn : l.most = some n) (hn2 : n<=sizeLine) (hdf : d.params.defaults = []) (hr : Room k callerA)
  (hY : ∀ (w : World) (h : Heap), YP w h->(K w.params).In h)
  (F : ∀ (w : World) (mg : Str->Option Value) (fa : Addr) (h : Heap), (K w.params).In h->h.Ns mainGlobals mg->mg d.name = some (.ref fa) ->
   ∃ fd : FuncData, (∀ (s : Shared) (u : Value), BindsTo s fd ⟨[u], []⟩ [(x, u)]) /\
    ∀ base : Heap, (K w.params).In base->base.Ns mainGlobals mg->FnOk l.prog w (K w.params) mg base (CX w) k fa fd [x] (sp w))
  (hsp : ∀ (w : World) (H : Hp) (a : Addr) (ns : List Int), ns.length<=n->Only H->SqL (K w.params) H a (ns.map V.int)->sp w [.ref a] H (fun v _ => v = .bl true) fun _ _ _ => False)
  (hCX : ∀ (w : World) (H : Hp) (s : Shared) (e : Value) (s' : Shared), CX w [] H s (fun _ _ _ => False) e s'->False) :
  PySem.W.WalkO q loose XP YP l.row.toRowW d [] (fun f vs => PySem.call f vs) := by
 refine Att.attach_call hn hdf fun w s₀ s₁ mg mb fa o pm cd doc a vs ns G Y ho hd hcd hmg hobj hints hlen hg => ?_
 have KX := hY w _ Y
 obtain ⟨fd, hb, hF⟩ := F w mg fa _ KX G.T.g hmg
 exact law_call KX G.T.g G.T.b G.T.builtins G.T.nolimit hg hobj hints (QkI hlen hn2) hr hF hb (fun H hO hS => hsp w H a ns hlen hO hS) fun H e s' => hCX w H s₁ e s'
end L2
namespace L2
open PySem PySem.Spec PyProof.Rows
def Qbj (s : Stmt) : Arguments := match s with
 | .FunctionDef _ a _ _ _ _ _ _ _ _ => a
 | _ => { posonlyargs := [], args := [], vararg := none, kwonlyargs := [], kw_defaults := [], kwarg := none, defaults := [] }
def Qay (s : Stmt) : List Stmt := match s with
 | .FunctionDef _ _ b _ _ _ _ _ _ _ => b
 | _ => []
def Qag (s : Stmt) : Scope := match s with
 | .FunctionDef _ _ _ _ _ _ sc _ _ _ => sc
 | _ => { kind := .function, names := [], isGenerator := false, isCoroutine := false }
abbrev CX0 : CXT := fun _ _ _ _ _ _ => False
abbrev E0 : XK := fun _ _ _ => False
theorem pass0 {X : Cx} : Qkm CX0 X E0 := fun _ _ _ _ _ _ _ h => h.elim
structure Fun (K : PySem.W.Frag) (x qual : Str) (st : Stmt) (f : Addr) (fd : FuncData) : Prop where
 ex : ∃ (oc : Value) (od : Option Addr) (kV doc pm : Value) (an : Option Addr) (cdv ct : Value) (osl : Array (Option Value)),
  fd = PySem.W.fnOf x qual (Qbj st) (Qay st) (Qag st) .none kV doc pm an cdv ct/\K.lookup f = some ⟨oc, od, .func fd, osl⟩/\PySem.W.codeIn K cdv qual = true
 kp : PySem.W.keepIn K (.ref f) = true
section
variable {P : Program} {w : World} {K : PySem.W.Frag} {mg : Str->Option Value} {base : Heap}
theorem Fun.ok {x qual : Str} {st : Stmt} {f : Addr} {fd : FuncData} {N ps : List Str} {k : Nat} {sp : Sp} (F : Fun K x qual st f fd) (S : FnScope N ps (Qag st)) (len : ∀ vs H Q E, sp vs H Q E->vs.length = ps.length)
  (hbody : ∀ (cdv : Value) (A : Around) (outer : List Env) (s : Shared) (H : Hp) (vs : List V) (Q : VK) (E : XK), Room k (A.deeper (envOfC qual (Qag st) s.heap.objs.size f cdv))->sp vs H Q E ->
   ∃ t, PSs (cxOf CX0 P w K mg base N qual (Qag st) f cdv A outer s H E).nox (Qay st) t/\t { nx := fun _ H' => Q .non H', rt := Q } (start N vs) H) : FnOk P w K mg base CX0 (k + 1) f fd ps sp := by
 obtain ⟨oc, od, kV, doc, pm, an, cdv, ct, osl, rfl, lk, hcd⟩ := F.ex
 refine fn_of lk hcd S len fun A outer s H vs Q E hr hsp => ?_
 obtain ⟨t, h, q⟩ := hbody cdv A outer s H vs Q E hr hsp
 exact ⟨t, h.nox, q⟩
theorem Fun.binds {x qual : Str} {st : Stmt} {f : Addr} {fd : FuncData} {ps : List Str} (F : Fun K x qual st f fd)
  (h : ∀ (kV doc pm : Value) (an : Option Addr) (cdv ct : Value) (us : List Value), us.length = ps.length->bindArgs (PySem.W.fnOf x qual (Qbj st) (Qay st) (Qag st) .none kV doc pm an cdv ct) ⟨us, []⟩ = pure (ps.zip us)) : QbY K fd ps [] := by
 obtain ⟨oc, od, kV, doc, pm, an, cdv, ct, osl, rfl, lk, hcd⟩ := F.ex
 exact .all (h kV doc pm an cdv ct)
theorem fun_mk {x qual : Str} {st : Stmt} {f : Addr} {oc : Value} {od an : Option Addr} {osl : Array (Option Value)} {kV doc pm cdv ct : Value} (l : K.lookup f = some ⟨oc, od, .func (PySem.W.fnOf x qual (Qbj st) (Qay st) (Qag st) .none kV doc pm an cdv ct), osl⟩)
  (c : PySem.W.codeIn K cdv qual = true) (k : PySem.W.keepIn K (.ref f) = true) : Fun K x qual st f (PySem.W.fnOf x qual (Qbj st) (Qay st) (Qag st) .none kV doc pm an cdv ct) := ⟨⟨oc, od, kV, doc, pm, an, cdv, ct, osl, rfl, l, c⟩, k⟩
end
theorem Qdd {n : Nat} (h : n<=1000) : n < sizeLine := QkN h (by decide)
section
variable {X : Cx}
end
def Same (H H' : Hp) : Prop := ∀ b o, H b = some o->H' b = some o
theorem Same.refl (H : Hp) : Same H H := fun _ _ h => h
theorem Same.trans {H H1 H2 : Hp} (a : Same H H1) (b : Same H1 H2) : Same H H2 := fun c o h => b c o (a c o h)
theorem Same.free {H H' : Hp} (e : Same H H') {l : Addr} (h : H' l = Option.none) : H l = Option.none := by
 cases q : H l with
 | none => rfl
 | some o =>
  rw [e l o q] at h
  cases h
theorem Same.seq {K : PySem.W.Frag} {H H' : Hp} {a : Addr} {xs : List V} (e : Same H H') (h : SqL K H a xs) : SqL K H' a xs := by
 rcases h with (h | ⟨o, h⟩) | h
 ·exact .inl (.inl (e _ _ h))
 ·exact .inl (.inr ⟨o, e _ _ h⟩)
 ·exact .inr h
end L2
set_option maxHeartbeats 4000000
namespace L2
open PySem PySem.Spec PyProof.Rows
section
variable {X : Cx}
def rSlS : V->Option Int->Option Int->Hp->VK->Prop := fun x lo hi H Q => ∃ z, x = .str z/\z.length<=sizeLine/\Q (.str (Txt.slice z lo hi)) H
theorem sl_str : SlR X rSlS := by
 intro pins s σ H x v vl vu lo hi sl Q I rx hs pl pu h
 obtain ⟨z, rfl, hz, q⟩ := h
 obtain ⟨t, rfl⟩ := rx
 refine ⟨"str", _, F.slot_str_getitem.lookup, typeIs_str _ _ _, ?_⟩
 obtain ⟨o, ho, hc, hd⟩ := hs
 have fin : ∀ t' k, EP X pins σ Q (.str (Txt.slice z lo hi) t') { s with toks := k } := fun t' k => ⟨.str _, H, I.tok k, ⟨t', rfl⟩, q⟩
 cases pl with
 | none =>
  cases pu with
  | none => exact wpAny_getItem_str_slice (l := none) (u := none) (st := none) ⟨o, ho, hc, hd⟩ rfl (post_val_or_str ⟨QkI (Txt.slice_le z _ _) hz, fin⟩)
  | int j uj => exact wpAny_getItem_str_slice (l := none) (u := some (j, uj)) (st := none) ⟨o, ho, hc, hd⟩ rfl (post_val_or_str ⟨QkI (Txt.slice_le z _ _) hz, fin⟩)
 | int i ui =>
  cases pu with
  | none => exact wpAny_getItem_str_slice (l := some (i, ui)) (u := none) (st := none) ⟨o, ho, hc, hd⟩ rfl (post_val_or_str ⟨QkI (Txt.slice_le z _ _) hz, fin⟩)
  | int j uj => exact wpAny_getItem_str_slice (l := some (i, ui)) (u := some (j, uj)) (st := none) ⟨o, ho, hc, hd⟩ rfl (post_val_or_str ⟨QkI (Txt.slice_le z _ _) hz, fin⟩)
end
def Its (x : Str) : It := ⟨fun i _ => i < x.cps.size, fun i H v H' => H' = H/\∃ c, x.cps[i]? = some c/\v = .str ⟨#[c]⟩, fun i _ => x.cps.size<=i⟩
theorem Qgz {P : Program} {w : World} {K : PySem.W.Frag} {x : Str} {y : Str} {py : Pos} {it : Addr} {St : Nat->Heap->Prop}
  (W : ∀ A' : Around, A'.handled = none->Walks P w A' it [it] [it] x.cps.size (SignAt x) St) (hobj : ∀ i h, St i h->∃ o, h.get? it = some o/\∀ v, o.data ≠ .cell v) (W0 : ∀ (A : Around) (i : Nat) (s : Shared) (Q : Value->Shared->Prop) (E : Value->Shared->Prop), St i s.heap->Q (.ref it) s->wpAny (model P w) A (pyIter (.ref it)) Q E s) :
  Turn P w K (.Name y py) (Its x) [it] it (fun i h => i<=x.cps.size/\St i h) where
 mem := by simp
 obj := fun i h st b hb => by
  have e : b = it := by simpa using hb
  subst e
  exact hobj i h st.2
 keep := fun i h h' st k => ⟨st.1, (W { } rfl).frame i h h' st.2 k⟩
 item := by
  intro X hP hw hK hc i pins s σ H E I hf st hg
  subst hP hw hK
  obtain ⟨f0, f1, f2, f3, f4, f5⟩ := hf it (by simp)
  refine (W X.A (I.ok.hd hc)).item i s _ _ hg st.2 fun v h' tk hv st' kk => ?_
  obtain ⟨c, u, hcx, rfl⟩ := hv
  have I1 : Inv X pins σ H { s with heap := h', toks := tk } := I.turned (fun b o hb e => kk b o (by simpa using hb) e) f0 f1 f3 f4 f5
  exact ⟨_, rfl, wpAny_pure ⟨.str ⟨#[c]⟩, H, I1, ⟨u, rfl⟩, ⟨rfl, c, hcx, rfl⟩, ⟨hg, st'⟩, fun b hb => (hf b hb).1⟩⟩
 done := by
  intro X hP hw hK hc i pins s σ H E I hf st hg
  subst hP hw hK
  obtain ⟨f0, f1, f2, f3, f4, f5⟩ := hf it (by simp)
  have e : i = x.cps.size := Nat.le_antisymm st.1 hg
  subst e
  exact (W X.A (I.ok.hd hc)).done s _ _ st.2 fun h' tk kk => ⟨rfl, I.turned (fun b o hb e => kk b o (by simpa using hb) e) f0 f1 f3 f4 f5⟩
 self := fun A i s Q E st h => W0 A i s Q E st.2 h
section
variable {X : Cx}
end
end L2
namespace L2
open PySem PySem.Spec PyProof.Rows
def clOf (env : Env) : List (Str × NameKind)->List (Str × Addr)->List (Str × Addr)
 | [], acc => acc
 | (n, k) :: r, acc => if k = .free then clOf env r ((n, (env.cells.lookup n).getD 0) :: acc) else clOf env r acc
theorem Qfs (env : Env) : ∀ (l : List (Str × NameKind)) (acc : List (Str × Addr)), (∀ y ∈ l, y.2 = .free->(env.cells.lookup y.1).isSome = true) ->
  (forIn l acc fun (x : Str × NameKind) (cs : List (Str × Addr)) => (if (x.2 == NameKind.free) = true then (cellOf env x.1 >>= fun a => (pure (ForInStep.yield ((x.1, a) :: cs)) : Sem _)) else pure (ForInStep.yield cs))) = (pure (clOf env l acc) : Sem _)
 | [], acc, _ => by rw [List.forIn_nil]; rfl
 | (n, k) :: r, acc, h => by
  rw [List.forIn_cons]
  have hr := fun acc' => Qfs env r acc' (fun y hy => h y (QkA _ hy))
  by_cases hk : k = .free
  ·subst hk
   obtain ⟨a, ha⟩ := Option.isSome_iff_exists.mp (h (n, .free) Qkv rfl)
   have e1 : cellOf env n = pure a := by unfold cellOf; rw [ha]
   have e2 : clOf env ((n, NameKind.free) :: r) acc = clOf env r ((n, a) :: acc) := by
    show (if NameKind.free = NameKind.free then clOf env r ((n, (env.cells.lookup n).getD 0) :: acc) else _) = _
    rw [if_pos rfl, ha]; rfl
   rw [e2]
   have q := hr ((n, a) :: acc)
   rw [<-q]
   show ((cellOf env n >>= fun a => (pure (ForInStep.yield ((n, a) :: acc)) : Sem _)) >>= _) = _
   rw [e1]
   rfl
  ·have hb : (k == NameKind.free) = false := by simpa using hk
   have e2 : clOf env ((n, k) :: r) acc = clOf env r acc := by
    show (if k = NameKind.free then _ else clOf env r acc) = _
    rw [if_neg hk]
   rw [e2]
   have q := hr acc
   rw [<-q]
   show ((if (k == NameKind.free) = true then _ else _) >>= _) = _
   rw [hb]
   rfl
theorem clos_eq {scope : Scope} {env : Env} (h : ∀ y ∈ scope.names, y.2 = .free->(env.cells.lookup y.1).isSome = true) : closureFor scope env = pure (clOf env scope.names []) := by
 have q := Qfs env scope.names [] h
 unfold closureFor
 rw [<-bind_pure (forIn scope.names [] _)] at q
 first
  | exact q
  | (simp only [bind_pure] at q ⊢; exact q)
theorem QeA (env : Env) : ∀ (l : List (Str × NameKind)) (acc : List (Str × Addr)), (∀ y ∈ l, y.2 = .free->(env.cells.lookup y.1).isSome = true)->(∀ y c, acc.lookup y = some c->env.cells.lookup y = some c) ->
  ∀ y c, (clOf env l acc).lookup y = some c->env.cells.lookup y = some c
 | [], acc, _, ha, y, c, h => ha y c h
 | (n, k) :: r, acc, hl, ha, y, c, h => by
  have hl' : ∀ y ∈ r, y.2 = .free->(env.cells.lookup y.1).isSome = true := fun y hy => hl y (QkA _ hy)
  by_cases hk : k = .free
  ·have e : clOf env ((n, k) :: r) acc = clOf env r ((n, (env.cells.lookup n).getD 0) :: acc) := by
    show (if k = NameKind.free then _ else _) = _
    rw [if_pos hk]
   rw [e] at h
   refine QeA env r _ hl' (fun z d hz => ?_) y c h
   rw [List.lookup_cons] at hz
   split at hz
   ·rename_i hzn
    have en : z = n := by simpa using hzn
    cases hz
    obtain ⟨a, ha'⟩ := Option.isSome_iff_exists.mp (hl (n, k) Qkv hk)
    rw [en, ha']; rfl
   ·exact ha z d hz
  ·have e : clOf env ((n, k) :: r) acc = clOf env r acc := by
    show (if k = NameKind.free then _ else _) = _
    rw [if_neg hk]
   rw [e] at h
   exact QeA env r _ hl' ha y c h
theorem QeB (env : Env) : ∀ (l : List (Str × NameKind)) (acc : List (Str × Addr)) (y : Str), (acc.lookup y).isSome = true\/(y, NameKind.free) ∈ l->∃ c, (clOf env l acc).lookup y = some c
 | [], acc, y, h => by
  rcases h with h | h
  ·exact Option.isSome_iff_exists.mp h
  ·cases h
 | (n, k) :: r, acc, y, h => by
  by_cases hk : k = .free
  ·have e : clOf env ((n, k) :: r) acc = clOf env r ((n, (env.cells.lookup n).getD 0) :: acc) := by
    show (if k = NameKind.free then _ else _) = _
    rw [if_pos hk]
   rw [e]
   refine QeB env r _ y ?_
   rcases h with h | h
   ·left
    rw [List.lookup_cons]
    split
    ·rfl
    ·exact h
   ·rcases List.mem_cons.mp h with h | h
    ·left
     cases h
     rw [List.lookup_cons]
     simp
    ·exact .inr h
  ·have e : clOf env ((n, k) :: r) acc = clOf env r acc := by
    show (if k = NameKind.free then _ else _) = _
    rw [if_neg hk]
   rw [e]
   refine QeB env r _ y ?_
   rcases h with h | h
   ·exact .inl h
   ·rcases List.mem_cons.mp h with h | h
    ·cases h; exact absurd rfl hk
    ·exact .inr h
theorem relabel_mem {scope : Scope} {env : Env} {y : Str} {k : NameKind} (h : (relabel scope env).names.lookup y = some k) : (y, k) ∈ scope.names\/(y, NameKind.free) ∈ scope.names := by
 have m := PySem.mem_of_lookup h
 obtain ⟨⟨n, k'⟩, hm, e⟩ := List.mem_map.mp (show (y, k) ∈ scope.names.map _ from m)
 dsimp only at e
 split at e
 ·rename_i hc
  cases e
  simp only [QkK, beq_iff_eq] at hc
  right
  rw [<-hc.1.1]
  exact hm
 ·cases e
  exact .inl hm
structure CompSc (X : Cx) (scope : Scope) (x : Str) (cl : List (Str × Addr)) (N : List Str) (cap : List Nat) : Prop where
 clos : closureFor scope X.env = pure cl
 cell : ∀ y ∈ scope.names, y.2 ≠ .cell
 kind : scope.kind = .function
 names : ∀ y ∈ scope.names, y.2 = .local->scope.names.lookup y.1 = some .local
 loc : scope.names.lookup x = some .local
 nd : N.Nodup
 n0 : N[0]? = some x
 len : N.length = cap.length + 1
 capN : ∀ (k j : Nat), cap[k]? = some j->N[k + 1]? = X.N[j]?
 out : ∀ (k : Nat) (y : Str), N[k + 1]? = some y->X.env.kindOf y = some .cell\/X.env.kindOf y = some .free
 inn : ∀ (k : Nat) (y : Str), N[k + 1]? = some y->(relabel scope X.env).names.lookup y = some .cell\/(relabel scope X.env).names.lookup y = some .free
 sub : ∀ y c, cl.lookup y = some c->X.env.cells.lookup y = some c
 has : ∀ y, ((relabel scope X.env).names.lookup y = some .cell\/(relabel scope X.env).names.lookup y = some .free)->∃ c, cl.lookup y = some c
def QaC (X : Cx) (scope : Scope) (cl : List (Str × Addr)) (C : Addr) (N : List Str) (s : Shared) (H : Hp) (ex : List Addr) : Cx where
 prog := X.prog
 w := X.w
 K := X.K
 mg := X.mg
 base := X.base
 A := X.A
 N := N
 s₀ := s
 H₀ := H
 env := compEnvC scope cl C X.env
 outer := X.stack
 stack := X.stack
 ex := ex
 calm := X.calm
 fn := fun _ => false
 pn := []
 xe := fun _ _ => False
def capS (cap : List Nat) (σ : St) (x : Option V) : St := x :: cap.map fun j => (σ[j]?).getD none
section
variable {X : Cx} {pins : List (Addr × Obj)} {σ : St} {H : Hp} {s : Shared} {scope : Scope} {x : Str} {cl : List (Str × Addr)} {N : List Str} {cap : List Nat} {C : Addr} {fp : List Addr}
theorem QjW (S : CompSc X scope x cl N cap) (I : Inv X pins σ H s) (hC : s.heap.objs.size<=C) (hfp : ∀ b ∈ fp, FpOk X pins H b/\b < s.heap.objs.size) : (QaC X scope cl C N s H fp).Ok where
 mod := I.ok.mod
 kind := S.kind
 glob := I.ok.glob
 blt := I.ok.blt
 above := hC
 inj := fun y z c h1 h2 => I.ok.inj y z c (S.sub y c h1) (S.sub z c h2)
 has := fun y h => S.has y h
 cab := fun y c h => by cases h
 hd := I.ok.hd
 frames := I.ok.frames
 stk := .inl rfl
 exf := fun b hb => ⟨QkF (QkC (hfp b hb).2 hC), fun y c h => (hfp b hb).1.2.2.2.2.1 y c (S.sub y c h)⟩
 bs := I.bs
 bsz := QkI I.ok.bsz I.sz
 noex := fun b o e hb => by
  rcases (hfp b hb).1.2.2.2.1 with z | z
  ·exact I.ok.noex b o e z
  ·exact absurd (QkC (Qkw e) (QkI I.ok.bsz z)) (QkL _)
 exfs := fun b hb z => by
  rcases List.mem_cons.mp (I.stkSub b z) with e | e
  ·exact (hfp b hb).1.2.1 e
  ·exact (hfp b hb).1.2.2.1 e
 funs := I.stack
 frf := I.stkFree
theorem QhT {h₁ : Heap} {tk : Nat} {m : Str->Option Value} (S : CompSc X scope x cl N cap) (I : Inv X pins σ H s) (hC : s.heap.objs.size<=C) (hfp : ∀ b ∈ fp, FpOk X pins H b/\b < s.heap.objs.size)
  (hns : h₁.Ns C m) (old : ∀ b o, s.heap.get? b = some o->h₁.get? b = some o) : Inv (QaC X scope cl C N s H fp) [] (capS cap σ none) H { s with heap := h₁, toks := tk } := by
 refine ⟨QjW S I hC hfp, rfl, I.bare, Un.kept old, ⟨m, hns, fun i y v h1 h2 h3 => ?_⟩, fun y c h => ?_, I.hok.fresh hC, fun y c h => I.freeC y c (S.sub y c h), fun p hp => absurd (show p ∈ ([] : List (Addr × Obj)) from hp) (by simp), I.hok.kept old, ?_⟩
 ·cases i with
  | zero => exact absurd h2 (by simp [capS])
  | succ k =>
   have h2' : (cap.map fun j => (σ[j]?).getD none)[k]? = some (some v) := by simpa [capS] using h2
   rw [QkG] at h2'
   cases ej : cap[k]? with
   | none => rw [ej] at h2'; cases h2'
   | some j =>
    rw [ej] at h2'
    have e1 : (σ[j]?).getD none = some v := by simpa using h2'
    have e2 : σ[j]? = some (some v) := by
     cases q : σ[j]? with
     | none => rw [q] at e1; cases e1
     | some z => rw [q] at e1; exact congrArg some e1
    have e3 : X.N[j]? = some y := (S.capN k j ej).symm.trans h1
    obtain ⟨m2, hn2, hl⟩ := I.loc
    have ko := S.out k y h1
    have vis : Vis X.env.scope y := .inr ko
    obtain ⟨u, ru, lk⟩ := hl j y v e3 e2 vis
    refine ⟨u, ru, .inr ⟨S.inn k y h1, ?_⟩⟩
    rcases lk with ⟨kl, _⟩ | ⟨_, c, hc, cell⟩
    ·rcases ko with z | z <;> (rw [z] at kl; cases kl)
    ·obtain ⟨c', hc'⟩ := S.has y (S.inn k y h1)
     have e4 := S.sub y c' hc'
     rw [hc] at e4
     cases e4
     obtain ⟨o, ho, hd⟩ := cell
     exact ⟨c, hc', o, old c o ho, hd⟩
 ·obtain ⟨v, o, ho, hd⟩ := I.cell y c (S.sub y c h)
  exact ⟨v, o, old c o ho, hd⟩
 ·show (capS cap σ none).length = N.length
  rw [S.len]
  simp [capS]
end
def PTs (X : Cx) (ifs : List Expr) (t : TT) : Prop :=
 ∀ (pins : List (Addr × Obj)) (s : Shared) (σ : St) (H : Hp) (Q : Bool->Hp->Prop), Inv X pins σ H s->t σ H Q ->
  wpAny (model X.prog X.w) X.A (forIn ifs true fun c r => if r = true then do let ok <-isTrue c X.env (eval c X.env); pure (ForInStep.yield ok) else pure (ForInStep.yield r)) (TP X pins σ Q) X.xe s
def tYes : TT := fun _ H Q => Q true H
theorem pts_nil {X : Cx} : PTs X [] tYes := fun _ _ _ H _ I h => wpAny_tests_nil ⟨H, I, h⟩
theorem pts_one {X : Cx} {c : Expr} {t : TT} (h : PT X c t) : PTs X [c] t := fun pins s σ H Q I hq => wpAny_tests_one (h pins s σ H Q I hq)
def CompW (cap : List Nat) (tt : TT) (te : TE) (σ : St) (P : List V->Hp->Prop) (J : It) (H1 : Hp) : Prop :=
  ∃ W : Nat->Nat->List V->Hp->Prop, (∃ m, W 0 m [] H1)/\∀ i m ys H, W i m ys H->ys.length < sizeLine /\
    ((J.stop i H/\P ys H) ∨
     (J.go i H/\∀ v H', J.yld i H v H'->tt (capS cap σ (some v)) H' fun b H2 => if b = true then te (capS cap σ (some v)) H2 fun y H3 => ∃ m', m' < m/\W (i + 1) m' (ys ++ [y]) H3 else ∃ m', m' < m/\W (i + 1) m' ys H2))
def tComp (wi : TI) (cap : List Nat) (tt : TT) (te : TE) : TE := fun σ H Q => wi σ H (CompW cap tt te σ fun ys H2 => ∀ p, H2 p = none->Q (.ref p) (upd H2 p (.lst ys)))
abbrev lstO (ys : List Value) (n : Nat) : Obj := { cls := .type "list", data := .seq ys.toArray n }
theorem Un.track {fs ex : List Addr} {H H' : Hp} {h h1 : Heap} {a : Addr} {o : HO} (u : Un fs ex H H' h h1) (ha : h.objs.size<=a) (hn : H' a = none) : Un fs ex H (upd H' a o) h h1 where
 keep := u.keep
 slot := u.slot
 free := fun b ob e n hx => by rw [Qaj (QkF (QkC (Qkw e) ha))]; exact u.free b ob e n hx
 there := u.there
 tups := fun b xs e => by have q := u.tups b xs e; rw [Qaj (Qal q hn)]; exact q
 frzs := fun b ob v e => by have q := u.frzs b ob v e; rw [Qaj (Qal q hn)]; exact q
 tbls := fun b ps e => by obtain ⟨more, q⟩ := u.tbls b ps e; exact ⟨more, by rw [Qaj (Qal q hn)]; exact q⟩
theorem HOk.track {P : Program} {w : World} {H : Hp} {h : Heap} {a : Addr} {o : HO} (x : HOk P w H h) (hn : H a = none) (new : QaT P w (upd H a o) h a o) : HOk P w (upd H a o) h := fun b u e => by
 by_cases hb : b = a
 ·subst hb; rw [Qar] at e; cases e; exact new
 ·rw [Qaj hb] at e
  exact (x b u e).stay (fun c v _ q => q) (fun c q => by rw [Qaj (Qal q hn)]; exact q) fun c xs q => by rw [Qaj (Qal q hn)]; exact q
section
variable {X : Cx} {pins : List (Addr × Obj)} {σ : St} {scope : Scope} {x : Str} {px pos : Pos} {cl : List (Str × Addr)} {N : List Str} {cap : List Nat} {elt iter : Expr} {ifs : List Expr} {tt : TT} {te : TE} {E : Value->Shared->Prop}
theorem Qfq {P : List V->Hp->Prop} {RR : Value->Addr->Result->Shared->Prop} {H2 : Hp} {s2 : Shared} {it : Addr} {fp : List Addr} {tn : Nat->Heap->Prop} {J : It} (hc : X.calm = true) (S : CompSc X scope x cl N cap)
  (ht : ∀ C s H ex, PTs (QaC X scope cl C N s H ex) ifs tt) (he : ∀ C s H ex, PE (QaC X scope cl C N s H ex) elt te)
  (I2 : Inv X pins σ H2 s2) (T : Turn X.prog X.w X.K (.Name x px) J fp it tn) (st2 : tn 0 s2.heap) (f2 : ∀ b ∈ fp, FpOk X pins H2 b) (h : CompW cap tt te σ P J H2)
  (hRR : ∀ (D C : Addr) (s4 : Shared) (ys : List V) (H3 : Hp) (oC : Obj) (m : Str->Option Value), Inv X (pins ++ [(C, oC)]) σ (upd H3 D (.lst ys)) s4->(∀ h : Heap, h.get? C = some oC->h.Ns C m)->FpOk X pins (upd H3 D (.lst ys)) C->H3 D = none->P ys H3->RR (.ref D) C (.ok .next) s4) :
  wpAny (model X.prog X.w) X.A (newList []) (fun acc s₃ => wpAny (model X.prog X.w) X.A (newFunctionEnv scope X.env.globals cl [] X.env.qual none .none (some X.env)) (fun cenv s₄ =>
   codeAny (model X.prog X.w) X.A (.compStart (.ListComp elt [⟨.Name x px, iter, ifs, 0⟩] scope pos) 0 (.ref it) acc { cenv with scope := relabel scope X.env }) (RR acc cenv.locals) s₄) E s₃) E s2 := by
 obtain ⟨W, ⟨m0, w0⟩, turn⟩ := h
 refine wpAny_newObj_type (wpAny_newFunctionEnv S.cell (by intro y hy; simp at hy) (fun h₁ hns₁ hsb₁ => ?_) S.kind)
 dsimp only at hns₁ hsb₁ ⊢
 generalize hG : s2.heap.push { cls := .type "list", dict := none, data := .seq ([] : List Value).toArray } = G at hns₁ hsb₁ ⊢
 have hC : G.objs.size = s2.heap.objs.size + 1 := by rw [<-hG, Heap.size_push]
 have hDC : s2.heap.objs.size ≠ G.objs.size := by rw [hC]; exact QkF (Nat.lt_succ_self _)
 have hCle : s2.heap.objs.size<=G.objs.size := by rw [hC]; exact Nat.le_succ _
 have old : ∀ b o, s2.heap.get? b = some o->h₁.get? b = some o := fun b o e => by
  have hb := Qkw e
  exact hsb₁.extBut b o (by rw [hC]; exact QkF (Nat.lt_succ_of_lt hb)) (Qkt _ (hG ▸ Qkt _ e))
 have hacc : h₁.get? s2.heap.objs.size = some (lstO [] 0) := hsb₁.extBut _ _ hDC (Qkt _ (hG ▸ QkE _ rfl))
 have flt : ∀ b ∈ fp, b < s2.heap.objs.size := fun b hb => by obtain ⟨o, e, _⟩ := T.obj 0 _ st2 b hb; exact Qkw e
 have fp2 : ∀ b ∈ fp, FpOk X pins H2 b/\b < s2.heap.objs.size := fun b hb => ⟨f2 b hb, flt b hb⟩
 have st1 : tn 0 h₁ := T.keep _ _ _ st2 fun b _ o e => old b o e
 have fD2 : H2 s2.heap.objs.size = none := I2.hok.fresh (Qky _)
 have nDx : ∀ y c, X.env.cells.lookup y = some c->c ≠ s2.heap.objs.size/\c ≠ G.objs.size := fun y c e => by
  obtain ⟨v, q⟩ := I2.cell y c e
  have := q.lt
  exact ⟨QkF this, by rw [hC]; exact QkF (Nat.lt_succ_of_lt this)⟩
 have nPx : ∀ p ∈ X.pn ++ pins, p.1 < s2.heap.objs.size := fun p hp => Qkw (I2.pin p hp).1
 have fpB : ∀ {H' : Hp} {pl : List (Addr × Obj)}, (∀ b ∈ fp, H' b = none)->(∀ p ∈ pl, p.1 = s2.heap.objs.size)->∀ b ∈ fp, FpOk (QaC X scope cl G.objs.size N s2 H2 fp) pl H' b := fun {H' pl} hn hp b hb => by
  refine ⟨hn b hb, QkF (QkC (flt b hb) hCle), fun z => ?_, .inl hb, fun y c e => (f2 b hb).2.2.2.2.1 y c (S.sub y c e), fun p hq z => ?_⟩
  ·rcases List.mem_cons.mp (I2.stkSub b z) with e | e
   ·exact (f2 b hb).2.1 e
   ·exact (f2 b hb).2.2.1 e
  ·have e1 : p.1 = s2.heap.objs.size := hp p (by simpa [QaC] using hq)
   rw [e1] at z
   exact absurd (flt b hb) (by rw [<-z]; exact QkL _)
 have nDfs : s2.heap.objs.size ∉ frs X.stack := fun z => by
  rcases List.mem_cons.mp (I2.stkSub _ z) with e | e
  ·exact absurd I2.lt (by rw [<-e]; exact QkL _)
  ·exact I2.nofs (Qky _) e
 have pinD : ∀ {σ' : St} {H' : Hp} {s' : Shared} {ob : Obj}, Inv (QaC X scope cl G.objs.size N s2 H2 fp) [] σ' H' s'->s'.heap.get? s2.heap.objs.size = some ob->(∀ v, ob.data ≠ .cell v)->H' s2.heap.objs.size = none ->
   Inv (QaC X scope cl G.objs.size N s2 H2 fp) [(s2.heap.objs.size, ob)] σ' H' s' := fun {σ' H' s' ob} J' e d n => J'.pins_of fun p hp => by
  have e1 : p = (s2.heap.objs.size, ob) := by simpa using hp
  subst e1
  exact ⟨e, n, hDC, nDfs, d⟩
 have nocell : ∀ (ys : List Value) (n : Nat) v, (lstO ys n).data ≠ .cell v := fun ys n v z => by cases (show Data.seq ys.toArray n = Data.cell v from z)
 have loop : ∀ s₃ : Shared, s₃ = { s2 with heap := h₁, toks := s2.toks + ([] : List (Str × Value)).length } ->
   codeAny (model X.prog X.w) X.A (.compLoop (.ListComp elt [⟨.Name x px, iter, ifs, 0⟩] scope pos) 0 (.ref it) (.ref s2.heap.objs.size) (compEnvC scope cl G.objs.size X.env)) (RR (.ref s2.heap.objs.size) G.objs.size) s₃ := by
  rintro s₃ rfl
  refine codeAny_compLoop_tests
   (fun n s' => ∃ i ys vs e H' a, Inv (QaC X scope cl G.objs.size N s2 H2 fp) [(s2.heap.objs.size, lstO vs e)] (capS cap σ a) H' s'/\tn i s'.heap/\(∀ b ∈ fp, H' b = none)/\Vals ys vs/\H' s2.heap.objs.size = none/\W i n ys H') ?_ m0
   ⟨0, [], [], 0, H2, none, pinD (QhT S I2 hCle fp2 hns₁ old) hacc (nocell _ _) fD2, st1, fun b hb => (f2 b hb).1, .nil, fD2, w0⟩
  rintro n s3 ⟨i, ys, vs, e, H3, a, I3, st3, fr3, rel3, fD3, w3⟩
  obtain ⟨hlen, hcase⟩ := turn i n ys H3 w3
  have pl1 : ∀ p ∈ [(s2.heap.objs.size, lstO vs e)], p.1 = s2.heap.objs.size := fun p hp => by
   have e1 : p = (s2.heap.objs.size, lstO vs e) := by simpa using hp
   rw [e1]
  rcases hcase with ⟨stop, fin⟩ | ⟨go, step⟩
  ·refine wpAny_mono (T.done (QaC X scope cl G.objs.size N s2 H2 fp) rfl rfl rfl hc i _ s3 _ H3 (fun _ _ => False) I3 (fpB fr3 pl1) st3 stop) (fun r s4 ⟨hr, I4⟩ => ?_) fun _ _ z => z.elim
   subst hr
   obtain ⟨hD4, hDn, _, _, _⟩ := I4.pin (s2.heap.objs.size, lstO vs e) (by simp [QaC])
   have un4 : Un (frs X.stack) fp H2 H3 s2.heap s4.heap := I4.base
   have un5 : Un (frs X.stack) fp H2 (upd H3 s2.heap.objs.size (.lst ys)) s2.heap s4.heap := un4.track (Qky _) hDn
   have ok5 : HOk X.prog X.w (upd H3 s2.heap.objs.size (.lst ys)) s4.heap := HOk.track I4.hok hDn ⟨Nat.le_of_lt hlen, vs, e, rel3, hD4⟩
   have I5 : Inv X pins σ (upd H3 s2.heap.objs.size (.lst ys)) s4 := I2.call' I4.os un5 ok5 I4.bare fun b hb => ⟨(f2 b hb).2.2.2.1, (f2 b hb).2.1, (f2 b hb).2.2.2.2.1, (f2 b hb).2.2.2.2.2⟩
   obtain ⟨m, hnC, _⟩ := I4.loc
   have hnC' : s4.heap.Ns G.objs.size m := hnC
   obtain ⟨oC, es, ep, hoC, hdC, hrC⟩ := id hnC'
   have hHC : (upd H3 s2.heap.objs.size (.lst ys)) G.objs.size = none := by
    rw [Qaj (Ne.symm hDC)]
    exact I4.free
   have fC : FpOk X pins (upd H3 s2.heap.objs.size (.lst ys)) G.objs.size := by
    refine ⟨hHC, Nat.ne_of_gt (QkC I2.lt hCle), I2.nofs hCle, .inr (QkI I2.sz hCle), fun y c q => (nDx y c q).2, fun p hp z => ?_⟩
    have := nPx p hp
    rw [z] at this
    exact absurd (QkC this hCle) (QkL _)
   refine hRR s2.heap.objs.size G.objs.size s4 ys H3 oC m (I5.pins_of fun p hp => ?_) (fun h q => ⟨oC, es, ep, q, hdC, hrC⟩) fC hDn fin
   rcases List.mem_append.mp hp with hp | hp
   ·exact I5.pin p (Qku _ hp)
   ·have e1 : p = (G.objs.size, oC) := by simpa using hp
    subst e1
    exact ⟨hoC, hHC, fC.2.1, fC.2.2.1, fun v z => by rw [hdC] at z; cases z⟩
  ·refine wpAny_mono (T.item (QaC X scope cl G.objs.size N s2 H2 fp) rfl rfl rfl hc i _ s3 _ H3 (fun _ _ => False) I3 (fpB fr3 pl1) st3 go) (fun r s4 ⟨u, hr, h4⟩ => ?_) fun _ _ z => z.elim
   subst hr
   show wpAny _ _ (letOwnedTupleGo (.Name x px) (.ref it) u >>= fun _ => assign (.Name x px) (compEnvC scope cl G.objs.size X.env) u) _ _ s4
   refine wpAny_bind (wpAny_mono h4 (fun _ s5 ⟨v, H5, I5, r5, y5, st5, fr5⟩ => ?_) fun _ _ z => z.elim)
   have I5' := I5.pinned (fpB fr5 pl1) (T.obj _ _ st5)
   have hloc : (QaC X scope cl G.objs.size N s2 H2 fp).env.scope.names.lookup x = some .local := lookup_relabel_local S.loc
   refine wpAny_mono (QiF (X := QaC X scope cl G.objs.size N s2 H2 fp) (i := 0) (pos := px) S.nd S.n0 (.inl hloc) (.inr hloc) _ s5 _ H5 v u (fun σ6 H6 => σ6 = capS cap σ (some v)/\H6 = H5) I5' r5 ⟨rfl, rfl⟩) (fun _ s6 ⟨σ6, H6, I6, e6, e6'⟩ => ?_) fun _ _ z => z.elim
   subst e6 e6'
   refine wpAny_mono (ht _ _ _ _ _ s6 _ H6 _ I6 (step v H6 y5)) (fun ok s7 ⟨H7, I7, q7⟩ => ?_) fun _ _ z => z.elim
   have after : ∀ {H8 : Hp} {s8 : Shared}, Inv (QaC X scope cl G.objs.size N s2 H2 fp) ([(s2.heap.objs.size, lstO vs e)] ++ QeU fp s5.heap) (capS cap σ (some v)) H8 s8 ->
     tn (i + 1) s8.heap/\(∀ b ∈ fp, H8 b = none)/\s8.heap.get? s2.heap.objs.size = some (lstO vs e)/\H8 s2.heap.objs.size = none := fun {H8 s8} I8 => by
    refine ⟨T.keep _ _ _ st5 fun b hb o q => (I8.pin (b, o) (Qku _ (Qku _ (QbK hb q)))).1, fun b hb => ?_, (I8.pin (s2.heap.objs.size, lstO vs e) (Qku _ (List.mem_append_left _ Qkv))).1, (I8.pin (s2.heap.objs.size, lstO vs e) (Qku _ (List.mem_append_left _ Qkv))).2.1⟩
    obtain ⟨o, q, _⟩ := T.obj _ _ st5 b hb
    exact (I8.pin (b, o) (Qku _ (Qku _ (QbK hb q)))).2.1
   cases ok with
   | false =>
    rw [if_neg Qkr] at q7 ⊢
    obtain ⟨m', hm, w7⟩ := q7
    obtain ⟨st7, fr7, hD7, fD7⟩ := after I7
    exact ⟨m', hm, i + 1, ys, vs, e, H7, some v, I7.unpinned, st7, fr7, rel3, fD7, w7⟩
   | true =>
    rw [if_pos rfl] at q7 ⊢
    refine wpAny_mono (he _ _ _ _ _ s7 _ H7 _ I7 q7) (fun yv s8 ⟨y, H8, I8, r8, m', hm, w8⟩ => ?_) fun _ _ z => z.elim
    obtain ⟨st8, fr8, hD8, fD8⟩ := after I8
    refine append_at (hsz := by rw [Qkx, <-rel3.length]; exact Nat.le_of_lt hlen) hD8 fun h9 hs9 hD9 => ?_
    have I8u : Inv (QaC X scope cl G.objs.size N s2 H2 fp) [] (capS cap σ (some v)) H8 s8 := I8.pins_of fun p hp => absurd hp (by simp)
    have I9 : Inv (QaC X scope cl G.objs.size N s2 H2 fp) [] (capS cap σ (some v)) H8 { s8 with heap := h9 } :=
     I8u.turned (t' := s8.toks) (it := s2.heap.objs.size) (fun b o hb q => (hs9.2 b hb).trans q) fD8 hDC (.inr (Qky _)) (fun y c q => (nDx y c (S.sub y c q)).1) fun p hp => absurd (show p ∈ ([] : List (Addr × Obj)) from hp) (by simp)
    have hD9' : h9.get? s2.heap.objs.size = some (lstO (vs ++ [yv]) (e + 1)) := by
     rw [hD9]
     show some ({ cls := .type "list", data := .seq (vs.toArray.push yv) (e + 1) } : Obj) = some { cls := .type "list", data := .seq (vs ++ [yv]).toArray (e + 1) }
     rw [List.push_toArray]
    refine ⟨m', hm, i + 1, ys ++ [y], vs ++ [yv], e + 1, H8, some v, pinD I9 hD9' (nocell _ _) fD8, ?_, fr8, rel3.append (.cons r8 .nil), fD8, w8⟩
    exact T.keep _ _ _ st8 fun b hb o q => (hs9.2 b (QkF (flt b hb))).trans q
 exact codeAny_compStart_list (loop _ rfl) (T.self _ 0 _ _ _ st1 (loop _ rfl))
theorem pe_comp {wi : TI} (hc : X.calm = true) (hi : PI X (.Name x px) iter wi) (S : CompSc X scope x cl N cap) (ht : ∀ C s H ex, PTs (QaC X scope cl C N s H ex) ifs tt) (he : ∀ C s H ex, PE (QaC X scope cl C N s H ex) elt te)
  (hs : ∀ z, foldedSetIterable iter X.env z = pure z := by intro _; rfl) : PE X (.ListComp elt [⟨.Name x px, iter, ifs, 0⟩] scope pos) (tComp wi cap tt te) := by
 intro pins s σ H Q I h
 rw [eval_ListComp]
 refine wpAny_comprehension_free (use := none) rfl hs S.clos S.kind S.names (thn (hi pins s σ H _ I h) fun v s1 h1 => thn h1 fun itv s2 h2 => ?_)
 obtain ⟨it, fp, tn, J, H2, e, I2, T, st2, f2, h⟩ := h2
 subst e
 refine Qfq (RR := fun acc C => compPost (model X.prog X.w) X.A X.xe none (EP X pins σ Q) acc C) hc S ht he I2 T st2 f2 h fun D C s4 ys H3 oC m I4 hnC fC hD fin => ?_
 have hoC := (I4.pin (C, oC) (Qku _ (Qku _ Qkv))).1
 refine ⟨m, hnC _ hoC, fun h' hs' => ?_⟩
 exact ⟨.ref D, _, I4.unpinned.turned (t' := s4.toks) (it := C) (fun b o hb q => (hs'.2 b hb).trans q) fC.1 fC.2.1 fC.2.2.2.1 fC.2.2.2.2.1 fC.2.2.2.2.2, rfl, fin D hD⟩
theorem Qhy {wi : TI} {i : Nat} {y : Str} {py spos : Pos} (hN : X.N.Nodup) (hy : X.N[i]? = some y) (hL : X.env.scope.names.lookup y = some .local) (hc : X.calm = true) (hi : PI X (.Name x px) iter wi) (S : CompSc X scope x cl N cap)
  (ht : ∀ C s H ex, PTs (QaC X scope cl C N s H ex) ifs tt) (he : ∀ C s H ex, PE (QaC X scope cl C N s H ex) elt te)
  (hsw : swapsWith (.ListComp elt [⟨.Name x px, iter, ifs, 0⟩] scope pos) (some (.Name y py)) spos.line X.env = pure true := by rfl)
  (hs : ∀ z, foldedSetIterable iter X.env z = pure z := by intro _; rfl) : PS X (.Assign [.Name y py] (.ListComp elt [⟨.Name x px, iter, ifs, 0⟩] scope pos) spos) (tAsg (tComp wi cap tt te) (QdH i)) := by
 intro pins s σ H D I h
 rw [exec_Assign_Name_used _ _ _ _ hsw]
 refine wpAny_bind (wpAny_standAt (wpAny_bind ?_))
 show wpAny _ X.A (do let _ <-comprehension (.ListComp elt [⟨.Name x px, iter, ifs, 0⟩] scope pos) scope X.env _ (newList []) false (eval iter X.env) (some (assign (.Name y py) X.env))) _ _ s
 refine wpAny_bind (wpAny_mono (wpAny_comprehension_free (use := some (assign (.Name y py) X.env)) (Q := fun _ s' => SP X pins D .next s') rfl hs S.clos S.kind S.names
  (thn (hi pins s σ H _ I h) fun v s1 h1 => thn h1 fun itv s2 h2 => ?_)) (fun _ s' hq => wpAny_pure (wpAny_pure hq)) fun _ _ e => e)
 obtain ⟨it, fp, tn, J, H2, e, I2, T, st2, f2, h⟩ := h2
 subst e
 refine Qfq (RR := fun acc C => compPost (model X.prog X.w) X.A X.xe (some (assign (.Name y py) X.env)) (fun _ s' => SP X pins D .next s') acc C) hc S ht he I2 T st2 f2 h fun d C s4 ys H3 oC m I4 hnC fC hD fin => ?_
 show wpAny _ X.A (assign (.Name y py) X.env (.ref d)) _ _ s4
 refine wpAny_assign_Name (Qeb (v := .ref d) I4 hN hy (.inl hL) rfl (fun s5 I5 => ?_) (.inr hL))
 have hoC := (I5.pin (C, oC) (Qku _ (Qku _ Qkv))).1
 refine ⟨m, hnC _ hoC, fun h' hs' => ?_⟩
 exact ⟨σ.set i (some (.ref d)), _, I5.unpinned.turned (t' := s5.toks) (it := C) (fun b o hb q => (hs'.2 b hb).trans q) fC.1 fC.2.1 fC.2.2.2.1 fC.2.2.2.2.1 fC.2.2.2.2.2, fin d hD⟩
end
end L2
namespace L2
open PySem PySem.Spec PyProof.Rows
def EqT (K : PySem.W.Frag) (H : Hp) : Nat->V->V->Bool->Prop
 | 0, x, y, b => Qck x = true/\Qck y = true/\b = eqV x y
 | n + 1, x, y, b => (Qck x = true/\Qck y = true/\b = eqV x y) ∨
   ∃ (p q : Addr) (xs ys : List V) (e : Nat->Bool), x = .ref p/\y = .ref q/\SqT K H p xs/\SqT K H q ys/\(∀ (j : Nat) x y, xs[j]? = some x->ys[j]? = some y->EqT K H n x y (e j)) /\
    b = ((List.range (min xs.length ys.length)).all e && xs.length == ys.length)
theorem Qev {x : V} (h : Qck x = true) : eqV x x = true := by
 cases x with
 | non => rfl
 | bl b => simp [eqV]
 | int i => simp [eqV]
 | str z => simp [eqV]
 | _ => exact absurd (show false = true from h) Qkr
theorem Vals.at {xs : List V} {us : List Value} (r : Vals xs us) {j : Nat} (h : j < us.length) : ∃ x, xs[j]? = some x/\RelV x us[j] := by
 have hl := r.length
 have hj : j < xs.length := by omega
 obtain ⟨u, hu, ru⟩ := r.get (i := j) (x := xs[j]) (Qks hj)
 have e : us[j] = u := by
  have := Qks h
  rw [this] at hu
  exact Option.some.inj hu
 exact ⟨_, Qks hj, by rw [e]; exact ru⟩
section
variable {X : Cx} {pins : List (Addr × Obj)} {σ : St} {H : Hp} {s : Shared}
theorem Qha (I : Inv X pins σ H s) : ∀ (n : Nat) (x : V) (b : Bool), EqT X.K H n x x b->b = true
 | 0, x, b, h => by
  obtain ⟨f, _, e⟩ := h
  rw [e]; exact Qev f
 | n + 1, x, b, h => by
  rcases h with ⟨f, _, e⟩ | ⟨p, q, xs, ys, e, e1, e2, hp, hq, hs, eb⟩
  ·rw [e]; exact Qev f
  ·rw [e1] at e2
   cases e2
   have exy := I.tuple_inj hp hq
   subst exy
   rw [eb]
   simp only [Nat.min_self, beq_self_eq_true, Bool.and_true, List.all_eq_true, List.mem_range]
   intro j hj
   exact Qha I n _ _ (hs j xs[j] xs[j] (by simp [hj]) (by simp [hj]))
theorem QjL (I : Inv X pins σ H s) : ∀ (n : Nat) (x y : V) (b : Bool) (u v : Value) (A : Around), EqT X.K H n x y b->RelV x u->RelV y v->A.units + n < cLine->SeqAt.EqAt A s u v b
 | 0, x, y, b, u, v, A, h, ru, rv, hA => by
  obtain ⟨f, g, e⟩ := h
  rw [e]; exact QjN ru rv f g
 | n + 1, x, y, b, u, v, A, h, ru, rv, hA => by
  rcases h with ⟨f, g, e⟩ | ⟨p, q, xs, ys, e, e1, e2, hp, hq, hs, eb⟩
  ·rw [e]; exact QjN ru rv f g
  ·subst e1 e2
   cases ru
   cases rv
   by_cases hpq : p = q
   ·subst hpq
    have hb : b = true := Qha I (n + 1) (.ref p) b (.inr ⟨p, p, xs, ys, e, rfl, rfl, hp, hq, hs, eb⟩)
    rw [hb]
    exact SeqAt.EqAt.same _
   ·obtain ⟨its, r1, t1, _⟩ := I.tuple hp
    obtain ⟨its2, r2, t2, _⟩ := I.tuple hq
    have l1 : xs.length = its.toArray.size := by rw [Qkx]; exact r1.length
    have l2 : ys.length = its2.toArray.size := by rw [Qkx]; exact r2.length
    rw [eb, l1, l2]
    refine SeqAt.EqAt.of_refs hpq (SeqAt.RcAt.tuples (e := e) (show s.heap.IsTuple p its.toArray from t1) (show s.heap.IsTuple q its2.toArray from t2) (by omega) fun j h1 h2 => ?_)
    have h1' : j < its.length := by simpa using h1
    have h2' : j < its2.length := by simpa using h2
    obtain ⟨x', ex, rx⟩ := r1.at h1'
    obtain ⟨y', ey, ry⟩ := r2.at h2'
    have q1 : its.toArray[j] = its[j] := by simp
    have q2 : its2.toArray[j] = its2[j] := by simp
    rw [q1, q2]
    exact QjL I n x' y' (e j) _ _ A.in1 (hs j x' y' ex ey) rx ry (by show A.units + 1 + n < cLine; omega)
end
section
variable {X : Cx}
end
def RcLt (A : Around) (s : Shared) (u v : Value) (b : Bool) : Prop := ∀ (prog : Program) (w : World) (E : Value->Shared->Prop) (Q : Value->Shared->Prop), Q (.bool b) s->wpAny (model prog w) A (richCompare .Lt u v) Q E s
inductive LtRun (A : Around) (s : Shared) : List Value->List Value->Bool->Prop
 | nn : LtRun A s [] [] false
 | nc {y : Value} {ys : List Value} : LtRun A s [] (y :: ys) true
 | cn {x : Value} {xs : List Value} : LtRun A s (x :: xs) [] false
 | eq {x y : Value} {xs ys : List Value} {r : Bool} : SeqAt.EqAt A s x y true->LtRun A s xs ys r->LtRun A s (x :: xs) (y :: ys) r
 | ne {x y : Value} {xs ys : List Value} {r : Bool} : SeqAt.EqAt A s x y false->RcLt A s x y r->LtRun A s (x :: xs) (y :: ys) r
section
open PySem.SeqAt
open PySem.AutoSeq1 (wpAny_loadPart')
open PySem.MeetsSeq PySem.MeetsSeq2 PySem.MeetsSeq3
theorem QeG (l b : Addr) (items items2 : Array Value) (n n2 : Nat) (dd dd2 : Option Addr) (sl sl2 : Array (Option Value)) :
  Meets (Builtin.«tuple.__lt__» ⟨[.ref l, .ref b], []⟩)
   (fun A R s => s.heap.get? l = some { cls := .type "tuple", dict := dd, data := .seq items n, slots := sl }/\s.heap.get? b = some { cls := .type "tuple", dict := dd2, data := .seq items2 n2, slots := sl2 } /\
    ∃ r, LtRun A.in1 s items.toList items2.toList r/\R (.ok (.ret (.bool r))) s) :=
 .of_wp fun prog w A R s h => by
  obtain ⟨hp, g, d, tk, os⟩ := s; obtain ⟨hl, hb, r, hrun, h⟩ := h
  have f2 := AutoSeq1.sub_tuple_tuple
  wp_walk using wpAny_loadPart' hl, wpAny_loadPart' hb, wpAny_forIn_list _ (fun rest b s' => b.1 = none/\s' = ⟨hp, g, d, tk, os⟩/\∃ (vs ws : List Value) (r' : Bool), rest = vs.zip ws /\
   LtRun A.in1 ⟨hp, g, d, tk, os⟩ vs ws r'/\vs.length + items2.size = ws.length + items.size/\R (.ok (.ret (.bool r'))) ⟨hp, g, d, tk, os⟩) _
  case turn =>
   rintro ⟨y, x⟩ rest b s' ⟨hb', rfl, vs, ws, r', hz, hrun, hlen, hR⟩
   cases hrun with
   | nn => rw [List.zip_nil_left] at hz; cases hz
   | nc => rw [List.zip_nil_left] at hz; cases hz
   | cn => rw [List.zip_nil_right] at hz; cases hz
   | eq he hr =>
    rw [List.zip_cons_cons] at hz
    injection hz with hyx hrest
    injection hyx with hy hx
    subst hy hx
    simp only [QkH] at hlen
    refine wpAny_bind (he prog w _ _ ?_)
    wp_walk
    exact ⟨rfl, rfl, _, _, _, hrest, hr, by omega, hR⟩
   | ne he hr =>
    rw [List.zip_cons_cons] at hz
    injection hz with hyx hrest
    injection hyx with hy hx
    subst hy hx
    refine wpAny_bind (he prog w _ _ ?_)
    have hri := hr prog w
    wp_walk using hri
    exact ⟨_, rfl, by simpa using hR⟩
  case fin =>
   rintro ⟨b1, b2⟩ s' ⟨hb', rfl, vs, ws, r', hz, hrun, hlen, hR⟩
   simp only at hb'
   subst hb'
   have hv : r' = decide (items.size < items2.size) := by
    cases hrun with
    | nn =>
     simp only [List.length_nil] at hlen
     exact (decide_eq_false (by omega)).symm
    | nc =>
     simp only [List.length_nil, QkH] at hlen
     exact (decide_eq_true (by omega)).symm
    | cn =>
     simp only [List.length_nil, QkH] at hlen
     exact (decide_eq_false (by omega)).symm
    | eq he hr => rw [List.zip_cons_cons] at hz; cases hz
    | ne he hr => rw [List.zip_cons_cons] at hz; cases hz
   rw [hv] at hR
   wp_walk
   exact ⟨_, rfl, by simpa [Builtin.Tuple.tupleCompareSizes] using hR⟩
  case h =>
   exact ⟨rfl, rfl, items.toList, items2.toList, r, rfl, hrun, by simp; omega, h⟩
end
theorem QiX {prog : Program} {w : World} {A : Around} {E : Value->Shared->Prop} {s : Shared} {l b : Addr} {items items2 : Array Value} {r : Bool} {Q : Value->Shared->Prop} (hl : IsTup s.heap l items) (hb : IsTup s.heap b items2)
  (hr : LtRun A.in1 s items.toList items2.toList r) (hu : A.units < cLine) (h : Q (.bool r) s) : wpAny (model prog w) A (richCompare .Lt (.ref l) (.ref b)) Q E s := by
 obtain ⟨⟨cls, dd, data, sl⟩, ho, hc, n, hd⟩ := id hl
 obtain ⟨⟨cls2, dd2, data2, sl2⟩, ho2, hc2, n2, hd2⟩ := id hb
 simp only at hc hd hc2 hd2
 subst hc hd hc2 hd2
 exact richCompare_meets_room (op := .Lt) ⟨_, ho, rfl⟩ ⟨_, ho2, rfl⟩ PySem.F.slot_tuple_lt PySem.F.entry_tuple_lt (PySem.F.args_tuple_lt_2 _ _) (QeG l b items items2 n n2 dd dd2 sl sl2)
  ⟨ho, ho2, r, hr, show Value.bool r ≠ Value.notImplemented/\Q (.bool r) s from ⟨(fun x => nomatch x), h⟩⟩ hu
inductive LtR (E L : V->V->Bool->Prop) : List V->List V->Bool->Prop
 | nn : LtR E L [] [] false
 | nc {y : V} {ys : List V} : LtR E L [] (y :: ys) true
 | cn {x : V} {xs : List V} : LtR E L (x :: xs) [] false
 | eq {x y : V} {xs ys : List V} {r : Bool} : E x y true->LtR E L xs ys r->LtR E L (x :: xs) (y :: ys) r
 | ne {x y : V} {xs ys : List V} {r : Bool} : E x y false->L x y r->LtR E L (x :: xs) (y :: ys) r
def ltFlat (x y : V) (b : Bool) : Prop := (∃ i j, x = .int i/\y = .int j/\b = decide (i < j))\/(∃ i j, x = .str i/\y = .str j/\b = decide (i.cps.toList < j.cps.toList))
section
variable {X : Cx} {pins : List (Addr × Obj)} {σ : St} {H : Hp} {s : Shared}
theorem QiZ {A : Around} {x y : V} {b : Bool} {u v : Value} (h : ltFlat x y b) (ru : RelV x u) (rv : RelV y v) : RcLt A s u v b := by
 intro prog w E Q hq
 rcases h with ⟨i, j, rfl, rfl, rfl⟩ | ⟨i, j, rfl, rfl, rfl⟩
 ·obtain ⟨t, rfl⟩ := ru
  obtain ⟨t', rfl⟩ := rv
  exact HT.rcLt_int A s i t j t' prog w E Q hq
 ·obtain ⟨t, rfl⟩ := ru
  obtain ⟨t', rfl⟩ := rv
  exact (lt_str hq : wpAny (model prog w) A (compareOp .Lt (.str i t) (.str j t')) Q E s)
theorem Qep {A : Around} {E L : V->V->Bool->Prop} (hE : ∀ x y b u v, E x y b->RelV x u->RelV y v->SeqAt.EqAt A s u v b) (hL : ∀ x y b u v, L x y b->RelV x u->RelV y v->RcLt A s u v b) :
  ∀ {xs ys : List V} {r : Bool}, LtR E L xs ys r->∀ {us vs : List Value}, Vals xs us->Vals ys vs->LtRun A s us vs r
 | _, _, _, .nn, _, _, .nil, .nil => .nn
 | _, _, _, .nc, _, _, .nil, .cons _ _ => .nc
 | _, _, _, .cn, _, _, .cons _ _, .nil => .cn
 | _, _, _, .eq e h, _, _, .cons r t, .cons r' t' => .eq (hE _ _ _ _ _ e r r') (Qep hE hL h t t')
 | _, _, _, .ne e l, _, _, .cons r _, .cons r' _ => .ne (hE _ _ _ _ _ e r r') (hL _ _ _ _ _ l r r')
end
end L2
namespace L2
open PySem PySem.Spec PyProof.Rows
theorem obj_some {P : Program} {w : World} {H : Hp} {h : Heap} {a : Addr} {o : HO} (x : QaT P w H h a o) : ∃ ob, h.get? a = some ob := by
 cases o with
 | lst xs => obtain ⟨_, _, _, _, e⟩ := x; exact ⟨_, e⟩
 | tup xs => obtain ⟨_, _, _, o, e, _⟩ := x; exact ⟨_, e⟩
 | dK kvs => obtain ⟨_, _, _, _, o, _, _, e, _⟩ := x; exact ⟨_, e⟩
 | dT kvs => obtain ⟨_, _, _, _, o, _, _, e, _⟩ := x; exact ⟨_, e⟩
 | set S n => obtain ⟨o, _, _, _, e, _⟩ := x; exact ⟨_, e⟩
 | ins C dx fs => obtain ⟨_, _, _, e, _⟩ := x; exact ⟨_, e⟩
 | own y => exact x
 | xd fs => obtain ⟨_, ⟨_, _, _, e, _⟩, _⟩ := x; exact ⟨_, e⟩
 | rng lo hi => obtain ⟨_, _, _, e⟩ := x; exact ⟨_, e⟩
 | frz ob u => obtain ⟨e, _⟩ := x; exact ⟨_, e⟩
 | tbl ps => exact ⟨_, (show h.get? a = some _ from x)⟩
 | met f y => exact ⟨_, (show h.get? a = some _ from x)⟩
 | ext φ => obtain ⟨_, ⟨_, e⟩, _⟩ := x; exact ⟨_, e⟩
section
variable {X : Cx} {pins : List (Addr × Obj)} {σ : St} {H : Hp} {s : Shared} {h' : Heap}
theorem ns_inj {h : Heap} {a : Addr} {m m' : Str->Option Value} (x : h.Ns a m) (y : h.Ns a m') : m = m' := by
 obtain ⟨o, es, ep, e, d, _, f⟩ := x
 obtain ⟨o', es', ep', e', d', _, f'⟩ := y
 rw [e] at e'; cases e'
 rw [d] at d'; cases d'
 funext n
 rw [<-f n, <-f' n]
structure Young (X : Cx) (pins : List (Addr × Obj)) (d : Addr) : Prop where
 nL : d ≠ X.env.locals
 nf : d ∉ X.fs
 s0 : ∀ o, X.s₀.heap.get? d = some o->d ∈ X.ex
 nc : ∀ x c, X.env.cells.lookup x = some c->c ≠ d
 np : ∀ p ∈ X.pn ++ pins, p.1 ≠ d
 nb : X.base.get? d = none
theorem young_of (I : Inv X pins σ H s) {d : Addr} (hs : s.heap.get? d = none) (hL : d ≠ X.env.locals) (hb : X.base.get? d = none) : Young X pins d/\H d = none := by
 refine ⟨⟨hL, fun z => ?_, fun o e => ?_, fun x c e z => ?_, fun p hp z => ?_, hb⟩, ?_⟩
 ·obtain ⟨_, o, ho, _⟩ := I.funs.mem z
  rw [hs] at ho; cases ho
 ·by_cases hx : d ∈ X.ex
  ·exact hx
  ·obtain ⟨o', e'⟩ := I.base.there d o e hx
   rw [hs] at e'; cases e'
 ·obtain ⟨v, o, ho, _⟩ := I.cell x c e
  rw [z, hs] at ho; cases ho
 ·have := (I.pin p hp).1
  rw [z, hs] at this; cases this
 ·cases q : H d with
  | none => rfl
  | some u =>
   have y := I.hok d u q
   obtain ⟨ob, e⟩ := obj_some y
   rw [hs] at e; cases e
theorem Inv.led {t' : Nat} {d : Addr} (I : Inv X pins σ H s) (y : Young X pins d) (hn : H d = none) (k : ∀ b o, b ≠ X.env.locals->b ≠ d->s.heap.get? b = some o->h'.get? b = some o) (ns : ∀ m, s.heap.Ns X.env.locals m->h'.Ns X.env.locals m) :
  Inv X pins σ H { s with heap := h', toks := t' } := by
 have neL : ∀ b o, X.s₀.heap.get? b = some o->b ≠ X.env.locals := fun b o e => QkF (QkC (Qkw e) I.ok.above)
 have neD : ∀ b o, X.s₀.heap.get? b = some o->b ∉ X.ex->b ≠ d := fun b o e hx z => hx (z ▸ y.s0 o (z ▸ e))
 have nit : ∀ b u, H b = some u->b ≠ d := fun b u e z => by rw [z, hn] at e; cases e
 have niL : ∀ b u, H b = some u->b ≠ X.env.locals := fun b u e z => by rw [z, I.free] at e; cases e
 have cellK : ∀ x c, X.env.cells.lookup x = some c->∀ v, s.heap.IsCell c v->h'.IsCell c v := fun x c e v ⟨o, ho, hd⟩ => ⟨o, k c o (I.cne x c e) (y.nc x c e) ho, hd⟩
 have okL : ∃ o, h'.get? X.env.locals = some o := by
  obtain ⟨m, hm, _⟩ := I.loc
  obtain ⟨o, _, _, e, _⟩ := ns m hm
  exact ⟨o, e⟩
 refine ⟨I.ok, I.os, I.bare, ⟨fun b o e n hb hx => ?_, fun b o e n hb hx => ?_, I.base.free, fun b o e hx => ?_, I.base.tups, I.base.frzs, I.base.tbls⟩, ?_, fun x c e => ?_, I.free, I.freeC, fun p hp => ?_, fun a u e => ?_, I.len⟩
 ·exact k b o (neL b o e) (neD b o e hx) (I.base.keep b o e n hb hx)
 ·obtain ⟨sl, e1⟩ := I.base.slot b o e n hb hx
  exact ⟨sl, k b _ (neL b o e) (neD b o e hx) e1⟩
 ·obtain ⟨o', e1⟩ := I.base.there b o e hx
  exact ⟨o', k b _ (neL b o e) (neD b o e hx) e1⟩
 ·obtain ⟨m, hm, hl⟩ := I.loc
  refine ⟨m, ns m hm, fun i x v e1 e2 e3 => ?_⟩
  obtain ⟨u, r, l⟩ := hl i x v e1 e2 e3
  refine ⟨u, r, ?_⟩
  rcases l with l | ⟨kk, c, e, z⟩
  ·exact .inl l
  ·exact .inr ⟨kk, c, e, cellK x c e _ z⟩
 ·obtain ⟨v, z⟩ := I.cell x c e
  exact ⟨v, cellK x c e v z⟩
 ·obtain ⟨e, n, ne, nf, dd⟩ := I.pin p hp
  exact ⟨k p.1 p.2 ne (y.np p hp) e, n, ne, nf, dd⟩
 ·refine (I.hok a u e).stay (fun c v hc q => k c v ?_ ?_ q) (fun _ q => q) fun _ _ q => q
  ·rcases hc with z | z
   ·rw [z]; exact niL a u e
   ·exact niL c _ z
  ·rcases hc with z | z
   ·rw [z]; exact nit a u e
   ·exact nit c _ z
theorem Inv.track {d : Addr} {o : HO} (I : Inv X pins σ H s) (y : Young X pins d) (hn : H d = none) (new : QaT X.prog X.w (upd H d o) s.heap d o) : Inv X pins σ (upd H d o) s := by
 refine ⟨I.ok, I.os, I.bare, ⟨I.base.keep, I.base.slot, fun b ob e n hx => ?_, I.base.there, fun b xs e => ?_, fun b ob v e => ?_, fun b ps e => ?_⟩, I.loc, I.cell, ?_, fun x c e => ?_, fun p hp => ?_, HOk.track I.hok hn new, I.len⟩
 ·rw [Qaj (fun z => by subst z; exact hx (y.s0 ob e))]
  exact I.base.free b ob e n hx
 ·have q := I.base.tups b xs e
  rw [Qaj (Qal q hn)]; exact q
 ·have q := I.base.frzs b ob v e
  rw [Qaj (Qal q hn)]; exact q
 ·obtain ⟨more, q⟩ := I.base.tbls b ps e
  exact ⟨more, by rw [Qaj (Qal q hn)]; exact q⟩
 ·rw [Qaj (Ne.symm y.nL)]; exact I.free
 ·rw [Qaj (y.nc x c e)]; exact I.freeC x c e
 ·obtain ⟨e, n, r⟩ := I.pin p hp
  exact ⟨e, by rw [Qaj (y.np p hp)]; exact n, r⟩
theorem Inv.pin1 {d : Addr} {o : Obj} (I : Inv X pins σ H s) (y : Young X pins d) (hn : H d = none) (e : s.heap.get? d = some o) (hd : ∀ v, o.data ≠ .cell v) : Inv X (pins ++ [(d, o)]) σ H s := I.pins_of fun p hp => by
 rcases List.mem_append.mp hp with hp | hp
 ·exact I.pin p (Qku _ hp)
 ·have e1 : p = (d, o) := by simpa using hp
  subst e1
  exact ⟨e, hn, y.nL, y.nf, hd⟩
end
section
variable {X : Cx} {k : Nat} {f : Addr} {fd : FuncData} {pn : Str} {sp : Sp}
abbrev sqO (vs : List Value) (n : Nat) : Obj := seqObj "list" (List.toArray vs) n
theorem Qig (vs : List Value) (n : Nat) : ∀ v, (sqO vs n).data ≠ .cell v := fun v z => by cases (show Data.seq (List.toArray vs) n = Data.cell v from z)
theorem b_sorted : bootBuiltins "sorted" = some (.builtin "sorted") := by decide +kernel
end
end L2
namespace L2
open PySem PySem.Spec PyProof.Rows
def Lies (B : Heap) (l : List Env) (L e : Addr) (cls : Value) (h : Heap) : Prop :=
 B.StaysIn h/\B.get? e = none/\h.FunFrames B l /\
  ((∃ oe vs a0, h.get? e = some oe/\oe.cls = cls/\oe.data = .fields vs/\vs[0]? = some a0/\vs[1]? = some Value.none)\/(∃ a0, h.TracedW B e cls a0)\/∃ a0, h.TracedAtW B e cls a0 (rawInt L))
section
variable {M : Model} {A : Around} {E : Value->Shared->Prop} {s : Shared} {B : Heap} {env : Env} {outer : List Env} {L e : Addr} {cls : Value}
end
structure OwnFr (X : Cx) : Prop where
 stk : X.stack = X.env :: X.outer
 fr : X.env.frame = some X.env.locals
 ex : X.ex = []
def ExcIn (X : Cx) (H : Hp) (e : Addr) (cls : Value) (s' : Shared) : Prop :=
 ∃ pins σ sg B, Inv X pins σ H sg/\s'.os = sg.os/\AllBare s'.gens/\(∀ b o, sg.heap.get? b = some o->b ∉ frs X.stack->B.get? b = some o)/\sg.heap.UpToSlots s'.heap/\Lies B X.stack X.env.locals e cls s'.heap
def CXD (P : Program) (w : World) : CXT := fun outer H s E e s' => ∃ ea cls H' g B a0, e = .ref ea/\s'.os = s.os/\AllBare s'.gens/\Un (frs outer) [] H H' s.heap g/\HOk P w H' g /\
 (∀ b o, g.get? b = some o->b ∉ frs outer->B.get? b = some o)/\g.UpToSlots s'.heap/\Heap.FlyingW B outer ea cls a0 s'.heap/\E cls none H'
section
variable {X : Cx} {H : Hp} {e : Addr} {cls : Value} {s' : Shared}
end
section
variable {X : Cx} {pins : List (Addr × Obj)} {σ : St} {H : Hp} {e : Addr} {cls : Value} {s s' : Shared}
end
end L2
namespace L2
open PySem PySem.Spec PyProof.Rows
structure ExCls (K : PySem.W.Frag) (x : Str) (C : Addr) : Prop where
 ns : PySem.W.nsIn K mainGlobals x = some (some (.ref C))
 ok : ∃ B newId initId bmB, PySem.W.excIn K C bmB newId = true/\ExcBaseFacts B newId initId bmB
section
variable {X : Cx} {x : Str} {C : Addr} {np cpos pos : Pos} {e : Expr} {es : List Expr} {t : TA}
end
structure RoomB (b : Bool) (k : Nat) (A : Around) : Prop where
 hd : b = true->A.handled = none
 dp : A.depth + 3 * k + 5 < recursionLimit
 un : A.units + 16 * k + 200 < cLine
theorem RoomB.mono {b : Bool} {j k : Nat} {A : Around} (r : RoomB b k A) (h : j<=k) : RoomB b j A := ⟨r.hd, by have := r.dp; omega, by have := r.un; omega⟩
structure FnX (b : Bool) (P : Program) (w : World) (K : PySem.W.Frag) (mg : Str->Option Value) (base : Heap) (k : Nat) (f : Addr) (fd : FuncData) (ps : List Str) (sp : Sp) : Prop where
 len : ∀ vs H Q E, sp vs H Q E->vs.length = ps.length
 run : ∀ (A : Around) (outer : List Env) (s : Shared) (H : Hp) (args : Args) (us : List Value) (vs : List V) (Q : VK) (E : XK), RoomB b k A->Env0 P w K mg base A outer s H->BindsTo s fd args (ps.zip us)->Vals vs us->sp vs H Q E ->
  codeAny (model P w) A (.call (.ref f) args) (CR (CXD P w) outer P w H s Q E) s
theorem FnX.mono {b : Bool} {P : Program} {w : World} {K : PySem.W.Frag} {mg : Str->Option Value} {base : Heap} {j k : Nat} {f : Addr} {fd : FuncData} {ps : List Str} {sp : Sp} (F : FnX b P w K mg base j f fd ps sp) (h : j<=k) :
  FnX b P w K mg base k f fd ps sp := ⟨F.len, fun A outer s H args us vs Q E hr => F.run A outer s H args us vs Q E (hr.mono h)⟩
section
variable {X : Cx} {b : Bool} {k : Nat} {f : Addr} {fd : FuncData} {ps : List Str} {sp : Sp} {x : Str} {p pos : Pos} {e : Expr} {es : List Expr} {t : TA} {E : XK}
end
end L2
namespace L2
open PySem PySem.Spec PyProof.Rows
section
variable {X : Cx} {pins : List (Addr × Obj)} {σ : St} {H : Hp} {s : Shared}
def exPh (a : Addr) (cls : Value) : Heap->Prop := fun h => ∃ o, h.get? a = some o/\o.cls = cls/\∃ vs, o.data = .fields vs
end
section
variable {X : Cx} {body suite : List Stmt} {b₀ : Stmt} {x n : Str} {np hpos pos : Pos} {i : Nat} {c : Value} {tb : List (Addr × Obj)->(Value->Hp->Prop)->TS} {ts : TS}
end
end L2
namespace L2
open PySem PySem.Spec PyProof.Rows PySem.W PySem.Builtin PySem.Builtin.ObjectAttr PySem.Builtin.Getset_descriptor
structure ExAt (K : PySem.W.Frag) (C : Addr) : Prop where
 ga : findIn K (.ref C) "__getattribute__" = some (some (.builtin "BaseException.__getattribute__"))
 gh : findIn K (.ref C) "__getattr__" = some none
 sb : subIn K (.ref C) (.type "BaseException") = some true
 ca : findIn K (.ref C) "__class__" = some (some (.builtin "object.__class__"))
 cg : specialIn K (.builtin "object.__class__") "__get__" = some (some (.builtin "getset_descriptor.__get__"))
 ct : takesIn K (.builtin "object.__class__") = some true
 cm : mroIn K C (.type "object") = some true
 cl : (clsIn K C).isSome = true
section
variable {prog : Program} {w : World} {A : Around} {E : Value->Shared->Prop} {s : Shared} {K : PySem.W.Frag} {e C : Addr}
end
end L2
namespace L2
open PySem PySem.Spec PyProof.Rows
section
variable {prog : Program} {w : World} {A : Around} {E : Value->Shared->Prop} {s : Shared}
end
end L2
namespace L2
open PySem PySem.Spec PyProof.Rows
section
variable {prog : Program} {w : World} {A : Around} {E : Value->Shared->Prop} {s : Shared}
end
section
variable {X : Cx} {pins : List (Addr × Obj)} {σ : List (Option V)} {H H' : Hp} {s : Shared} {h' : Heap}
end
end L2
namespace L2
open PySem PySem.Spec PyProof.Rows
section
variable {prog : Program} {w : World} {A : Around} {E : Value->Shared->Prop} {s : Shared}
end
section
variable {X : Cx} {pins : List (Addr × Obj)} {σ : List (Option V)} {H H' : Hp} {s : Shared} {h' : Heap}
end
end L2
namespace L2
open PySem PySem.Spec PyProof.Rows
section
variable {X : Cx} {pins : List (Addr × Obj)} {σ : St} {H : Hp} {s : Shared} {scope : Scope} {x y : Str} {cl : List (Str × Addr)} {N : List Str} {cap : List Nat} {C : Addr} {fp : List Addr}
end
section
variable {X : Cx} {pins : List (Addr × Obj)} {σ : St} {scope : Scope} {x y : Str} {px py pos tp : Pos} {tk : Nat} {cl : List (Str × Addr)} {N : List Str} {cap : List Nat} {elt iter : Expr} {te : TE} {E : Value->Shared->Prop}
end
end L2
namespace L2
open PySem PySem.Spec PyProof.Rows
section
variable {prog : Program} {w : World} {A : Around} {s : Shared} {env : Env} {R : Result->Shared->Prop}
end
section
variable {X : Cx} {pins : List (Addr × Obj)} {σ : St} {scope : Scope} {x y : Str} {px py pos tp : Pos} {tk : Nat} {cl : List (Str × Addr)} {N : List Str} {cap : List Nat} {elt iter : Expr} {ifs : List Expr} {tt : TT} {te : TE} {E : Value->Shared->Prop}
end
end L2
namespace L2
open PySem PySem.Spec PyProof.Rows
def RawD (h : Heap) (d : Addr) (es : Array DictEntry) (ep : Nat) : Prop := ∃ o, h.get? d = some o/\o.ExactDict/\o.data = .dict es ep
section
variable {prog : Program} {w : World} {A : Around} {E : Value->Shared->Prop} {s : Shared} {d it : Addr} {es : Array DictEntry} {ep i : Nat}
theorem RawD.type (r : RawD s.heap d es ep) : s.TypeIs (.ref d) "dict" := let ⟨o, h1, h2, _⟩ := r; ⟨o, h1, h2.1⟩
theorem RawD.at {h h' : Heap} (r : RawD h d es ep) (k : ∀ o, h.get? d = some o->h'.get? d = some o) : RawD h' d es ep := let ⟨o, h1, h2, h3⟩ := r; ⟨o, k o h1, h2, h3⟩
theorem iter_raw {Q : Value->Shared->Prop} (lo : (d == sysModules) = false) (r : RawD s.heap d es ep)
  (hQ : Q (.ref s.heap.objs.size) { s with heap := s.heap.push { cls := .type "dict_keyiterator", data := .fields #[.ref d, .int 0 0, .int es.size 0, .int ep 0] } }) : wpAny (model prog w) A (pyIter (.ref d)) Q E s := by
 have ty := r.type
 obtain ⟨o, g1, g2, g3⟩ := id r
 refine wpAny_pyIter_slot ty F.slot_dict_iter (wpAny_call_entry F.slot_dict_iter ty F.entry_dict_iter ?_ (F.args_dict_iter_1 _))
 unfold Builtin.«dict.__iter__»
 refine wpAny_bind ?_
 unfold Builtin.Dict.dictSlotNone
 refine wpAny_bind (wpAny_notOrdered_dict ty ?_)
 show wpAny _ _ (pure (Value.ref d)) _ _ s
 refine wpAny_pure ?_
 show wpAny _ _ (Builtin.Dict.showsAll d >>= _) _ _ s
 unfold Builtin.Dict.showsAll
 rw [if_neg (by rw [lo]; exact Qkr)]
 refine wpAny_bind (wpAny_pure (wpAny_bind (wpAny_dictEntries g1 g3 (wpAny_bind (wpAny_dictEpoch g1 g3 ?_)))))
 refine wpAny_bind (wpAny_newObj_type (wpAny_pure ⟨_, rfl, "dict_keyiterator", _, ⟨_, QkE _ rfl, rfl⟩, F.slot_dict_keyiterator_next.lookup, ?_⟩))
 simpa [rawInt] using hQ
theorem next_raw {Q : Option Value->Shared->Prop} (hit : s.heap.IsKeyIter it d i es.size ep) (r : RawD s.heap d es ep) (hlt : i < es.size)
  (hQ : ∀ h', h'.IsKeyIter it d (i + 1) es.size ep->Heap.SameBut it s.heap h'->Q (some es[i].key) { s with heap := h' }) : wpAny (model prog w) A (pyNext (.ref it)) Q E s := by
 obtain ⟨o, ho, hc, hd⟩ := id hit
 obtain ⟨od, g1, g2, g3⟩ := id r
 have ty := hit.typeIs
 unfold pyNext
 refine wpAny_bind (wpAny_attempt (wpAny_callSpecial?_slot (name := Str.ofString "__next__") ty F.slot_dict_keyiterator_next (wpAny_call_entry F.slot_dict_keyiterator_next ty F.entry_dict_keyiterator_next ?_ (F.args_dict_keyiterator_next_1 _))))
 refine wpAny_bind (wpAny_pure (wpAny_bind (wpAny_bind ?_)))
 first | refine wpAny_bind (wpAny_typeNameOfWhole_keyiter ty (wpAny_pure ?_)) | refine wpAny_bind (wpAny_typeNameOf_keyiter ty (wpAny_pure ?_))
 refine wpAny_bind (wpAny_fieldsOf ho hd ?_)
 simp only [show Builtin.Dict_items.ownsTuple "dict_keyiterator" = false by decide, Bool.false_eq_true, if_false]
 show wpAny _ _ (if (Value.ref d == Value.none) = true then _ else _) _ _ s
 rw [if_neg (show ¬ ((Value.ref d == Value.none) = true) from Qkr)]
 refine wpAny_bind (wpAny_pure (wpAny_bind (wpAny_dictEntries g1 g3 ?_)))
 rw [if_neg (by simp)]
 refine wpAny_bind (wpAny_pure (wpAny_bind (wpAny_dictEpoch g1 g3 ?_)))
 rw [if_neg (by simp)]
 refine wpAny_pure ?_
 simp only [show ¬ ((i : Int) < 0) from by omega, if_false, Int.toNat_natCast, Array.getElem?_eq_getElem hlt]
 refine wpAny_bind ?_
 first | refine wpAny_bind (wpAny_typeNameOfWhole_keyiter ty (wpAny_pure ?_)) | refine wpAny_bind (wpAny_typeNameOf_keyiter ty (wpAny_pure ?_))
 refine wpAny_bind (wpAny_isOneOf_keyiter ty ?_)
 show wpAny _ _ (setField (.ref it) 1 (rawInt ((i : Int) + 1)) >>= _) _ _ s
 refine wpAny_bind (wpAny_setField ho hd (by simp) ?_)
 have up : (s.heap.update it (Obj.mapFields (·.setIfInBounds 1 (rawInt ((i : Int) + 1))))).IsKeyIter it d (i + 1) es.size ep :=
  ⟨_, Heap.get?_update_self _ ho (Obj.isFreed_of_fields (Obj.data_mapFields hd _)), (Obj.cls_mapFields ..).trans hc, by rw [Obj.data_mapFields hd]; simp [rawInt]⟩
 refine wpAny_bind (wpAny_holding ?_)
 refine wpAny_bind (wpAny_isOneOf_keyiter (s := { s with heap := s.heap.update it (Obj.mapFields (·.setIfInBounds 1 (rawInt ((i : Int) + 1)))) }) up.typeIs ?_)
 show wpAny _ _ (pure es[i].key) _ _ _
 exact wpAny_pure (wpAny_pure ⟨_, rfl, wpAny_pure (hQ _ up (Heap.SameBut.update ..))⟩)
theorem end_raw {Q : Option Value->Shared->Prop} (hh : A.handled = none) (hit : s.heap.IsKeyIter it d i es.size ep) (r : RawD s.heap d es ep) (hge : es.size<=i)
  (hQ : ∀ h', Heap.ExtBut it s.heap h'->Q none { s with heap := h' }) : wpAny (model prog w) A (pyNext (.ref it)) Q E s := by
 obtain ⟨o, ho, hc, hd⟩ := id hit
 obtain ⟨od, g1, g2, g3⟩ := id r
 have ty := hit.typeIs
 unfold pyNext
 refine wpAny_bind (wpAny_attempt (wpAny_callSpecial?_slot (name := Str.ofString "__next__") ty F.slot_dict_keyiterator_next (wpAny_call_entry F.slot_dict_keyiterator_next ty F.entry_dict_keyiterator_next ?_ (F.args_dict_keyiterator_next_1 _))))
 refine wpAny_bind (wpAny_pure (wpAny_bind (wpAny_bind ?_)))
 first | refine wpAny_bind (wpAny_typeNameOfWhole_keyiter ty (wpAny_pure ?_)) | refine wpAny_bind (wpAny_typeNameOf_keyiter ty (wpAny_pure ?_))
 refine wpAny_bind (wpAny_fieldsOf ho hd ?_)
 simp only [show Builtin.Dict_items.ownsTuple "dict_keyiterator" = false by decide, Bool.false_eq_true, if_false]
 show wpAny _ _ (if (Value.ref d == Value.none) = true then _ else _) _ _ s
 rw [if_neg (show ¬ ((Value.ref d == Value.none) = true) from Qkr)]
 refine wpAny_bind (wpAny_pure (wpAny_bind (wpAny_dictEntries g1 g3 ?_)))
 rw [if_neg (by simp)]
 refine wpAny_bind (wpAny_pure (wpAny_bind (wpAny_dictEpoch g1 g3 ?_)))
 rw [if_neg (by simp)]
 refine wpAny_pure ?_
 simp only [show ¬ ((i : Int) < 0) from by omega, if_false, Int.toNat_natCast, Array.getElem?_eq_none hge]
 refine wpAny_bind ?_
 first | refine wpAny_bind (wpAny_typeNameOfWhole_keyiter ty (wpAny_pure ?_)) | refine wpAny_bind (wpAny_typeNameOf_keyiter ty (wpAny_pure ?_))
 show wpAny _ _ (setField (.ref it) 0 .none >>= _) _ _ s
 refine wpAny_bind (wpAny_setField ho hd (by simp) ?_)
 show wpAny _ _ (newExc (.type "StopIteration") [] >>= _) _ _ _
 refine wpAny_bind ?_
 simp only [newExc, newTuple]
 refine wpAny_bind (wpAny_newObj_type ?_ (by size_fits))
 refine wpAny_bind (m := firstArgMember _ _) (wpAny_of_eq (a := Value.none) (by first | (simp only [firstArgMember]; rfl) | rfl) ?_)
 refine wpAny_newObj_type ?_ (by size_fits)
 simp only [raiseNew]
 refine wpAny_bind (wpAny_handled ?_)
 rw [show A.in1.handled = none from hh]
 refine wpAny_bind (wpAny_pure (wpAny_throw ?_))
 refine wpAny_bind (wpAny_isInstance (T := "StopIteration") (b := true) ⟨_, QkE _ rfl, rfl⟩ isSubtype_stop (wpAny_pure (hQ _ (((Heap.SameBut.update ..).extBut.push _).push _))))
theorem QhY (hh : A.handled = none) (J d : Addr) (hne : d ≠ J) (es : Array DictEntry) (ep : Nat) :
  Walks prog w A J [J, d] [J] es.size (fun i v => ∃ e, es[i]? = some e/\v = e.key) (fun i h => h.IsKeyIter J d i es.size ep/\RawD h d es ep) where
 sub := fun b hb => by simp at hb; simp [hb]
 frame := fun _ _ _ st hk => ⟨st.1.at fun o e => hk J (by simp) o e, st.2.at fun o e => hk d (by simp) o e⟩
 item := fun i s Q E hi st hQ => next_raw st.1 st.2 hi fun h' up sb => hQ _ h' s.toks ⟨es[i], by simp [hi], rfl⟩ ⟨up, st.2.at fun o e => sb.extBut d o hne e⟩ fun b o hb e => sb.extBut b o (fun z => hb (by simp [z])) e
 done := fun s Q E st hQ => end_raw hh st.1 st.2 (Qky _) fun h' eb => hQ h' s.toks fun b o hb e => eb b o (fun z => hb (by simp [z])) e
 self := fun _ _ _ _ st hQ => wpAny_pyIter_keyiter st.1 hQ
theorem src_raw (lo : (d == sysModules) = false) : PySem.W.KdlSrc prog w "dict" d d es.size (fun i v => ∃ e, es[i]? = some e/\v = e.key) (fun h => RawD h d es ep) where
 type := fun _ r => r.type
 there := fun _ ⟨o, h1, _⟩ => ⟨Qkw h1, Qkw h1⟩
 keep := fun _ _ r hk => r.at fun o e => hk d (.inl rfl) o e
 notList := by decide
 notTuple := by decide
 hint := fun _ _ _ _ r hq => PySem.W.kdl_hint_dict r.type hq
 iter := fun _ _ hh r => ⟨_, _, (fun _ _ hq => iter_raw lo r hq), QhY hh _ d (let ⟨_, h1, _⟩ := r; QkF (Qkw h1)) es ep, ⟨⟨_, QkE _ rfl, rfl, rfl⟩, r.at fun o e => Qkt _ e⟩⟩
end
section
variable {X : Cx} {pins : List (Addr × Obj)} {σ : St} {H : Hp} {s : Shared} {a : Addr}
end
end L2
namespace L2
open PySem PySem.Spec PyProof.Rows
section
variable {prog : Program} {w : World} {A : Around} {R : Result->Shared->Prop} {J : Addr} {fp wr : List Addr} {n : Nat} {P : Nat->Value->Prop} {St : Nat->Heap->Prop} {kw : List (Str × Value)}
end
section
variable {prog : Program} {w : World} {A : Around} {E : Value->Shared->Prop} {s : Shared}
end
end L2
namespace L2
open PySem PySem.Spec PyProof.Rows
section
open PySem.W
def runT {α : Type} (lt : Nat->Nat->Bool) : KasT α->α
 | .ret a => a
 | .ask i j k => runT lt (k (lt i j))
def AskP {α : Type} (n : Nat) (P : α->Prop) : KasT α->Prop
 | .ret a => P a
 | .ask i j k => i < n/\j < n/\∀ b, AskP n P (k b)
theorem AskP.bind {α β : Type} {n : Nat} {P : α->Prop} {P' : β->Prop} {f : α->KasT β} (hf : ∀ a, P a->AskP n P' (f a)) : ∀ t : KasT α, AskP n P t->AskP n P' (t.bind f)
 | .ret a, h => hf a h
 | .ask _ _ k, h => ⟨h.1, h.2.1, fun b => AskP.bind hf (k b) (h.2.2 b)⟩
theorem AskP.run {α : Type} {n : Nat} {P : α->Prop} {lt : Nat->Nat->Bool} : ∀ t : KasT α, AskP n P t->P (runT lt t)
 | .ret _, h => h
 | .ask i j k, h => AskP.run (k (lt i j)) (h.2.2 _)
theorem QhX {α : Type} {n : Nat} {P : α->Prop} {lt : Nat->Nat->Bool} {cmp : Nat->Nat->(Bool->Shared->Prop)->Shared->Prop} {Q : α->Shared->Prop} {s : Shared} (hc : ∀ i j C, i < n->j < n->C (lt i j) s->cmp i j C s) :
  ∀ t : KasT α, AskP n P t->Q (runT lt t) s->t.kasWp cmp Q s
 | .ret _, _, q => q
 | .ask i j k, h, q => hc i j _ h.1 h.2.1 (QhX hc (k (lt i j)) (h.2.2 _) q)
def Gd (n : Nat) (p : Array Nat) : Prop := p.size = n/\∀ x, x ∈ p->x < n
theorem Gd.get {n : Nat} {p : Array Nat} (g : Gd n p) (h : 0 < n) (i : Nat) : p.getD i 0 < n := by
 by_cases hi : i < p.size
 ·have e : p.getD i 0 = p[i] := by simp [hi]
  rw [e]; exact g.2 _ (Array.getElem_mem hi)
 ·have e : p.getD i 0 = 0 := by simp [hi]
  rw [e]; exact h
theorem Gd.perm {n : Nat} {p q : Array Nat} (g : Gd n p) (h : q.Perm p) : Gd n q := ⟨h.size_eq.trans g.1, fun x hx => g.2 x (h.mem_iff.mp hx)⟩
theorem Gd.rev {n : Nat} {p : Array Nat} (g : Gd n p) (i j : Nat) : Gd n (kas_rev p i j) := g.perm (mirror_perm _ _ _ _)
theorem Gd.bub {n : Nat} {p : Array Nat} (g : Gd n p) (i j : Nat) : Gd n (bubble p i j) := g.perm (bubble_perm _ _ _)
theorem Qgs {n : Nat} {p : Array Nat} (h : 0 < n) (g : Gd n p) : ∀ f m, AskP n (fun _ => True) (kas_asc p f m)
 | 0, _ => trivial
 | f + 1, m => ⟨g.get h _, g.get h _, fun b => by
  cases b with
  | true => exact trivial
  | false => exact Qgs h g f (m + 1)⟩
theorem QcY {n : Nat} (h : 0 < n) : ∀ f p m q, Gd n p->AskP n (fun r : Array Nat × Nat × Nat => Gd n r.1) (kas_desc f p m q)
 | 0, _, _, _, g => g
 | f + 1, p, m, q, g => ⟨g.get h _, g.get h _, fun b => by
  cases b with
  | true =>
   show AskP n _ (if q > 0 then kas_desc f (kas_rev p (m - (q + 1)) m) (m + 1) 0 else kas_desc f p (m + 1) 0)
   split
   ·exact QcY h f _ _ _ (g.rev _ _)
   ·exact QcY h f _ _ _ g
  | false =>
   refine ⟨g.get h _, g.get h _, fun d => ?_⟩
   cases d with
   | true => exact g
   | false => exact QcY h f _ _ _ g⟩
theorem QfA {n : Nat} (h : 0 < n) {p : Array Nat} (g : Gd n p) (k m : Nat) : AskP n (fun r : Nat × Array Nat => Gd n r.2) (kas_tail3 k m p) := by
 unfold kas_tail3
 refine AskP.bind (P := fun _ => True) (fun _ _ => ?_) _ (Qgs h (g.rev 0 k) _ _)
 exact g.rev 0 k
theorem QcG {n : Nat} (h : 0 < n) {p : Array Nat} (g : Gd n p) (k m : Nat) : AskP n (fun r : Nat × Array Nat => Gd n r.2) (kas_descPart k m p) := by
 refine AskP.bind (fun r hr => ?_) _ (QcY h _ _ _ _ g)
 split
 ·exact QfA h (hr.rev _ _) _ _
 ·exact QfA h hr _ _
theorem Qkg {n : Nat} (h : 0 < n) {p : Array Nat} (g : Gd n p) (m : Nat) : AskP n (fun r : Nat × Array Nat => Gd n r.2) (kas_count m p) := by
 refine AskP.bind (fun r _ => ?_) _ (Qgs h g _ _)
 split
 ·exact g
 ·split
  ·refine ⟨g.get h _, g.get h _, fun b => ?_⟩
   cases b with
   | true => exact g
   | false => exact QcG h (g.rev _ _) _ _
  ·exact QcG h g _ _
theorem QdA {n : Nat} (h : 0 < n) {p : Array Nat} (g : Gd n p) (k : Nat) : ∀ f l r, AskP n (fun _ => True) (kas_place p k f l r)
 | 0, _, _ => trivial
 | f + 1, l, r => by
  unfold kas_place
  split
  ·exact trivial
  ·refine ⟨g.get h _, g.get h _, fun b => ?_⟩
   cases b with
   | true => exact QdA h g k f _ _
   | false => exact QdA h g k f _ _
theorem Qkh {n : Nat} (h : 0 < n) : ∀ f p k, Gd n p->AskP n (Gd n) (kas_bin f p k)
 | 0, _, _, g => g
 | f + 1, _, k, g => AskP.bind (fun _ _ => Qkh h f _ _ (g.bub _ _)) _ (QdA h g k _ _ _)
theorem Qhi {n : Nat} (h : 0 < n) : AskP n (Gd n) (kas_sort n) := by
 have g0 : Gd n (List.toArray (List.range n)) := ⟨by simp, fun x hx => by simpa using hx⟩
 refine AskP.bind (fun r hr => ?_) _ (Qkg h g0 n)
 split
 ·exact Qkh h _ _ _ hr
 ·exact hr
def ordT (n : Nat) (lt : Nat->Nat->Bool) : List Nat := (runT lt (kas_sort n)).toList
theorem QiK {n : Nat} (h : 0 < n) (lt : Nat->Nat->Bool) : (ordT n lt).length = n/\∀ i ∈ ordT n lt, i < n := by
 obtain ⟨h1, h2⟩ := AskP.run (lt := lt) _ (Qhi h)
 exact ⟨by unfold ordT; rw [Array.length_toList]; exact h1, fun i hi => h2 i (Array.mem_toList_iff.mp hi)⟩
end
section
variable {X : Cx}
def EqV (X : Cx) (H : Hp) (n : Nat) (x y : V) (b : Bool) : Prop := ∀ (pins : List (Addr × Obj)) (σ : St) (s : Shared) (u v : Value) (A : Around), Inv X pins σ H s->RelV x u->RelV y v->A.units + n < cLine->SeqAt.EqAt A s u v b
def LtV (X : Cx) (H : Hp) (n : Nat) (x y : V) (b : Bool) : Prop := ∀ (pins : List (Addr × Obj)) (σ : St) (s : Shared) (u v : Value) (A : Around), Inv X pins σ H s->RelV x u->RelV y v->A.units + n < cLine->RcLt A s u v b
theorem Qer {pins : List (Addr × Obj)} {σ : St} {H : Hp} {s : Shared} {c : Bool} (I : Inv X pins σ H s) {A : Around} {n : Nat} {Q : Bool->Shared->Prop} (hA : A.units + n < cLine) : ∀ {xs ys : List V} {r : Bool}, LtR (EqV X H n) (LtV X H n) xs ys r->xs.length = ys.length->∀ {us vs : List Value}, Vals xs us->Vals ys vs ->
  ∀ i, (c = false\/1<=i)->Q r s->PySem.W.KatLex X.prog X.w A c false Q (us.zip vs) i s
 | _, _, _, .nn, _, _, _, .nil, .nil, i, _, q => PySem.W.kat_nil q
 | _, _, _, .nc, hl, _, _, _, _, _, _, _ => by simp at hl
 | _, _, _, .cn, hl, _, _, _, _, _, _, _ => by simp at hl
 | _, _, _, .eq e h, hl, _, _, .cons r t, .cons r' t', i, hi, q => by
  rw [List.zip_cons_cons]
  refine PySem.W.kat_cons (e _ _ _ _ _ A I r r' hA _ _ _ _ (PySem.W.kat_yes ?_))
  exact Qer I hA h (by simpa using hl) t t' (i + 1) (.inr (by omega)) q
 | _, _, _, .ne e l, hl, _, _, .cons r t, .cons r' t', i, hi, q => by
  rw [List.zip_cons_cons]
  refine PySem.W.kat_cons (e _ _ _ _ _ A I r r' hA _ _ _ _ (PySem.W.kat_no ?_))
  have hb : (c && i == 0) = false := by
   rcases hi with hi | hi
   ·rw [hi]; rfl
   ·have : (i == 0) = false := by simp; omega
    rw [this]; simp
  rw [hb]
  exact PySem.W.kat_one _ _ (l _ _ _ _ _ A I r r' hA _ _ _ _ q)
def TupLt (X : Cx) (H : Hp) (n : Nat) (c : Bool) (xs ys : List V) (r : Bool) : Prop := xs.length = ys.length/\(if c = true then ∃ a d xs' ys', xs = .str a :: xs'/\ys = .str d :: ys'/\((a = d/\LtR (EqV X H n) (LtV X H n) xs' ys' r)\/(a ≠ d/\r = decide (a.cps.toList < d.cps.toList))) else LtR (EqV X H n) (LtV X H n) xs ys r)
theorem Qjn {pins : List (Addr × Obj)} {σ : St} {H : Hp} {s : Shared} {c : Bool} (I : Inv X pins σ H s) {A : Around} {n : Nat} {Q : Bool->Shared->Prop} {E : Value->Shared->Prop} (hA : A.units + n < cLine) {p q : Addr} {xs ys : List V} {r : Bool} (hp : SqT X.K H p xs) (hq : SqT X.K H q ys) (h : TupLt X H n c xs ys r) (hQ : Q r s) :
  wpAny (model X.prog X.w) A (keyLt' (tuples' c) (.ref p) (.ref q)) Q E s := by
 obtain ⟨its1, v1, q1, _⟩ := I.tuple hp
 obtain ⟨its2, v2, q2, _⟩ := I.tuple hq
 obtain ⟨o1, ho1, hc1, n1, hd1⟩ := id q1
 obtain ⟨o2, ho2, hc2, n2, hd2⟩ := id q2
 obtain ⟨hl, h⟩ := h
 have len2 : its1.toArray.size = its2.toArray.size := by rw [Qkx, Qkx, <-v1.length, <-v2.length, hl]
 have efin : decide (its1.toArray.size < its2.toArray.size) = false := by rw [len2]; exact decide_eq_false (QkL _)
 refine PySem.W.kat_lt ho1 hd1 ho2 hd2 ?_
 rw [efin]
 cases c with
 | false => exact Qer I hA h hl v1 v2 0 (.inl rfl) hQ
 | true =>
  obtain ⟨a, d, xs', ys', rfl, rfl, h⟩ := h
  cases v1 with
  | cons ra t =>
   cases v2 with
   | cons rd t' =>
    obtain ⟨ta, rfl⟩ := ra
    obtain ⟨td, rfl⟩ := rd
    show PySem.W.KatLex X.prog X.w A true false Q ((_, _) :: _) 0 s
    rcases h with ⟨rfl, h⟩ | ⟨hne, rfl⟩
    ·refine PySem.W.kat_cons (QjL I 0 (.str a) (.str a) true _ _ A ⟨rfl, rfl, by simp [eqV]⟩ ⟨_, rfl⟩ ⟨_, rfl⟩ (by omega) _ _ _ _ (PySem.W.kat_yes ?_))
     exact Qer I hA h (by simpa using hl) t t' 1 (.inr (Qky _)) hQ
    ·refine PySem.W.kat_cons (QjL I 0 (.str a) (.str d) false _ _ A ⟨rfl, rfl, by simp [eqV, hne]⟩ ⟨_, rfl⟩ ⟨_, rfl⟩ (by omega) _ _ _ _ (PySem.W.kat_no ?_))
     show wpAny _ _ (oneLt' true _ _) _ _ _
     exact oneLt_str hQ
end
end L2
namespace L2
open PySem PySem.Spec PyProof.Rows
section
variable {κ : Type} [DecidableEq κ]
def valV (kvs : List (κ × V)) (k : κ) : Option V := (kvs.find? fun kv => decide (kv.1 = k)).map (·.2)
def putK (kvs : List (κ × V)) (k : κ) (v : V) : List (κ × V) :=
 if (kvs.any fun kv => decide (kv.1 = k)) = true then kvs.map (fun kv => if kv.1 = k then (kv.1, v) else kv) else kvs ++ [(k, v)]
theorem QcN {p : κ × V} {r : List (κ × V)} {k : κ} (e : p.1 = k) : valV (p :: r) k = some p.2 := by simp [valV, List.find?_cons, e]
theorem QcO {p : κ × V} {r : List (κ × V)} {k : κ} (e : ¬ p.1 = k) : valV (p :: r) k = valV r k := by simp [valV, List.find?_cons, e]
theorem Qgy (k : κ) : ∀ kvs : List (κ × V), (kvs.any fun kv => decide (kv.1 = k)) = (valV kvs k).isSome
 | [] => rfl
 | p :: r => by
  rw [List.any_cons]
  by_cases e : p.1 = k
  ·simp only [QcN e, decide_eq_true e, Bool.true_or, Option.isSome_some]
  ·rw [QcO e, decide_eq_false e, Bool.false_or]; exact Qgy k r
theorem Qdm (kvs : List (κ × V)) (k : κ) (v : V) : (putK kvs k v).length<=kvs.length + 1 := by
 unfold putK
 split
 ·rw [Qkz]; omega
 ·rw [QkB, QkH, List.length_nil]; omega
theorem RelO.isSome_eq {o : Option V} {u : Option Value} (r : RelO o u) : o.isSome = u.isSome := by
 cases o with
 | none => cases u with
  | none => rfl
  | some _ => exact (show False from r).elim
 | some _ => cases u with
  | none => exact (show False from r).elim
  | some _ => rfl
theorem RelO.getD {o : Option V} {u : Option Value} {d : V} {d' : Value} (r : RelO o u) (rd : RelV d d') : RelV (o.getD d) (u.getD d') := by
 cases o with
 | none => cases u with
  | none => exact rd
  | some _ => exact (show False from r).elim
 | some _ => cases u with
  | none => exact (show False from r).elim
  | some _ => exact r
theorem KV.val {kvs : List (κ × V)} {vs : List (κ × Value)} (r : KV kvs vs) (k : κ) : RelO (valV kvs k) (valueAt vs k) := by
 unfold KV at r
 induction r with
 | nil => exact True.intro
 | @cons p q ps qs h t ih =>
  obtain ⟨h1, h2⟩ := h
  by_cases e : p.1 = k
  ·have e' : q.1 = k := h1.symm.trans e
   have b : valueAt (q :: qs) k = some q.2 := by simp [valueAt, List.find?_cons, e']
   rw [QcN e, b]; exact h2
  ·have e' : ¬ q.1 = k := fun z => e (h1.trans z)
   have b : valueAt (q :: qs) k = valueAt qs k := by simp [valueAt, List.find?_cons, e']
   rw [QcO e, b]; exact ih
theorem KV.any {kvs : List (κ × V)} {vs : List (κ × Value)} (r : KV kvs vs) (k : κ) : (kvs.any fun kv => decide (kv.1 = k)) = vs.any fun kv => decide (kv.1 = k) := by
 unfold KV at r
 induction r with
 | nil => rfl
 | cons h t ih => rw [List.any_cons, List.any_cons, ih, h.1]
theorem KV.repl {kvs : List (κ × V)} {vs : List (κ × Value)} (r : KV kvs vs) (k : κ) {y : V} {u : Value} (ry : RelV y u) :
  KV (kvs.map fun kv => if kv.1 = k then (kv.1, y) else kv) (vs.map fun kv => if kv.1 = k then (kv.1, u) else kv) := by
 unfold KV at r ⊢
 induction r with
 | nil => exact .nil
 | @cons p q ps qs h t ih =>
  rw [List.map_cons, List.map_cons]
  refine .cons ?_ ih
  obtain ⟨h1, h2⟩ := h
  by_cases e : p.1 = k
  ·rw [if_pos e, if_pos (h1.symm.trans e)]; exact ⟨h1, ry⟩
  ·rw [if_neg e, if_neg (fun z => e (h1.trans z))]; exact ⟨h1, h2⟩
theorem KV.put {kvs : List (κ × V)} {vs : List (κ × Value)} (r : KV kvs vs) (k : κ) {y : V} {u : Value} (ry : RelV y u) : KV (putK kvs k y) (stored vs k u) := by
 unfold putK stored
 rw [r.any k]
 by_cases e : (vs.any fun kv => decide (kv.1 = k)) = true
 ·rw [if_pos e, if_pos e]; exact r.repl k ry
 ·rw [if_neg e, if_neg e]; exact Paired.snoc r ⟨rfl, ry⟩
theorem KV.length {kvs : List (κ × V)} {vs : List (κ × Value)} (r : KV kvs vs) : kvs.length = vs.length := Paired.length r
end
theorem Qgc {P : Program} {w : World} {k : Key} {u : Value} (r : RelV (kV k) u) : (QaA P w).is k u = true := by
 cases k with
 | inl i => obtain ⟨t, e⟩ := (show ∃ t, u = Value.int i t from r); subst e; exact QfW P w i t
 | inr x => obtain ⟨t, e⟩ := (show ∃ t, u = Value.str x t from r); subst e; exact QfV P w x t
theorem Qfe {P : Program} {w : World} : ∀ {ks : List Key} {us : List Value}, Vals (ks.map kV) us->ItemsAre (QaA P w) ks us
 | [], _, r => by rw [List.map_nil] at r; cases r; exact .nil
 | k :: ks, _, r => by
  rw [List.map_cons] at r
  cases r with
  | cons h t => exact .cons (Qgc h) (Qfe t)
abbrev KT (H : Hp) : List (List Key × V)->List (List Key × Addr × Value)->Prop := Paired fun p q => p.1 = q.1/\H q.2.1 = some (.tup (p.1.map kV))/\RelV p.2 q.2.2
theorem KT.val {H : Hp} {kvs : List (List Key × V)} {xs : List (List Key × Addr × Value)} (r : KT H kvs xs) (k : List Key) : RelO (valV kvs k) ((atKey xs k).map (·.2)) := by
 induction r with
 | nil => exact True.intro
 | @cons p q ps qs h t ih =>
  obtain ⟨h1, _, h2⟩ := h
  by_cases e : p.1 = k
  ·have e' : q.1 = k := h1.symm.trans e
   have b : atKey (q :: qs) k = some q.2 := by simp [atKey, List.find?_cons, e']
   rw [QcN e, b]; exact h2
  ·have e' : ¬ q.1 = k := fun z => e (h1.trans z)
   have b : atKey (q :: qs) k = atKey qs k := by simp [atKey, List.find?_cons, e']
   rw [QcO e, b]; exact ih
theorem KT.repl {H : Hp} {kvs : List (List Key × V)} {xs : List (List Key × Addr × Value)} (r : KT H kvs xs) (k : List Key) {y : V} {u : Value} (ry : RelV y u) :
  KT H (kvs.map fun kv => if kv.1 = k then (kv.1, y) else kv) (xs.map (putAt k u)) := by
 induction r with
 | nil => exact .nil
 | @cons p q ps qs h t ih =>
  rw [List.map_cons, List.map_cons]
  refine .cons ?_ ih
  obtain ⟨h1, h2, h3⟩ := h
  unfold putAt
  by_cases e : p.1 = k
  ·rw [if_pos e, if_pos (h1.symm.trans e)]; exact ⟨h1, h2, ry⟩
  ·rw [if_neg e, if_neg (fun z => e (h1.trans z))]; exact ⟨h1, h2, h3⟩
theorem KT.put {H : Hp} {kvs : List (List Key × V)} {xs : List (List Key × Addr × Value)} (r : KT H kvs xs) (k : List Key) {b : Addr} {y : V} {u : Value} (hb : H b = some (.tup (k.map kV))) (ry : RelV y u) :
  KT H (putK kvs k y) (storedH xs k b u) := by
 have e : (kvs.any fun kv => decide (kv.1 = k)) = (atKey xs k).isSome := by
  rw [Qgy, (r.val k).isSome_eq, Option.isSome_map]
 unfold putK storedH
 rw [e]
 by_cases q : (atKey xs k).isSome = true
 ·rw [if_pos q, if_pos q]; exact r.repl k ry
 ·rw [if_neg q, if_neg q]; exact Paired.snoc r ⟨rfl, hb, ry⟩
theorem KT.keeps {H H' : Hp} {kvs : List (List Key × V)} {xs : List (List Key × Addr × Value)} (r : KT H kvs xs) (ht : ∀ b ys, H b = some (.tup ys)->H' b = some (.tup ys)) : KT H' kvs xs :=
 Paired.mapP r fun _ _ z => ⟨z.1, ht _ _ z.2.1, z.2.2⟩
section
variable {P : Program} {w : World} {H : Hp} {h : Heap} {a : Addr}
theorem rd_of {u : HO} (ok : HOk P w H h) (e : Rd H a u) : QaT P w H h a u := e.ok ok
theorem Qgl {kvs : List (Key × V)} (ok : HOk P w H h) (e : Rd H a (.dK kvs)) : kvs.length<=sizeLine/\(a == sysModules) = false/\∃ vs, KV kvs vs/\h.DictOf (QaA P w) a vs :=
 show QaT P w H h a (.dK kvs) from rd_of ok e
theorem dk_of {kvs : List (Key × V)} (ok : HOk P w H h) (e : H a = some (.dK kvs)) : kvs.length<=sizeLine/\(a == sysModules) = false/\∃ vs, KV kvs vs/\h.DictOf (QaA P w) a vs := Qgl ok (.inl e)
theorem QcF {ks : List Key} (ok : HOk P w H h) (e : H a = some (.tup (ks.map kV))) : (tupleKind (QaA P w)).is h ks a := by
 obtain ⟨_, its, r, o, h1, h2, n, h3⟩ := (show QaT P w H h a (.tup (ks.map kV)) from ok a _ e)
 exact ⟨o, its.toArray, n, h1, h2, h3, by simpa using Qfe r⟩
theorem Qgk {kvs : List (List Key × V)} (ok : HOk P w H h) (e : Rd H a (.dT kvs)) : kvs.length<=sizeLine/\(a == sysModules) = false /\
  ∃ xs, KT H kvs xs/\h.DictOfH (tupleKind (QaA P w)) a xs := by
 obtain ⟨z, y, xs, r, o, es, ep, h1, h2, h3, h4, h5⟩ := (show QaT P w H h a (.dT kvs) from rd_of ok e)
 refine ⟨z, y, xs, r, o, es, ep, h1, h2, h3, h4, fun x hx => ?_, h5⟩
 have all : ∀ {l : List (List Key × V)} {m : List (List Key × Addr × Value)}, KT H l m->∀ x ∈ m, (tupleKind (QaA P w)).is h x.1 x.2.1 := by
  intro l m q
  induction q with
  | nil => intro x hx; exact nomatch hx
  | @cons p q ps qs hq t ih =>
   intro x hx
   rcases List.mem_cons.mp hx with e | hx
   ·subst e
    exact QcF ok (by rw [<-hq.1]; exact hq.2.1)
   ·exact ih x hx
 exact all r x hx
theorem dt_of {kvs : List (List Key × V)} (ok : HOk P w H h) (e : H a = some (.dT kvs)) : kvs.length<=sizeLine/\(a == sysModules) = false /\
  ∃ xs, KT H kvs xs/\h.DictOfH (tupleKind (QaA P w)) a xs := Qgk ok (.inl e)
end
def DGet (H : Hp) (a : Addr) (y : V) (r : Option V) : Prop :=
 (∃ kvs k, Rd H a (.dK kvs)/\y = kV k/\r = valV kvs k)\/∃ kvs k b, Rd H a (.dT kvs)/\y = .ref b/\H b = some (.tup (k.map kV))/\r = valV kvs k
def DPut (H : Hp) (a : Addr) (y v : V) (H' : Hp) : Prop :=
 (∃ kvs k, H a = some (.dK kvs)/\y = kV k/\kvs.length < sizeLine/\H' = upd H a (.dK (putK kvs k v))) ∨
 ∃ kvs k b, H a = some (.dT kvs)/\y = .ref b/\H b = some (.tup (k.map kV))/\kvs.length < sizeLine/\H' = upd H a (.dT (putK kvs k v))
theorem DGet.t {H : Hp} {a b : Addr} {kvs : List (List Key × V)} {k : List Key} (e : H a = some (.dT kvs)) (eb : H b = some (.tup (k.map kV))) : DGet H a (.ref b) (valV kvs k) := .inr ⟨kvs, k, b, .inl e, rfl, eb, rfl⟩
theorem DPut.t {H : Hp} {a b : Addr} {kvs : List (List Key × V)} {k : List Key} {v : V} (e : H a = some (.dT kvs)) (eb : H b = some (.tup (k.map kV))) (hl : kvs.length < sizeLine) :
  DPut H a (.ref b) v (upd H a (.dT (putK kvs k v))) := .inr ⟨kvs, k, b, e, rfl, eb, hl, rfl⟩
section
variable {X : Cx} {pins : List (Addr × Obj)} {σ : St} {H : Hp} {s : Shared} {a : Addr} {y v : V} {u r : Value} {o : Option V} {A : Around} {E : Value->Shared->Prop}
theorem Inv.big (I : Inv X pins σ H s) : sysModules < s.heap.objs.size := by
 have h : mainGlobals < s.heap.objs.size := (I.mod.glob.keeps I.bk).lt
 exact Nat.lt_trans (by decide) h
theorem QjV {Q : Value->Shared->Prop} (hu : A.units + 1 < cLine) (I : Inv X pins σ H s) (g : DGet H a y (some v)) (ry : RelV y u) (h : ∀ w' s', Inv X pins σ H s'->RelV v w'->Q w' s') :
  wpAny (model X.prog X.w) A (getItem (.ref a) u) Q E s := by
 rcases g with ⟨kvs, k, e, ey, l⟩ | ⟨kvs, k, b, e, ey, eb, l⟩
 ·subst ey
  obtain ⟨z, hd, vs, rel, dd⟩ := Qgl I.hok e
  obtain ⟨w', hw, rw'⟩ := RelO.some_of (v := v) (o := valueAt vs k) (by rw [l]; exact rel.val k)
  exact wpAny_getItem_of (Qgc ry) dd.mapOf hw (h w' _ (I.tok _) rw')
 ·subst ey
  cases (show u = Value.ref b from ry)
  obtain ⟨z, hd, xs, rel, dd⟩ := Qgk I.hok e
  obtain ⟨w', hw, rw'⟩ := RelO.some_of (v := v) (o := (atKey xs k).map (·.2)) (by rw [l]; exact rel.val k)
  obtain ⟨p, hp, hp2⟩ := Option.map_eq_some_iff.mp hw
  refine wpAny_getItem_heap (tupleKind_room_in1 hu) (QcF I.hok eb) dd hp ?_
  rw [hp2]
  exact h w' _ (I.tok _) rw'
theorem d_in {Q : Value->Shared->Prop} (hu : A.units + 1 < cLine) (I : Inv X pins σ H s) (g : DGet H a y o) (ry : RelV y u) (h : ∀ s', Inv X pins σ H s'->Q (.bool o.isSome) s') :
  wpAny (model X.prog X.w) A (compareOp .In u (.ref a)) Q E s := by
 rcases g with ⟨kvs, k, e, ey, l⟩ | ⟨kvs, k, b, e, ey, eb, l⟩
 ·subst ey
  obtain ⟨z, hd, vs, rel, dd⟩ := Qgl I.hok e
  refine wpAny_in_of (Qgc ry) hd dd.mapOf ?_
  rw [<-(rel.val k).isSome_eq, <-l]
  exact h _ (I.tok _)
 ·subst ey
  cases (show u = Value.ref b from ry)
  obtain ⟨z, hd, xs, rel, dd⟩ := Qgk I.hok e
  refine wpAny_in_heap (tupleKind_room_in1 hu) (QcF I.hok eb) hd dd ?_
  have q := (rel.val k).isSome_eq
  rw [Option.isSome_map] at q
  rw [<-q, <-l]
  exact h _ (I.tok _)
theorem d_notIn {Q : Value->Shared->Prop} (hu : A.units + 1 < cLine) (I : Inv X pins σ H s) (g : DGet H a y o) (ry : RelV y u) (h : ∀ s', Inv X pins σ H s'->Q (.bool (!o.isSome)) s') :
  wpAny (model X.prog X.w) A (compareOp .NotIn u (.ref a)) Q E s := by
 rcases g with ⟨kvs, k, e, ey, l⟩ | ⟨kvs, k, b, e, ey, eb, l⟩
 ·subst ey
  obtain ⟨z, hd, vs, rel, dd⟩ := Qgl I.hok e
  refine wpAny_notIn_of (Qgc ry) hd dd.mapOf ?_
  rw [<-(rel.val k).isSome_eq, <-l]
  exact h _ (I.tok _)
 ·subst ey
  cases (show u = Value.ref b from ry)
  obtain ⟨z, hd, xs, rel, dd⟩ := Qgk I.hok e
  refine wpAny_notIn_heap (tupleKind_room_in1 hu) (QcF I.hok eb) hd dd ?_
  have q := (rel.val k).isSome_eq
  rw [Option.isSome_map] at q
  rw [<-q, <-l]
  exact h _ (I.tok _)
theorem QjT {h' : Heap} {t' : Nat} {ob : HO} (I : Inv X pins σ H s) (mu : Mut (H a)) (hs : Heap.SameBut a s.heap h') (he : ∃ q, h'.get? a = some q) (new : QaT X.prog X.w (upd H a ob) h' a ob) :
  Inv X pins σ (upd H a ob) { s with heap := h', toks := t' } :=
 I.write (x := a) (e := a) mu (.inl rfl) (fun b q hb z => (hs.2 b hb).trans z) he new
theorem dk_new {P : Program} {w : World} {H' : Hp} {h' : Heap} {kvs : List (Key × V)} {vs : List (Key × Value)} (z : kvs.length<=sizeLine) (hd : (a == sysModules) = false) (rel : KV kvs vs) (dd : h'.DictOf (QaA P w) a vs) :
  QaT P w H' h' a (.dK kvs) := ⟨z, hd, vs, rel, dd⟩
theorem QjU {H' : Hp} {Q : Unit->Shared->Prop} (hu : A.units + 1 < cLine) (I : Inv X pins σ H s) (g : DPut H a y v H') (ry : RelV y u) (rv : RelV v r) (h : ∀ s', Inv X pins σ H' s'->Q () s') :
  wpAny (model X.prog X.w) A (setItem (.ref a) u r) Q E s := by
 rcases g with ⟨kvs, k, e, ey, l, eH⟩ | ⟨kvs, k, b, e, ey, eb, l, eH⟩
 ·subst ey eH
  obtain ⟨z, hd, vs, rel, dd⟩ := dk_of I.hok e
  have hz : vs.length<=sizeLine := by rw [<-rel.length]; exact z
  have hl : (putK kvs k v).length<=sizeLine := by have := Qdm kvs k v; omega
  refine wpAny_setItem_pairs (hsz := hz) (Qgc ry) dd fun h' dd' hs => h _ ?_
  have he : ∃ q, h'.get? a = some q := let ⟨q, _, _, hq, _⟩ := dd'; ⟨q, hq⟩
  exact QjT I (by rw [e]; exact True.intro) hs he (dk_new hl hd (rel.put k rv) dd')
 ·subst ey eH
  cases (show u = Value.ref b from ry)
  obtain ⟨z, hd, xs, rel, dd⟩ := dt_of I.hok e
  have hz : xs.length<=sizeLine := by rw [<-Paired.length rel]; exact z
  have hl : (putK kvs k v).length<=sizeLine := by have := Qdm kvs k v; omega
  refine wpAny_setItem_heap (hsz := hz) (tupleKind_room_in1 hu) (QcF I.hok eb) dd fun h' dd' hs => h _ ?_
  obtain ⟨q, es, ep, hq, h2, h3, h4, _, h5⟩ := dd'
  refine QjT I (by rw [e]; exact True.intro) hs ⟨q, hq⟩ ⟨hl, hd, _, (rel.put k eb rv).keeps fun c ys ec => ?_, q, es, ep, hq, h2, h3, h4, h5⟩
  rw [Qaj (ne_of ec e (fun z => nomatch z))]
  exact ec
end
section
variable {X : Cx} {pins : List (Addr × Obj)} {σ : St} {H : Hp} {s : Shared} {a : Addr} {kvs : List (Key × V)} {k : Key} {u : Value} {A : Around} {E : Value->Shared->Prop}
end
def NoSl (i : Expr) : Prop := ∀ ov iv, subscripted i false ov iv = operate [ov, iv] (getItem ov iv)
theorem subD_of {prog : Program} {w : World} {A : Around} {E : Value->Shared->Prop} {s : Shared} {env : Env} {value slice : Expr} {pos : Pos} {T id : String} {Q : Value->Shared->Prop}
  (hl : typeLookup (.type T) "__getitem__" = pure (some (.builtin id))) (hs : NoSl slice)
  (h : wpAny (model prog w) A (eval value env) (fun o s₁ => wpAny (model prog w) A (eval slice env) (fun i s₂ => s₂.TypeIs o T/\wpAny (model prog w) A (getItem o i) Q E s₂) E s₁) E s) :
  wpAny (model prog w) A (eval (.Subscript value slice pos) env) Q E s := by
 refine Subscript_ (wpAny_mono h (fun o s₁ h₁ => wpAny_mono h₁ (fun i s₂ h₂ => ?_) fun _ _ x => x) fun _ _ x => x)
 obtain ⟨hT, h₂⟩ := h₂
 unfold subscriptTail
 refine wpAny_bind ?_
 rw [getitemInPython_of_ne hT.not_modules]
 refine wpAny_bind (wpAny_specialOf hT hl ?_)
 have fin : wpAny (model prog w) A (subscripted slice false o i) (fun r s₃ => wpAny (model prog w) A (letTemporaryGo value o r >>= fun _ => pure r) Q E s₃) E s₂ := by
  rw [hs o i]
  exact wpAny_operating (wpAny_mono h₂ (fun r s₃ h₃ => wpAny_bind (wpAny_letTemporaryGo (wpAny_pure h₃))) fun _ _ x => x)
 first
  | exact wpAny_pure (wpAny_bind fin)
  | exact wpAny_bind (wpAny_pure (wpAny_bind fin))
  | exact wpAny_bind fin
theorem Qgm {X : Cx} {pins : List (Addr × Obj)} {σ : St} {H : Hp} {s : Shared} {a : Addr} {y : V} {o : Option V} (I : Inv X pins σ H s) (g : DGet H a y o) : s.TypeIs (.ref a) "dict" := by
 rcases g with ⟨kvs, k, e, _, _⟩ | ⟨kvs, k, b, e, _, _, _⟩
 ·obtain ⟨_, _, vs, _, dd⟩ := Qgl I.hok e
  exact dd.typeIs
 ·obtain ⟨_, _, xs, _, dd⟩ := Qgk I.hok e
  exact dd.typeIs
def tDGet (td ty : TE) : TE := fun σ H Q => td σ H fun x H1 => ty σ H1 fun y H2 => ∃ a v, x = .ref a/\DGet H2 a y (some v)/\Q v H2
def sDPut (td ty tv : TE) : TS := fun D σ H => tv σ H fun v H1 => td σ H1 fun x H2 => ty σ H2 fun y H3 => ∃ a H4, x = .ref a/\DPut H3 a y v H4/\D.nx σ H4
section
variable {X : Cx} {o i e value : Expr} {pos pos' tpos : Pos} {td ty tv : TE}
theorem pe_dget (hu : X.A.units + 1 < cLine) (ho : PE X o td) (hi : PE X i ty) (hs : NoSl i) : PE X (.Subscript o i pos) (tDGet td ty) := by
 intro pins s σ H Q I h
 refine subD_of PySem.F.slot_dict_getitem.lookup hs (thn (ho pins s σ H _ I h) fun u s1 ⟨x, H1, I1, rx, q1⟩ => thn (hi pins s1 σ H1 _ I1 q1) fun iv s2 ⟨y, H2, I2, ry, a, v, ex, g, q2⟩ => ?_)
 subst ex
 obtain rfl : u = Value.ref a := rx
 exact ⟨Qgm I2 g, QjV hu I2 g ry fun w' s3 I3 rw' => ⟨v, H2, I3, rw', q2⟩⟩
theorem ps_dput (hu : X.A.units + 1 < cLine) (ho : PE X o td) (hi : PE X i ty) (hv : PE X value tv) (hs : swapsWith value (some (.Subscript o i pos')) pos.line X.env = pure false) :
  PS X (.Assign [.Subscript o i pos'] value pos) (sDPut td ty tv) := by
 intro pins s σ H D I h
 refine wpAny_Assign_Subscript (thn (hv pins s σ H _ I h) fun r s1 ⟨v, H1, I1, rv, q1⟩ => thn (ho pins s1 σ H1 _ I1 q1) fun u s2 ⟨x, H2, I2, rx, q2⟩ => thn (hi pins s2 σ H2 _ I2 q2) fun iv s3 ⟨y, H3, I3, ry, a, H4, ex, g, q3⟩ => ?_) hs
 subst ex
 obtain rfl : u = Value.ref a := rx
 exact QjU hu I3 g ry rv fun s4 I4 => ⟨σ, H4, I4, q3⟩
end
theorem dt_empty {P : Program} {w : World} {H : Hp} (h : Heap) (hb : sysModules < h.objs.size) : QaT P w H (h.push { cls := .type "dict", data := .dict #[] }) h.objs.size (.dT []) :=
 ⟨Nat.zero_le _, beq_eq_false_iff_ne.mpr (Ne.symm (QkF hb)), [], .nil, _, #[], 0, QkE _ rfl, ⟨rfl, rfl, rfl⟩, rfl, rfl, List.nodup_nil⟩
def tDNewT : TE := fun _ H Q => ∀ p, H p = none->Q (.ref p) (upd H p (.dT []))
section
variable {X : Cx} {pos : Pos}
theorem QgK : PE X (.Dict [] [] pos) tDNewT := fun pins s σ H Q I h =>
 wpAny_Dict_empty ⟨.ref s.heap.objs.size, _, I.laid (a := s.heap.objs.size) (o := .dT []) (t' := s.toks) (fun _ _ q => Qkt _ q) (Qky _) (dt_empty s.heap I.big), rfl, h _ (I.hok.fresh (Qky _))⟩
end
section
variable {X : Cx} {pins : List (Addr × Obj)} {σ : St} {H : Hp} {s : Shared} {a : Addr} {y d : V} {u r : Value} {o : Option V} {A : Around} {E : Value->Shared->Prop}
theorem d_get1 {Q : Value->Shared->Prop} (hu : A.units + 1 < cLine) (I : Inv X pins σ H s) (g : DGet H a y o) (ry : RelV y u) (h : ∀ w' s', Inv X pins σ H s'->RelV (o.getD .non) w'->Q w' s') :
  wpAny (model X.prog X.w) A (call (.builtin "dict.get") [.ref a, u]) Q E s := by
 rcases g with ⟨kvs, k, e, ey, l⟩ | ⟨kvs, k, b, e, ey, eb, l⟩
 ·subst ey
  obtain ⟨z, hd, vs, rel, dd⟩ := Qgl I.hok e
  refine call_meetsIn PySem.F.slot_dict_get dd.typeIs PySem.F.entry_dict_get (PySem.F.args_dict_get_2 _ _) (meets_dict_get (QaA X.prog X.w) a (Qgc ry) hd) ⟨_, dd.mapOf, h _ _ (I.tok _) ?_⟩
  rw [l]
  exact (rel.val k).getD rfl
 ·subst ey
  cases (show u = Value.ref b from ry)
  obtain ⟨z, hd, xs, rel, dd⟩ := Qgk I.hok e
  refine call_meetsIn PySem.F.slot_dict_get dd.typeIs PySem.F.entry_dict_get (PySem.F.args_dict_get_2 _ _) (meetsH_dict_get (tupleKind (QaA X.prog X.w)) a b hd) ⟨tupleKind_room_in1 hu, k, xs, QcF I.hok eb, dd, h _ _ (I.tok _) ?_⟩
  rw [l]
  exact (rel.val k).getD rfl
theorem d_get2 {Q : Value->Shared->Prop} (hu : A.units + 1 < cLine) (I : Inv X pins σ H s) (g : DGet H a y o) (ry : RelV y u) (rd : RelV d r) (h : ∀ w' s', Inv X pins σ H s'->RelV (o.getD d) w'->Q w' s') :
  wpAny (model X.prog X.w) A (call (.builtin "dict.get") [.ref a, u, r]) Q E s := by
 rcases g with ⟨kvs, k, e, ey, l⟩ | ⟨kvs, k, b, e, ey, eb, l⟩
 ·subst ey
  obtain ⟨z, hd, vs, rel, dd⟩ := Qgl I.hok e
  refine call_meetsIn PySem.F.slot_dict_get dd.typeIs PySem.F.entry_dict_get (PySem.F.args_dict_get_3 _ _ _) (meets_dict_get_default (QaA X.prog X.w) a (Qgc ry) hd r) ⟨_, dd.mapOf, h _ _ (I.tok _) ?_⟩
  rw [l]
  exact (rel.val k).getD rd
 ·subst ey
  cases (show u = Value.ref b from ry)
  obtain ⟨z, hd, xs, rel, dd⟩ := Qgk I.hok e
  refine call_meetsIn PySem.F.slot_dict_get dd.typeIs PySem.F.entry_dict_get (PySem.F.args_dict_get_3 _ _ _) (meetsH_dict_get_default (tupleKind (QaA X.prog X.w)) a b hd r) ⟨tupleKind_room_in1 hu, k, xs, QcF I.hok eb, dd, h _ _ (I.tok _) ?_⟩
  rw [l]
  exact (rel.val k).getD rd
end
section
variable {X : Cx} {o e f : Expr} {apos cpos : Pos} {td ty tx : TE}
end
section
variable {X : Cx} {pins : List (Addr × Obj)} {σ : St} {H : Hp} {s : Shared} {a : Addr} {kvs : List (Key × V)} {A : Around} {E : Value->Shared->Prop}
end
section
variable {X : Cx} {pins : List (Addr × Obj)} {σ : St} {H : Hp} {s : Shared} {a : Addr} {y : V} {u : Value} {A : Around} {E : Value->Shared->Prop}
end
end L2
namespace DL
open PySem PySem.Spec PyProof.Rows L2
abbrev St := L2.St
abbrev DKey := List Key
abbrev dKo (kvs : List (DKey × V)) : HO := .dT kvs
inductive W where
 | non | bl (b : Bool) | int (i : Int) | str (x : Str) | ty (n : String)
 | tup (xs : List W) | lst (xs : List W) | dct (ks : List DKey) (vs : List W) | ref (n : Nat) | exn (x : Str)
instance : Inhabited W := ⟨.non⟩
def kT : Bool := false
inductive MO where
 | lst (xs : List W) | dct (ks : List DKey) (vs : List W)
structure S where
 nxt : Nat
 mu : Nat->Option MO
inductive R (α : Type) where
 | ok (a : α) (s : S) | ex (c : W) (s : S) | stuck
def R.bind {α β : Type} (r : R α) (f : α->S->R β) : R β := match r with
 | .ok a s => f a s
 | .ex c s => .ex c s
 | .stuck => .stuck
abbrev Ga := List (Option W)
section
variable (K : PySem.W.Frag) (ι : Nat->Addr) (N : Nat) (G : Hp)
mutual
inductive RelW : V->W->Prop
 | non : RelW .non .non
 | bl (b : Bool) : RelW (.bl b) (.bl b)
 | int (i : Int) : RelW (.int i) (.int i)
 | str (x : Str) : RelW (.str x) (.str x)
 | ty (n : String) : RelW (.ty n) (.ty n)
 | tup {a : Addr} {xs : List V} {ws : List W} : SqT K G a xs->(kT = false->G a = some (.tup xs))->RelWs xs ws->RelW (.ref a) (.tup ws)
 | lst {a : Addr} {xs : List V} {ws : List W} : SqL K G a xs->RelWs xs ws->RelW (.ref a) (.lst ws)
 | dct {a : Addr} {xs : List V} {ks : List DKey} {ws : List W} : G a = some (dKo (ks.zip xs))->xs.length = ks.length->RelWs xs ws->RelW (.ref a) (.dct ks ws)
 | ref {n : Nat} : n < N->RelW (.ref (ι n)) (.ref n)
 | exn {a C : Addr} {x : Str} : G a = some (.ext (exPh a (.ref C)))->PySem.W.nsIn K mainGlobals x = some (some (.ref C))->RelW (.ref a) (.exn x)
inductive RelWs : List V->List W->Prop
 | nil : RelWs [] []
 | cons {x : V} {w : W} {xs : List V} {ws : List W} : RelW x w->RelWs xs ws->RelWs (x :: xs) (w :: ws)
end
end
structure Ext (ι : Nat->Addr) (N : Nat) (G : Hp) (ι' : Nat->Addr) (N' : Nat) (G' : Hp) : Prop where
 le : N<=N'
 ag : ∀ n, n < N->ι' n = ι n
 sm : Same G G'
theorem Ext.refl (ι : Nat->Addr) (N : Nat) (G : Hp) : Ext ι N G ι N G := ⟨Qky _, fun _ _ => rfl, Same.refl G⟩
theorem Ext.trans {ι ι1 ι2 : Nat->Addr} {N N1 N2 : Nat} {G G1 G2 : Hp} (a : Ext ι N G ι1 N1 G1) (b : Ext ι1 N1 G1 ι2 N2 G2) : Ext ι N G ι2 N2 G2 :=
 ⟨QkI a.le b.le, fun n h => (b.ag n (QkC h a.le)).trans (a.ag n h), a.sm.trans b.sm⟩
theorem sqT_same {K : PySem.W.Frag} {H H' : Hp} {a : Addr} {xs : List V} (e : Same H H') (h : SqT K H a xs) : SqT K H' a xs := by
 rcases h with (h | ⟨o, h⟩) | h
 ·exact .inl (.inl (e _ _ h))
 ·exact .inl (.inr ⟨o, e _ _ h⟩)
 ·exact .inr h
section
variable {K : PySem.W.Frag} {ι ι' : Nat->Addr} {N N' : Nat} {G G' : Hp}
theorem RelW.mono (e : Ext ι N G ι' N' G') {v : V} {w : W} (h : RelW K ι N G v w) : RelW K ι' N' G' v w := by
 refine RelW.rec (motive_1 := fun v w _ => RelW K ι' N' G' v w) (motive_2 := fun vs ws _ => RelWs K ι' N' G' vs ws) ?_ ?_ ?_ ?_ ?_ ?_ ?_ ?_ ?_ ?_ ?_ ?_ h
 ·exact .non
 ·exact .bl
 ·exact .int
 ·exact .str
 ·exact .ty
 ·intro a xs ws s c _ r; exact .tup (sqT_same e.sm s) (fun h => e.sm _ _ (c h)) r
 ·intro a xs ws s _ r; exact .lst (e.sm.seq s) r
 ·intro a xs ks ws s l _ r; exact .dct (e.sm _ _ s) l r
 ·intro n hn; rw [<-e.ag n hn]; exact .ref (QkC hn e.le)
 ·intro a C x s n; exact .exn (e.sm _ _ s) n
 ·exact .nil
 ·intro x w xs ws _ _ r1 r2; exact .cons r1 r2
theorem RelWs.mono (e : Ext ι N G ι' N' G') : ∀ {vs : List V} {ws : List W}, RelWs K ι N G vs ws->RelWs K ι' N' G' vs ws
 | _, _, .nil => .nil
 | _, _, .cons r t => .cons (r.mono e) (RelWs.mono e t)
theorem RelWs.length : ∀ {vs : List V} {ws : List W}, RelWs K ι N G vs ws->vs.length = ws.length
 | _, _, .nil => rfl
 | _, _, .cons _ t => by rw [QkH, QkH, RelWs.length t]
theorem RelWs.get : ∀ {vs : List V} {ws : List W} {i : Nat} {w : W}, RelWs K ι N G vs ws->ws[i]? = some w->∃ v, vs[i]? = some v/\RelW K ι N G v w
 | _, _, _, _, .nil, e => by simp at e
 | _, _, 0, _, .cons r _, e => by simp at e; subst e; exact ⟨_, rfl, r⟩
 | _, _, i + 1, x, .cons _ t, e => by
  obtain ⟨u, h1, h2⟩ := RelWs.get (i := i) (w := x) t (by simpa using e)
  exact ⟨u, by simpa using h1, h2⟩
theorem RelWs.get' : ∀ {vs : List V} {ws : List W} {i : Nat} {v : V}, RelWs K ι N G vs ws->vs[i]? = some v->∃ w, ws[i]? = some w/\RelW K ι N G v w
 | _, _, _, _, .nil, e => by simp at e
 | _, _, 0, _, .cons r _, e => by simp at e; subst e; exact ⟨_, rfl, r⟩
 | _, _, i + 1, x, .cons _ t, e => by
  obtain ⟨u, h1, h2⟩ := RelWs.get' (i := i) (v := x) t (by simpa using e)
  exact ⟨u, by simpa using h1, h2⟩
theorem RelWs.append : ∀ {vs vs' : List V} {ws ws' : List W}, RelWs K ι N G vs ws->RelWs K ι N G vs' ws'->RelWs K ι N G (vs ++ vs') (ws ++ ws')
 | _, _, _, _, .nil, s => s
 | _, _, _, _, .cons r t, s => .cons r (RelWs.append t s)
theorem RelWs.take : ∀ {vs : List V} {ws : List W} (n : Nat), RelWs K ι N G vs ws->RelWs K ι N G (vs.take n) (ws.take n)
 | _, _, 0, _ => .nil
 | _, _, _ + 1, .nil => .nil
 | _, _, n + 1, .cons r t => .cons r (RelWs.take n t)
theorem RelWs.drop : ∀ {vs : List V} {ws : List W} (n : Nat), RelWs K ι N G vs ws->RelWs K ι N G (vs.drop n) (ws.drop n)
 | _, _, 0, r => r
 | _, _, _ + 1, .nil => .nil
 | _, _, n + 1, .cons _ t => RelWs.drop n t
theorem RelWs.set {v : V} {w : W} (r : RelW K ι N G v w) : ∀ {vs : List V} {ws : List W} (n : Nat), RelWs K ι N G vs ws->RelWs K ι N G (vs.set n v) (ws.set n w)
 | _, _, _, .nil => .nil
 | _, _, 0, .cons _ t => .cons r t
 | _, _, n + 1, .cons q t => .cons q (RelWs.set r n t)
theorem RelWs.ofInts (ns : List Int) : RelWs K ι N G (ns.map V.int) (ns.map W.int) := by
 induction ns with
 | nil => exact .nil
 | cons n ns ih => exact .cons (.int n) ih
def MOR (K : PySem.W.Frag) (ι : Nat->Addr) (N : Nat) (G H : Hp) (a : Addr) : MO->Prop
 | .lst ws => ∃ xs, H a = some (.lst xs)/\RelWs K ι N G xs ws
 | .dct ks ws => ∃ xs, H a = some (dKo (ks.zip xs))/\xs.length = ks.length/\RelWs K ι N G xs ws
structure SR (K : PySem.W.Frag) (ι : Nat->Addr) (st : S) (G H : Hp) : Prop where
 sub : Same G H
 live : ∀ n o, st.mu n = some o->n < st.nxt/\G (ι n) = none/\MOR K ι st.nxt G H (ι n) o
 inj : ∀ n m o o', st.mu n = some o->st.mu m = some o'->ι n = ι m->n = m
end
structure EnvR (K : PySem.W.Frag) (ι : Nat->Addr) (N : Nat) (G : Hp) (σ : St) (Γ : Ga) : Prop where
 len : σ.length = Γ.length
 get : ∀ (i : Nat) (w : W), Γ[i]? = some (some w)->∃ v, σ[i]? = some (some v)/\RelW K ι N G v w
theorem EnvR.mono {K : PySem.W.Frag} {ι ι' : Nat->Addr} {N N' : Nat} {G G' : Hp} {σ : St} {Γ : Ga} (e : Ext ι N G ι' N' G') (h : EnvR K ι N G σ Γ) : EnvR K ι' N' G' σ Γ :=
 ⟨h.len, fun i w q => let ⟨v, h1, h2⟩ := h.get i w q; ⟨v, h1, h2.mono e⟩⟩
theorem EnvR.set {K : PySem.W.Frag} {ι : Nat->Addr} {N : Nat} {G : Hp} {σ : St} {Γ : Ga} {v : V} {w : W} (h : EnvR K ι N G σ Γ) (i : Nat) (r : RelW K ι N G v w) : EnvR K ι N G (σ.set i (some v)) (Γ.set i (some w)) := by
 refine ⟨by rw [List.length_set, List.length_set]; exact h.len, fun j u q => ?_⟩
 rw [List.getElem?_set] at q ⊢
 by_cases hij : i = j
 ·rw [if_pos hij] at q ⊢
  subst hij
  by_cases hl : i < Γ.length
  ·rw [if_pos hl] at q
   rw [if_pos (by rw [h.len]; exact hl)]
   cases q
   exact ⟨v, rfl, r⟩
  ·rw [if_neg hl] at q; cases q
 ·rw [if_neg hij] at q ⊢
  exact h.get j u q
section
variable {K : PySem.W.Frag} {ι : Nat->Addr} {st : S} {G H : Hp}
theorem SR.laid (h : SR K ι st G H) {p : Addr} {o : HO} (hp : H p = none) : SR K ι st (upd G p o) (upd H p o)/\Ext ι st.nxt G ι st.nxt (upd G p o) := by
 have hG : G p = none := h.sub.free hp
 have sm : Same G (upd G p o) := fun b u e => by rw [Qaj (Qal e hG)]; exact e
 have ex : Ext ι st.nxt G ι st.nxt (upd G p o) := ⟨Qky _, fun _ _ => rfl, sm⟩
 refine ⟨⟨fun b u e => ?_, fun n m e => ?_, h.inj⟩, ex⟩
 ·by_cases hb : b = p
  ·subst hb; rw [Qar] at e ⊢; exact e
  ·rw [Qaj hb] at e ⊢; exact h.sub b u e
 ·obtain ⟨h1, h2, h3⟩ := h.live n m e
  have hne : ι n ≠ p := by
   intro z
   cases m with
   | lst ws => obtain ⟨xs, q, _⟩ := h3; rw [z, hp] at q; cases q
   | dct ks ws => obtain ⟨xs, q, _⟩ := h3; rw [z, hp] at q; cases q
  refine ⟨h1, by rw [Qaj hne]; exact h2, ?_⟩
  cases m with
  | lst ws => obtain ⟨xs, q, r⟩ := h3; exact ⟨xs, by rw [Qaj hne]; exact q, r.mono ex⟩
  | dct ks ws => obtain ⟨xs, q, l, r⟩ := h3; exact ⟨xs, by rw [Qaj hne]; exact q, l, r.mono ex⟩
def S.new (st : S) (o : MO) : S := ⟨st.nxt + 1, fun n => if n = st.nxt then some o else st.mu n⟩
def S.put (st : S) (n : Nat) (o : MO) : S := ⟨st.nxt, fun m => if m = n then some o else st.mu m⟩
theorem SR.newL (h : SR K ι st G H) {p : Addr} {xs : List V} {ws : List W} (hp : H p = none) (r : RelWs K ι st.nxt G xs ws) :
  ∃ ι', Ext ι st.nxt G ι' (st.nxt + 1) G/\SR K ι' (st.new (.lst ws)) G (upd H p (.lst xs))/\ι' st.nxt = p := by
 have hG : G p = none := h.sub.free hp
 have ex : Ext ι st.nxt G (fun n => if n = st.nxt then p else ι n) (st.nxt + 1) G := ⟨Nat.le_succ _, fun n hn => if_neg (QkF hn), Same.refl G⟩
 have nep : ∀ n o, st.mu n = some o->ι n ≠ p := fun n o e z => by
  obtain ⟨_, _, h3⟩ := h.live n o e
  cases o with
  | lst ws => obtain ⟨xs, q, _⟩ := h3; rw [z, hp] at q; cases q
  | dct ks ws => obtain ⟨xs, q, _⟩ := h3; rw [z, hp] at q; cases q
 refine ⟨fun n => if n = st.nxt then p else ι n, ex, ⟨fun b u e => ?_, fun n o e => ?_, fun n m o o' e e' z => ?_⟩, if_pos rfl⟩
 ·rw [Qaj (Qal e hG)]; exact h.sub b u e
 ·by_cases hn : n = st.nxt
  ·subst hn
   have e' : (if st.nxt = st.nxt then some (MO.lst ws) else st.mu st.nxt) = some o := e
   rw [if_pos rfl] at e'
   cases e'
   refine ⟨Nat.lt_succ_self _, by (try dsimp only); rw [if_pos rfl]; exact hG, xs, by (try dsimp only); rw [if_pos rfl, Qar], r.mono ex⟩
  ·have e' : (if n = st.nxt then some (MO.lst ws) else st.mu n) = some o := e
   rw [if_neg hn] at e'
   obtain ⟨h1, h2, h3⟩ := h.live n o e'
   have hne := nep n o e'
   refine ⟨Nat.lt_succ_of_lt h1, by (try dsimp only); rw [if_neg hn]; exact h2, ?_⟩
   cases o with
   | lst ws => obtain ⟨xs, q, r⟩ := h3; exact ⟨xs, by (try dsimp only); rw [if_neg hn, Qaj hne]; exact q, r.mono ex⟩
   | dct ks ws => obtain ⟨xs, q, l, r⟩ := h3; exact ⟨xs, by (try dsimp only); rw [if_neg hn, Qaj hne]; exact q, l, r.mono ex⟩
 ·have e1 : (if n = st.nxt then some (MO.lst ws) else st.mu n) = some o := e
  have e2 : (if m = st.nxt then some (MO.lst ws) else st.mu m) = some o' := e'
  (try dsimp only at z)
  by_cases hn : n = st.nxt
  ·by_cases hm : m = st.nxt
   ·rw [hn, hm]
   ·rw [if_neg hm] at e2
    rw [if_pos hn, if_neg hm] at z
    exact absurd z.symm (nep m o' e2)
  ·rw [if_neg hn] at e1
   by_cases hm : m = st.nxt
   ·rw [if_neg hn, if_pos hm] at z
    exact absurd z (nep n o e1)
   ·rw [if_neg hm] at e2
    rw [if_neg hn, if_neg hm] at z
    exact h.inj n m o o' e1 e2 z
theorem SR.putL (h : SR K ι st G H) {n : Nat} {o : MO} {xs : List V} {ws : List W} (hn : st.mu n = some o) (r : RelWs K ι st.nxt G xs ws) : SR K ι (st.put n (.lst ws)) G (upd H (ι n) (.lst xs)) := by
 obtain ⟨h1, h2, _⟩ := h.live n o hn
 refine ⟨fun b u e => ?_, fun m u e => ?_, fun a b u u' e e' z => ?_⟩
 ·rw [Qaj (Qal e h2)]; exact h.sub b u e
 ·have e' : (if m = n then some (MO.lst ws) else st.mu m) = some u := e
  by_cases hm : m = n
  ·subst hm
   rw [if_pos rfl] at e'
   cases e'
   exact ⟨h1, h2, xs, Qar, r⟩
  ·rw [if_neg hm] at e'
   obtain ⟨g1, g2, g3⟩ := h.live m u e'
   have hne : ι m ≠ ι n := fun z => hm (h.inj m n u o e' hn z)
   refine ⟨g1, g2, ?_⟩
   cases u with
   | lst ws => obtain ⟨xs, q, r⟩ := g3; exact ⟨xs, by rw [Qaj hne]; exact q, r⟩
   | dct ks ws => obtain ⟨xs, q, l, r⟩ := g3; exact ⟨xs, by rw [Qaj hne]; exact q, l, r⟩
 ·have e1 : (if a = n then some (MO.lst ws) else st.mu a) = some u := e
  have e2 : (if b = n then some (MO.lst ws) else st.mu b) = some u' := e'
  have l1 : ∃ o, st.mu a = some o := by
   by_cases q : a = n
   ·exact ⟨o, by rw [q]; exact hn⟩
   ·rw [if_neg q] at e1; exact ⟨u, e1⟩
  have l2 : ∃ o, st.mu b = some o := by
   by_cases q : b = n
   ·exact ⟨o, by rw [q]; exact hn⟩
   ·rw [if_neg q] at e2; exact ⟨u', e2⟩
  obtain ⟨o1, l1⟩ := l1
  obtain ⟨o2, l2⟩ := l2
  exact h.inj a b o1 o2 l1 l2 z
end
def ClsR (K : PySem.W.Frag) (c : W) (cls : Value) : Prop := ∃ x C, c = .str x/\PySem.W.nsIn K mainGlobals x = some (some (.ref C))/\cls = .ref C
def XW (X : Cx) (ι : Nat->Addr) (N : Nat) (G : Hp) (c : W) (st' : S) : Prop :=
 ∀ (H' : Hp) (ι' : Nat->Addr) (G' : Hp) (ea : Addr) (cls : Value) (s' : Shared), Ext ι N G ι' st'.nxt G'->SR X.K ι' st' G' H'->ClsR X.K c cls->ExcIn X H' ea cls s'->X.xe (.ref ea) s'
theorem XW.mono {X : Cx} {ι ι1 : Nat->Addr} {N N1 : Nat} {G G1 : Hp} {c : W} {st' : S} (e : Ext ι N G ι1 N1 G1) (h : XW X ι N G c st') : XW X ι1 N1 G1 c st' :=
 fun H' ι' G' x cl s' e' r q I => h H' ι' G' x cl s' (e.trans e') r q I
def wpR (X : Cx) {α : Type} (Rel : (ι : Nat->Addr)->Nat->Hp->α->V->Prop) (ι : Nat->Addr) (N : Nat) (G : Hp) (r : R α) (Q : VK) : Prop := match r with
 | .ok w st' => ∀ v ι' G' H', Ext ι N G ι' st'.nxt G'->SR X.K ι' st' G' H'->Rel ι' st'.nxt G' w v->Q v H'
 | .ex c st' => XW X ι N G c st'
 | .stuck => False
abbrev RW (X : Cx) : (ι : Nat->Addr)->Nat->Hp->W->V->Prop := fun ι N G w v => RelW X.K ι N G v w
abbrev wpW (X : Cx) := wpR X (RW X)
theorem wpW.bind {X : Cx} {ι : Nat->Addr} {N : Nat} {G : Hp} {r : R W} {f : W->S->R W} {Q Q' : VK} (h : wpW X ι N G (r.bind f) Q)
  (k : ∀ w st' v ι' G' H', r = .ok w st'->Ext ι N G ι' st'.nxt G'->SR X.K ι' st' G' H'->RelW X.K ι' st'.nxt G' v w->wpW X ι' st'.nxt G' (f w st') Q->Q' v H') : wpW X ι N G r Q' := by
 cases r with
 | stuck => exact h
 | ex c s => exact h
 | ok w st' =>
  intro v ι' G' H' e sr rel
  refine k w st' v ι' G' H' rfl e sr rel ?_
  have h' : wpW X ι N G (f w st') Q := h
  cases q : f w st' with
  | stuck => rw [q] at h'; exact h'
  | ex c s => rw [q] at h'; exact XW.mono e h'
  | ok w2 st2 =>
   rw [q] at h'
   exact fun v2 ι2 G2 H2 e2 sr2 rel2 => h' v2 ι2 G2 H2 (e.trans e2) sr2 rel2
theorem wpW.mono {X : Cx} {ι : Nat->Addr} {N : Nat} {G : Hp} {r : R W} {Q Q' : VK} (h : wpW X ι N G r Q) (k : ∀ v H, Q v H->Q' v H) : wpW X ι N G r Q' := by
 cases r with
 | stuck => exact h
 | ex c s => exact h
 | ok w st' => exact fun v ι' G' H' e sr rel => k _ _ (h v ι' G' H' e sr rel)
theorem wpW.later {X : Cx} {ι ι1 : Nat->Addr} {N N1 : Nat} {G G1 : Hp} {r : R W} {Q : VK} (e : Ext ι N G ι1 N1 G1) (h : wpW X ι N G r Q) : wpW X ι1 N1 G1 r Q := by
 cases r with
 | stuck => exact h
 | ex c s => exact XW.mono e h
 | ok w st' => exact fun v ι' G' H' e' sr rel => h v ι' G' H' (e.trans e') sr rel
abbrev Run := Ga->S->R W
def tD (X : Cx) (run : Run) : TE := fun σ H Q => ∃ ι G st Γ, EnvR X.K ι st.nxt G σ Γ/\SR X.K ι st G H/\wpW X ι st.nxt G (run Γ st) Q
abbrev PD (X : Cx) (e : Expr) (run : Run) : Prop := PE X e (tD X run)
theorem PE.imp {X : Cx} {e : Expr} {t t' : TE} (h : PE X e t) (k : ∀ σ H Q, t' σ H Q->t σ H Q) : PE X e t' := fun pins s σ H Q I q => h pins s σ H Q I (k σ H Q q)
theorem PT.imp {X : Cx} {e : Expr} {t t' : TT} (h : PT X e t) (k : ∀ σ H Q, t' σ H Q->t σ H Q) : PT X e t' := fun pins s σ H Q I q => h pins s σ H Q I (k σ H Q q)
theorem PS.imp {X : Cx} {e : Stmt} {t t' : TS} (h : PS X e t) (k : ∀ D σ H, t' D σ H->t D σ H) : PS X e t' := fun pins s σ H D I q => h pins s σ H D I (k D σ H q)
theorem PSs.imp {X : Cx} {e : List Stmt} {t t' : TS} (h : PSs X e t) (k : ∀ D σ H, t' D σ H->t D σ H) : PSs X e t' := fun pins s σ H D I q => h pins s σ H D I (k D σ H q)
theorem PA.imp {X : Cx} {e : List Expr} {t t' : TA} (h : PA X e t) (k : ∀ σ H Q, t' σ H Q->t σ H Q) : PA X e t' := fun pos pins s σ H Q I q => h pos pins s σ H Q I (k σ H Q q)
def tDT (X : Cx) (run : Run) : TT := fun σ H Q => tD X run σ H fun v H' => ∃ b, v = .bl b/\Q b H'
section
variable {X : Cx}
def rVar (i : Nat) : Run := fun Γ st => match Γ[i]? with
 | some (some w) => .ok w st
 | _ => .stuck
theorem pd_var {i : Nat} {x : Str} {pos : Pos} (hN : X.N[i]? = some x) (hv : Vis X.env.scope x) (hd : (x == ("__debug__" : Str)) = false) (hcd : (x == ("__classdict__" : Str)) = false) : PD X (.Name x pos) (rVar i) := by
 refine PE.imp (pe_var hN hv hd hcd) fun σ H Q h => ?_
 obtain ⟨ι, G, st, Γ, en, sr, q⟩ := h
 unfold rVar at q
 cases e : Γ[i]? with
 | none => rw [e] at q; exact q.elim
 | some o =>
  cases o with
  | none => rw [e] at q; exact q.elim
  | some w =>
   rw [e] at q
   obtain ⟨v, h1, h2⟩ := en.get i w e
   exact ⟨v, h1, q v ι G H (Ext.refl _ _ _) sr h2⟩
def rCon (w : W) : Run := fun _ st => .ok w st
theorem QdO {e : Expr} {v : V} {w : W} (h : PE X e (tC v)) (r : ∀ ι N G, RelW X.K ι N G v w) : PD X e (rCon w) := by
 refine PE.imp h fun σ H Q h => ?_
 obtain ⟨ι, G, st, Γ, en, sr, q⟩ := h
 exact q v ι G H (Ext.refl _ _ _) sr (r _ _ _)
abbrev Op2 := W->W->S->R W
def OpW (X : Cx) (f : Value->Value->Sem Value) (op : Op2) : Prop :=
 ∀ (pins : List (Addr × Obj)) (s : Shared) (σ : St) (H : Hp) (ι : Nat->Addr) (G : Hp) (st : S) (x y : V) (w1 w2 : W) (v u : Value) (Q : VK), Inv X pins σ H s->SR X.K ι st G H->RelV x v->RelV y u->RelW X.K ι st.nxt G x w1->RelW X.K ι st.nxt G y w2 ->
  wpW X ι st.nxt G (op w1 w2 st) Q->wpAny (model X.prog X.w) X.A (f v u) (EP X pins σ Q) X.xe s
def rOp (X : Cx) (op : Op2) : R2 := fun x y H Q => ∃ ι G st w1 w2, SR X.K ι st G H/\RelW X.K ι st.nxt G x w1/\RelW X.K ι st.nxt G y w2/\wpW X ι st.nxt G (op w1 w2 st) Q
theorem OpW.r {f : Value->Value->Sem Value} {op : Op2} (h : OpW X f op) : OpR X f (rOp X op) :=
 fun pins s σ H x y v u Q I rx ry ⟨ι, G, st, w1, w2, sr, r1, r2, q⟩ => h pins s σ H ι G st x y w1 w2 v u Q I sr rx ry r1 r2 q
def run2 (ra rb : Run) (op : Op2) : Run := fun Γ st => (ra Γ st).bind fun w1 st1 => (rb Γ st1).bind fun w2 st2 => op w1 w2 st2
theorem tD_op {ra rb : Run} {op : Op2} {σ : St} {H : Hp} {Q : VK} (h : tD X (run2 ra rb op) σ H Q) : tOp (rOp X op) (tD X ra) (tD X rb) σ H Q := by
 obtain ⟨ι, G, st, Γ, en, sr, q⟩ := h
 refine ⟨ι, G, st, Γ, en, sr, wpW.bind q fun w1 st1 v1 ι1 G1 H1 _ e1 sr1 r1 q1 => ?_⟩
 refine ⟨ι1, G1, st1, Γ, en.mono e1, sr1, wpW.bind q1 fun w2 st2 v2 ι2 G2 H2 _ e2 sr2 r2 q2 => ?_⟩
 exact ⟨ι2, G2, st2, w1, w2, sr2, r1.mono e2, r2, q2⟩
theorem pd_op {a b : Expr} {op : Operator} {pos : Pos} {ra rb : Run} {o : Op2} (ho : OpW X (binaryOp op) o) (ha : PD X a ra) (hb : PD X b rb) : PD X (.BinOp a op b pos) (run2 ra rb o) :=
 PE.imp (pe_op ho.r ha hb) fun _ _ _ h => tD_op h
theorem pd_cmp {a b : Expr} {op : CmpOp} {pos : Pos} {ra rb : Run} {o : Op2} (ho : OpW X (compareOp op) o) (ha : PD X a ra) (hb : PD X b rb) (hm : behindInMarks op b = false) : PD X (.Compare a [op] [b] pos) (run2 ra rb o) :=
 PE.imp (QiG ho.r ha hb hm) fun _ _ _ h => tD_op h
theorem pdt_cmp {a b : Expr} {op : CmpOp} {pos : Pos} {ra rb : Run} {o : Op2} (ho : OpW X (compareOp op) o) (ha : PD X a ra) (hb : PD X b rb) (hm : behindInMarks op b = false) : PT X (.Compare a [op] [b] pos) (tDT X (run2 ra rb o)) :=
 PT.imp (Qiy ho.r ha hb hm) fun _ _ _ h => tD_op h
def Qiu (ra rb : Run) : Run := fun Γ st => (ra Γ st).bind fun w st1 => match w with
 | .bl true => rb Γ st1
 | .bl false => .ok (.bl false) st1
 | _ => .stuck
def Qbu (ra rb : Run) : Run := fun Γ st => (ra Γ st).bind fun w st1 => match w with
 | .bl true => .ok (.bl true) st1
 | .bl false => rb Γ st1
 | _ => .stuck
def Qbz (ra : Run) : Run := fun Γ st => (ra Γ st).bind fun w st1 => match w with
 | .bl b => .ok (.bl (!b)) st1
 | _ => .stuck
def runIf (rc ra rb : Run) : Run := fun Γ st => (rc Γ st).bind fun w st1 => match w with
 | .bl true => ra Γ st1
 | .bl false => rb Γ st1
 | _ => .stuck
theorem pd_one {a : Expr} {op : BoolOp} {pos : Pos} {ra : Run} (ha : PD X a ra) : PD X (.BoolOp op [a] pos) ra := pe_one ha
theorem pd_and {a b : Expr} {rest : List Expr} {pos : Pos} {ra rb : Run} (ha : PD X a ra) (hb : PD X (.BoolOp .And (b :: rest) pos) rb) : PD X (.BoolOp .And (a :: b :: rest) pos) (Qiu ra rb) := by
 refine PE.imp (pe_and ha hb) fun σ H Q h => ?_
 obtain ⟨ι, G, st, Γ, en, sr, q⟩ := h
 refine ⟨ι, G, st, Γ, en, sr, wpW.bind q fun w st1 v ι1 G1 H1 _ e1 sr1 r1 q1 => ?_⟩
 cases w with
 | bl b =>
  cases r1
  refine ⟨b, rfl, ?_⟩
  cases b with
  | false => rw [if_neg Qkr]; exact q1 _ ι1 G1 H1 (Ext.refl _ _ _) sr1 (.bl false)
  | true => rw [if_pos rfl]; exact ⟨ι1, G1, st1, Γ, en.mono e1, sr1, q1⟩
 | _ => exact (show False from q1).elim
theorem pd_or {a b : Expr} {rest : List Expr} {pos : Pos} {ra rb : Run} (ha : PD X a ra) (hb : PD X (.BoolOp .Or (b :: rest) pos) rb) : PD X (.BoolOp .Or (a :: b :: rest) pos) (Qbu ra rb) := by
 refine PE.imp (pe_or ha hb) fun σ H Q h => ?_
 obtain ⟨ι, G, st, Γ, en, sr, q⟩ := h
 refine ⟨ι, G, st, Γ, en, sr, wpW.bind q fun w st1 v ι1 G1 H1 _ e1 sr1 r1 q1 => ?_⟩
 cases w with
 | bl b =>
  cases r1
  refine ⟨b, rfl, ?_⟩
  cases b with
  | true => rw [if_pos rfl]; exact q1 _ ι1 G1 H1 (Ext.refl _ _ _) sr1 (.bl true)
  | false => rw [if_neg Qkr]; exact ⟨ι1, G1, st1, Γ, en.mono e1, sr1, q1⟩
 | _ => exact (show False from q1).elim
theorem pd_not {a : Expr} {pos : Pos} {ra : Run} (ha : PD X a ra) : PD X (.UnaryOp .Not a pos) (Qbz ra) := by
 refine PE.imp (pe_not ha) fun σ H Q h => ?_
 obtain ⟨ι, G, st, Γ, en, sr, q⟩ := h
 refine ⟨ι, G, st, Γ, en, sr, wpW.bind q fun w st1 v ι1 G1 H1 _ e1 sr1 r1 q1 => ?_⟩
 cases w with
 | bl b => cases r1; exact ⟨b, rfl, q1 _ ι1 G1 H1 (Ext.refl _ _ _) sr1 (.bl _)⟩
 | _ => exact (show False from q1).elim
theorem pdt_not {a : Expr} {pos : Pos} {ra : Run} (ha : PT X a (tDT X ra)) : PT X (.UnaryOp .Not a pos) (tDT X (Qbz ra)) := by
 refine PT.imp (pt_not ha) fun σ H Q h => ?_
 obtain ⟨ι, G, st, Γ, en, sr, q⟩ := h
 refine ⟨ι, G, st, Γ, en, sr, wpW.bind q fun w st1 v ι1 G1 H1 _ e1 sr1 r1 q1 => ?_⟩
 cases w with
 | bl b =>
  cases r1
  obtain ⟨b', e, q'⟩ := q1 _ ι1 G1 H1 (Ext.refl _ _ _) sr1 (.bl _)
  cases e
  exact ⟨b, rfl, q'⟩
 | _ => exact (show False from q1).elim
theorem pwt_one {a : Expr} {op : BoolOp} {pos : Pos} {ra : Run} (ha : PT X a (tDT X ra)) : PW X (.BoolOp op [a] pos) (tDT X ra) := by
 cases op with
 | And => exact pw_and1 ha
 | Or => exact pw_or1 ha
theorem PW.imp {e : Expr} {t t' : TT} (h : PW X e t) (k : ∀ σ H Q, t' σ H Q->t σ H Q) : PW X e t' := fun whole pins s σ H Q I q => h whole pins s σ H Q I (k σ H Q q)
theorem pwt_and {a b : Expr} {rest : List Expr} {pos : Pos} {ra rb : Run} (ha : PT X a (tDT X ra)) (hb : PW X (.BoolOp .And (b :: rest) pos) (tDT X rb)) : PW X (.BoolOp .And (a :: b :: rest) pos) (tDT X (Qiu ra rb)) := by
 refine PW.imp (pw_and ha hb) fun σ H Q h => ?_
 obtain ⟨ι, G, st, Γ, en, sr, q⟩ := h
 refine ⟨ι, G, st, Γ, en, sr, wpW.bind q fun w st1 v ι1 G1 H1 _ e1 sr1 r1 q1 => ?_⟩
 cases w with
 | bl b =>
  cases r1
  refine ⟨b, rfl, ?_⟩
  cases b with
  | false =>
   rw [if_neg Qkr]
   obtain ⟨b', e, q'⟩ := q1 _ ι1 G1 H1 (Ext.refl _ _ _) sr1 (.bl false)
   cases e; exact q'
  | true => rw [if_pos rfl]; exact ⟨ι1, G1, st1, Γ, en.mono e1, sr1, q1⟩
 | _ => exact (show False from q1).elim
theorem pwt_or {a b : Expr} {rest : List Expr} {pos : Pos} {ra rb : Run} (ha : PT X a (tDT X ra)) (hb : PW X (.BoolOp .Or (b :: rest) pos) (tDT X rb)) : PW X (.BoolOp .Or (a :: b :: rest) pos) (tDT X (Qbu ra rb)) := by
 refine PW.imp (pw_or ha hb) fun σ H Q h => ?_
 obtain ⟨ι, G, st, Γ, en, sr, q⟩ := h
 refine ⟨ι, G, st, Γ, en, sr, wpW.bind q fun w st1 v ι1 G1 H1 _ e1 sr1 r1 q1 => ?_⟩
 cases w with
 | bl b =>
  cases r1
  refine ⟨b, rfl, ?_⟩
  cases b with
  | true =>
   rw [if_pos rfl]
   obtain ⟨b', e, q'⟩ := q1 _ ι1 G1 H1 (Ext.refl _ _ _) sr1 (.bl true)
   cases e; exact q'
  | false => rw [if_neg Qkr]; exact ⟨ι1, G1, st1, Γ, en.mono e1, sr1, q1⟩
 | _ => exact (show False from q1).elim
theorem pd_if {c a b : Expr} {pos : Pos} {rc ra rb : Run} (hc : PT X c (tDT X rc)) (ha : PD X a ra) (hb : PD X b rb) : PD X (.IfExp c a b pos) (runIf rc ra rb) := by
 refine PE.imp (pe_ifExp hc ha hb) fun σ H Q h => ?_
 obtain ⟨ι, G, st, Γ, en, sr, q⟩ := h
 refine ⟨ι, G, st, Γ, en, sr, wpW.bind q fun w st1 v ι1 G1 H1 _ e1 sr1 r1 q1 => ?_⟩
 cases w with
 | bl b =>
  cases r1
  refine ⟨b, rfl, ?_⟩
  cases b with
  | true => rw [if_pos rfl]; exact ⟨ι1, G1, st1, Γ, en.mono e1, sr1, q1⟩
  | false => rw [if_neg Qkr]; exact ⟨ι1, G1, st1, Γ, en.mono e1, sr1, q1⟩
 | _ => exact (show False from q1).elim
theorem pdt_val {e : Expr} {r : Run} (h : PD X e r) (he : ∀ whole, isTrue e X.env whole = (do let v <-whole; standAt e.pos; holding [v] (truthy v))) : PT X e (tDT X r) := pt_val h he
abbrev Runs := Ga->S->R (List W)
def tDA (X : Cx) (run : Runs) : TA := fun σ H Q => ∃ ι G st Γ, EnvR X.K ι st.nxt G σ Γ/\SR X.K ι st G H/\(match run Γ st with
 | .ok ws st' => ∀ vs ι' G' H', Ext ι st.nxt G ι' st'.nxt G'->SR X.K ι' st' G' H'->RelWs X.K ι' st'.nxt G' vs ws->Q vs H'
 | .ex c st' => XW X ι st.nxt G c st'
 | .stuck => False)
abbrev PDA (X : Cx) (es : List Expr) (run : Runs) : Prop := PA X es (tDA X run)
def Qac : Runs := fun _ st => .ok [] st
def Qaa (ra : Run) (rr : Runs) : Runs := fun Γ st => (ra Γ st).bind fun w st1 => (rr Γ st1).bind fun ws st2 => .ok (w :: ws) st2
theorem QfP : PDA X [] Qac := by
 refine PA.imp pa_nil fun σ H Q h => ?_
 obtain ⟨ι, G, st, Γ, en, sr, q⟩ := h
 exact q [] ι G H (Ext.refl _ _ _) sr .nil
theorem Qek {e : Expr} {es : List Expr} {ra : Run} {rr : Runs} (ha : PD X e ra) (hr : PDA X es rr) (hs : starEach (e :: es) X.env = (false, eval e X.env) :: starEach es X.env) : PDA X (e :: es) (Qaa ra rr) := by
 refine PA.imp (pa_cons ha hr hs) fun σ H Q h => ?_
 obtain ⟨ι, G, st, Γ, en, sr, q⟩ := h
 refine ⟨ι, G, st, Γ, en, sr, ?_⟩
 unfold Qaa at q
 cases e1 : ra Γ st with
 | stuck => rw [e1] at q; exact q
 | ex c s => rw [e1] at q; exact q
 | ok w st1 =>
  rw [e1] at q
  intro v ι1 G1 H1 x1 sr1 r1
  refine ⟨ι1, G1, st1, Γ, en.mono x1, sr1, ?_⟩
  have q' : match (rr Γ st1).bind fun ws st2 => R.ok (w :: ws) st2 with
   | .ok ws st' => ∀ vs ι' G' H', Ext ι st.nxt G ι' st'.nxt G'->SR X.K ι' st' G' H'->RelWs X.K ι' st'.nxt G' vs ws->Q vs H'
   | .ex c st' => XW X ι st.nxt G c st'
   | .stuck => False := q
  cases e2 : rr Γ st1 with
  | stuck => rw [e2] at q'; exact q'
  | ex c s => rw [e2] at q'; exact XW.mono x1 q'
  | ok ws st2 =>
   rw [e2] at q'
   exact fun vs ι2 G2 H2 x2 sr2 r2 => q' (v :: vs) ι2 G2 H2 (x1.trans x2) sr2 (.cons (r1.mono x2) r2)
abbrev OpN := List W->S->R W
def runN (rr : Runs) (op : OpN) : Run := fun Γ st => (rr Γ st).bind op
theorem Qea {rr : Runs} {op : OpN} {σ : St} {H : Hp} {Q : VK} {Q' : List V->Hp->Prop} (h : tD X (runN rr op) σ H Q)
  (k : ∀ ws st' vs ι' G' H', SR X.K ι' st' G' H'->RelWs X.K ι' st'.nxt G' vs ws->wpW X ι' st'.nxt G' (op ws st') Q->Q' vs H') : tDA X rr σ H Q' := by
 obtain ⟨ι, G, st, Γ, en, sr, q⟩ := h
 refine ⟨ι, G, st, Γ, en, sr, ?_⟩
 unfold runN at q
 cases e1 : rr Γ st with
 | stuck => rw [e1] at q; exact q
 | ex c s => rw [e1] at q; exact q
 | ok ws st1 =>
  rw [e1] at q
  intro vs ι1 G1 H1 x1 sr1 r1
  exact k ws st1 vs ι1 G1 H1 sr1 r1 (wpW.later x1 (show wpW X ι st.nxt G (op ws st1) Q from q))
def QdE (X : Cx) (f : Value) (op : OpN) : Prop :=
 ∀ (pins : List (Addr × Obj)) (s : Shared) (σ : St) (H : Hp) (ι : Nat->Addr) (G : Hp) (st : S) (xs : List V) (ws : List W) (us : List Value) (Q : VK), Inv X pins σ H s->SR X.K ι st G H->Vals xs us->RelWs X.K ι st.nxt G xs ws ->
  wpW X ι st.nxt G (op ws st) Q->wpAny (model X.prog X.w) X.A (call f us) (EP X pins σ Q) X.xe s
def rCall (X : Cx) (op : OpN) : List V->Hp->VK->Prop := fun xs H Q => ∃ ι G st ws, SR X.K ι st G H/\RelWs X.K ι st.nxt G xs ws/\wpW X ι st.nxt G (op ws st) Q
theorem QdE.r {f : Value} {op : OpN} (h : QdE X f op) : Qgv X f (rCall X op) := fun pins s σ H xs us Q I r ⟨ι, G, st, ws, sr, r1, q⟩ => h pins s σ H ι G st xs ws us Q I sr r r1 q
theorem QgB {rr : Runs} {op : OpN} {σ : St} {H : Hp} {Q : VK} (h : tD X (runN rr op) σ H Q) : tCB (rCall X op) (tDA X rr) σ H Q :=
 Qea h fun ws st' vs ι' G' H' sr r q => ⟨ι', G', st', ws, sr, r, q⟩
def Qap : OpN := fun ws st => if ws.length<=sizeLine then .ok (.tup ws) st else .stuck
def Qem : OpN := fun ws st => if ws.length<=sizeLine then .ok (.lst ws) st else .stuck
def QcC : OpN := fun ws st => if ws.length<=sizeLine then .ok (.ref st.nxt) (st.new (.lst ws)) else .stuck
theorem QgA {ι : Nat->Addr} {G H : Hp} {st : S} {xs : List V} {ws : List W} {Q : VK} (sr : SR X.K ι st G H) (r : RelWs X.K ι st.nxt G xs ws) (q : wpW X ι st.nxt G (Qap ws st) Q) : xs.length<=sizeLine/\∀ p, H p = none->Q (.ref p) (upd H p (.tup xs)) := by
 unfold Qap at q
 by_cases hl : ws.length<=sizeLine
 ·rw [if_pos hl] at q
  refine ⟨by rw [r.length]; exact hl, fun p hp => ?_⟩
  obtain ⟨s2, e2⟩ := sr.laid (o := .tup xs) hp
  exact q _ ι _ _ e2 s2 (.tup (.inl (.inl Qar)) (fun _ => Qar) (r.mono e2))
 ·rw [if_neg hl] at q; exact q.elim
theorem Qcf {ι : Nat->Addr} {G H : Hp} {st : S} {xs : List V} {ws : List W} {Q : VK} (sr : SR X.K ι st G H) (r : RelWs X.K ι st.nxt G xs ws) (q : wpW X ι st.nxt G (Qem ws st) Q) : xs.length<=sizeLine/\∀ p, H p = none->Q (.ref p) (upd H p (.lst xs)) := by
 unfold Qem at q
 by_cases hl : ws.length<=sizeLine
 ·rw [if_pos hl] at q
  refine ⟨by rw [r.length]; exact hl, fun p hp => ?_⟩
  obtain ⟨s2, e2⟩ := sr.laid (o := .lst xs) hp
  exact q _ ι _ _ e2 s2 (.lst (.inl (.inl Qar)) (r.mono e2))
 ·rw [if_neg hl] at q; exact q.elim
theorem QbD {ι : Nat->Addr} {G H : Hp} {st : S} {xs : List V} {ws : List W} {Q : VK} (sr : SR X.K ι st G H) (r : RelWs X.K ι st.nxt G xs ws) (q : wpW X ι st.nxt G (QcC ws st) Q) : xs.length<=sizeLine/\∀ p, H p = none->Q (.ref p) (upd H p (.lst xs)) := by
 unfold QcC at q
 by_cases hl : ws.length<=sizeLine
 ·rw [if_pos hl] at q
  refine ⟨by rw [r.length]; exact hl, fun p hp => ?_⟩
  obtain ⟨ι', e2, s2, ep⟩ := sr.newL hp r
  have q' := q (.ref p) ι' G (upd H p (.lst xs)) e2 s2
  rw [<-ep] at q' ⊢
  exact q' (.ref (Nat.lt_succ_self _))
 ·rw [if_neg hl] at q; exact q.elim
theorem pd_tup {es : List Expr} {k : Nat} {pos : Pos} {rr : Runs} (h : PDA X es rr) : PD X (.Tuple es k pos) (runN rr Qap) :=
 PE.imp (pe_tup h) fun _ _ _ h => Qea h fun _ _ _ _ _ _ sr r q => QgA sr r q
theorem pd_lst {es : List Expr} {pos : Pos} {rr : Runs} (h : PDA X es rr) : PD X (.List es pos) (runN rr Qem) :=
 PE.imp (pe_lst h) fun _ _ _ h => Qea h fun _ _ _ _ _ _ sr r q => Qcf sr r q
theorem pd_newL {es : List Expr} {pos : Pos} {rr : Runs} (h : PDA X es rr) : PD X (.List es pos) (runN rr QcC) :=
 PE.imp (pe_lst h) fun _ _ _ h => Qea h fun _ _ _ _ _ _ sr r q => QbD sr r q
end
end DL
namespace DL
open PySem PySem.Spec PyProof.Rows L2
section
variable {X : Cx}
def MO.items : Option MO->Option (List W)
 | some (.lst xs) => some xs
 | _ => none
def catO (a b : Option (List W)) (st : S) : R W := match a, b with
 | some xs, some ys => if xs.length + ys.length<=sizeLine then .ok (.lst (xs ++ ys)) st else .stuck
 | _, _ => .stuck
def Qas : Op2 := fun a b st => match a, b with
 | .int i, .int j => .ok (.int (i + j)) st
 | .str x, .str y => if x.length + y.length<=sizeLine then .ok (.str (x ++ y)) st else .stuck
 | .lst xs, .lst ys => catO (some xs) (some ys) st
 | .lst xs, .ref m => catO (some xs) (MO.items (st.mu m)) st
 | .ref n, .lst ys => catO (MO.items (st.mu n)) (some ys) st
 | .ref n, .ref m => catO (MO.items (st.mu n)) (MO.items (st.mu m)) st
 | .tup xs, .tup ys => if xs ≠ []/\xs.length + ys.length<=sizeLine then .ok (.tup (xs ++ ys)) st else .stuck
 | _, _ => .stuck
def opSub : Op2 := fun a b st => match a, b with
 | .int i, .int j => .ok (.int (i - j)) st
 | _, _ => .stuck
instance (i j : Int) : Decidable (CMul i j) := by unfold CMul; infer_instance
instance (i j : Int) : Decidable (CDiv i j) := by unfold CDiv; infer_instance
def opMulI : Op2 := fun a b st => match a, b with
 | .int i, .int j => if CMul i j then .ok (.int (i * j)) st else .stuck
 | _, _ => .stuck
def repO (a : Option (List W)) (k : Int) (st : S) : R W := match a with
 | some xs => if (-(2 ^ 63)<=k/\k < 2 ^ 63)/\xs.length * k.toNat<=sizeLine then .ok (.lst (List.replicate k.toNat xs).flatten) st else .stuck
 | none => .stuck
def Qbb : Op2 := fun a b st => match a, b with
 | .lst xs, .int k => repO (some xs) k st
 | .ref n, .int k => repO (MO.items (st.mu n)) k st
 | a, b => opMulI a b st
def QaM : Op2 := fun a b st => match a, b with
 | .int i, .int j => if CDiv i j then .ok (.int (i / j)) st else .stuck
 | _, _ => .stuck
def Qaz : Op2 := fun a b st => match a, b with
 | .int i, .int j => if 0 < j then .ok (.int (i % j)) st else .stuck
 | _, _ => .stuck
theorem op_catL : OpR X (binaryOp .Add) (fun x y H Q => ∃ l b xs zs, x = .ref l/\y = .ref b/\SqL X.K H l xs/\SqL X.K H b zs/\xs.length + zs.length<=sizeLine/\∀ p, H p = none->Q (.ref p) (upd H p (.lst (xs ++ zs)))) := by
 intro pins s σ H x y v u Q I rx ry h
 obtain ⟨l, b, xs, zs, rfl, rfl, hH, hB, hz, q⟩ := h
 cases rx
 cases ry
 obtain ⟨its, r, pl, z⟩ := I.list hH
 obtain ⟨its2, r2, pl2, z2⟩ := I.list hB
 have hl := r.length
 have hl2 := r2.length
 obtain ⟨⟨cls, dd, data, sl⟩, n, e, ec, ed, es⟩ := pl
 obtain ⟨⟨cls2, dd2, data2, sl2⟩, n2, e2, ec2, ed2, es2⟩ := pl2
 simp only at ec es ec2 es2
 subst ec es ec2 es2
 have ea : its.toArray ++ its2.toArray = (its ++ its2).toArray := by simp
 refine concat_meets ⟨_, e, rfl⟩ ⟨_, e2, rfl⟩ noFill_list_add seq_list_add PySem.F.slot_list_add PySem.F.entry_list_add (PySem.F.args_list_add_2 _ _) (list_addW l b its.toArray its2.toArray n n2 dd dd2 sl sl2 (by rw [Qkx, Qkx]; omega)) ⟨e, e2, ?_⟩
 rw [ea]
 exact ⟨.ref _, _, I.lnew (t' := s.toks) (r.append r2) (by rw [QkB]; omega), rfl, q _ I.fresh⟩
theorem QaR {K : PySem.W.Frag} {ι : Nat->Addr} {st : S} {G H : Hp} {n : Nat} {ws : List W} (sr : SR K ι st G H) (h : MO.items (st.mu n) = some ws) : ∃ xs, SqL K H (ι n) xs/\RelWs K ι st.nxt G xs ws := by
 cases e : st.mu n with
 | none => rw [e] at h; cases h
 | some o =>
  obtain ⟨_, _, h3⟩ := sr.live n o e
  cases o with
  | lst zs =>
   rw [e] at h
   cases h
   obtain ⟨vs, q, r⟩ := h3
   exact ⟨vs, SqL.of q, r⟩
  | dct ks vs => rw [e] at h; cases h
theorem opw_add : OpW X (binaryOp .Add) Qas := by
 intro pins s σ H ι G st x y w1 w2 v u Q I sr rx ry r1 r2 q
 have cat : ∀ {a b : Addr} {xs ys : List V} {ws ws' : List W}, RelV (.ref a) v->RelV (.ref b) u->SqL X.K H a xs->SqL X.K H b ys->RelWs X.K ι st.nxt G xs ws->RelWs X.K ι st.nxt G ys ws'->wpW X ι st.nxt G (catO (some ws) (some ws') st) Q ->
   wpAny (model X.prog X.w) X.A (binaryOp .Add v u) (EP X pins σ Q) X.xe s := by
  intro a b xs ys ws ws' rx ry s1 s2 t1 t2 q
  have q' : wpW X ι st.nxt G (if ws.length + ws'.length<=sizeLine then .ok (.lst (ws ++ ws')) st else .stuck) Q := q
  by_cases hl : ws.length + ws'.length<=sizeLine
  ·rw [if_pos hl] at q'
   refine op_catL pins s σ H _ _ v u Q I rx ry ⟨_, _, _, _, rfl, rfl, s1, s2, by rw [t1.length, t2.length]; exact hl, fun p hp => ?_⟩
   obtain ⟨sr2, e2⟩ := sr.laid (o := .lst _) hp
   exact q' _ ι _ _ e2 sr2 (.lst (.inl (.inl Qar)) ((t1.append t2).mono e2))
  ·rw [if_neg hl] at q'; exact q'.elim
 cases w1 with
 | int i =>
  cases w2 with
  | int j => cases r1; cases r2; exact op_add pins s σ H _ _ v u Q I rx ry ⟨i, j, rfl, rfl, q _ ι G H (Ext.refl _ _ _) sr (.int _)⟩
  | _ => exact (show False from q).elim
 | str i =>
  cases w2 with
  | str j =>
   cases r1; cases r2
   have q' : wpW X ι st.nxt G (if i.length + j.length<=sizeLine then .ok (.str (i ++ j)) st else .stuck) Q := q
   by_cases hl : i.length + j.length<=sizeLine
   ·rw [if_pos hl] at q'
    exact QhG pins s σ H _ _ v u Q I rx ry ⟨i, j, rfl, rfl, hl, q' _ ι G H (Ext.refl _ _ _) sr (.str _)⟩
   ·rw [if_neg hl] at q'; exact q'.elim
  | _ => exact (show False from q).elim
 | lst xs =>
  cases w2 with
  | lst ys =>
   cases r1 with
   | lst s1 t1 =>
    cases r2 with
    | lst s2 t2 => exact cat rx ry (sr.sub.seq s1) (sr.sub.seq s2) t1 t2 q
  | ref m =>
   cases r1 with
   | lst s1 t1 =>
    have q' : wpW X ι st.nxt G (catO (some xs) (MO.items (st.mu m)) st) Q := q
    cases hm : MO.items (st.mu m) with
    | none => rw [hm] at q'; exact (show False from q').elim
    | some ys =>
     rw [hm] at q'
     cases r2 with
     | ref hn =>
      obtain ⟨vs, h1, h2⟩ := QaR sr hm
      exact cat rx ry (sr.sub.seq s1) h1 t1 h2 q'
  | _ => exact (show False from q).elim
 | ref n =>
  cases w2 with
  | lst ys =>
   cases r2 with
   | lst s2 t2 =>
    have q' : wpW X ι st.nxt G (catO (MO.items (st.mu n)) (some ys) st) Q := q
    cases hm : MO.items (st.mu n) with
    | none => rw [hm] at q'; exact (show False from q').elim
    | some xs =>
     rw [hm] at q'
     cases r1 with
     | ref hn =>
      obtain ⟨vs, h1, h2⟩ := QaR sr hm
      exact cat rx ry h1 (sr.sub.seq s2) h2 t2 q'
  | ref m =>
   have q' : wpW X ι st.nxt G (catO (MO.items (st.mu n)) (MO.items (st.mu m)) st) Q := q
   cases hm : MO.items (st.mu n) with
   | none => rw [hm] at q'; exact (show False from q').elim
   | some xs =>
    cases hk : MO.items (st.mu m) with
    | none => rw [hm, hk] at q'; exact (show False from q').elim
    | some ys =>
     rw [hm, hk] at q'
     cases r1 with
     | ref hn =>
      cases r2 with
      | ref hn' =>
       obtain ⟨vs, h1, h2⟩ := QaR sr hm
       obtain ⟨vs', h3, h4⟩ := QaR sr hk
       exact cat rx ry h1 h3 h2 h4 q'
  | _ => exact (show False from q).elim
 | tup xs =>
  cases w2 with
  | tup ys =>
   cases r1 with
   | tup s1 c1 t1 =>
    cases r2 with
    | tup s2 c2 t2 =>
     have q' : wpW X ι st.nxt G (if xs ≠ []/\xs.length + ys.length<=sizeLine then .ok (.tup (xs ++ ys)) st else .stuck) Q := q
     by_cases hl : xs ≠ []/\xs.length + ys.length<=sizeLine
     ·rw [if_pos hl] at q'
      refine op_catT pins s σ H _ _ v u Q I rx ry ⟨_, _, _, _, rfl, rfl, sqT_same sr.sub s1, sqT_same sr.sub s2, fun z => hl.1 ?_, by rw [t1.length, t2.length]; exact hl.2, fun z => ?_, fun z p hp => ?_⟩
      ·subst z; cases t1; rfl
      ·subst z
       cases t2
       refine q' _ ι G H (Ext.refl _ _ _) sr (.tup s1 c1 ?_)
       rw [List.append_nil]; exact t1
      ·obtain ⟨sr2, e2⟩ := sr.laid (o := .tup _) hp
       exact q' _ ι _ _ e2 sr2 (.tup (.inl (.inl Qar)) (fun _ => Qar) ((t1.append t2).mono e2))
     ·rw [if_neg hl] at q'; exact q'.elim
  | _ => exact (show False from q).elim
 | _ => exact (show False from q).elim
theorem opw_sub : OpW X (binaryOp .Sub) opSub := by
 intro pins s σ H ι G st x y w1 w2 v u Q I sr rx ry r1 r2 q
 cases w1 with
 | int i =>
  cases w2 with
  | int j => cases r1; cases r2; exact op_sub pins s σ H _ _ v u Q I rx ry ⟨i, j, rfl, rfl, q _ ι G H (Ext.refl _ _ _) sr (.int _)⟩
  | _ => exact (show False from q).elim
 | _ => exact (show False from q).elim
theorem opw_I {f : Value->Value->Sem Value} {C : Int->Int->Prop} [∀ i j, Decidable (C i j)] {g : Int->Int->Int} {op : Op2} (h : OpR X f (rI C fun i j => .int (g i j)))
  (hi : ∀ i j st, op (.int i) (.int j) st = if C i j then .ok (.int (g i j)) st else .stuck) (ho : ∀ a b st, (∀ i j, ¬ (a = .int i/\b = .int j))->op a b st = .stuck) : OpW X f op := by
 intro pins s σ H ι G st x y w1 w2 v u Q I sr rx ry r1 r2 q
 by_cases hw : ∃ i j, w1 = .int i/\w2 = .int j
 ·obtain ⟨i, j, rfl, rfl⟩ := hw
  cases r1; cases r2
  rw [hi] at q
  by_cases hc : C i j
  ·rw [if_pos hc] at q
   exact h pins s σ H _ _ v u Q I rx ry ⟨i, j, rfl, rfl, hc, q _ ι G H (Ext.refl _ _ _) sr (.int _)⟩
  ·rw [if_neg hc] at q; exact (show False from q).elim
 ·rw [ho _ _ _ fun i j z => hw ⟨i, j, z.1, z.2⟩] at q
  exact (show False from q).elim
theorem Qjd (l : Addr) (items : Array Value) (n : Nat) (x : Int) (u : Tok) (dd : Option Addr) (sl : Array (Option Value)) (hc0 : ¬(!Builtin.List.listFitsIndex x) = true) (hc1 : ¬items.size * x.toNat > (2 ^ 63 - 1) / 8) (hc2 : ¬Builtin.List.listTooLong (items.size * x.toNat) = true) :
  Meets (Builtin.«list.__mul__» ⟨[.ref l, .int x u], []⟩) (fun _ R s => s.heap.get? l = some { cls := .type "list", dict := dd, data := .seq items n, slots := sl }/\R (.ok (.ret (Value.ref s.heap.objs.size))) { s with heap := s.heap.push { cls := Value.type "list", data := Data.seq (List.foldl (fun x1 x2 => x1 ++ x2) #[] (List.replicate (if items.isEmpty = true then 0 else x.toNat) items)) }, toks := s.toks }) :=
 .of_wp fun prog w A R s h => by
  obtain ⟨hp, g, d, tk, os⟩ := s
  obtain ⟨hl, h⟩ := h
  have hsz := AutoListH.joined_fits hc2
  wp_walk
  refine wpAny_ite_false (decide_eq_false (Nat.not_lt.mpr hsz)) ?_
  wp_walk
  exact ⟨_, rfl, h⟩
theorem Qjq (a : Int) (t : Tok) (l : Addr) (items : Array Value) (n : Nat) (dd : Option Addr) (sl : Array (Option Value)) :
  Meets (Builtin.«int.__rmul__» ⟨[.int a t, .ref l], []⟩) (fun _ R s => s.heap.get? l = some { cls := .type "list", dict := dd, data := .seq items n, slots := sl }/\R (.ok (.ret Value.notImplemented)) s) :=
 .of_wp fun prog w A R s h => by
  obtain ⟨hp, g, d, tk, os⟩ := s
  obtain ⟨hl, h⟩ := h
  wp_walk
  exact ⟨_, rfl, h⟩
theorem op_repL : OpR X (binaryOp .Mult) (fun x y H Q => ∃ l k xs, x = .ref l/\y = .int k/\SqL X.K H l xs/\-(2 ^ 63)<=k/\k < 2 ^ 63/\xs.length * k.toNat<=sizeLine/\∀ p, H p = none->Q (.ref p) (upd H p (.lst (List.replicate k.toNat xs).flatten))) := by
 intro pins s σ H x y v u Q I rx ry h
 obtain ⟨l, k, xs, rfl, rfl, hH, h1, h2, hz, q⟩ := h
 cases rx
 obtain ⟨t, rfl⟩ := ry
 obtain ⟨its, r, pl, z⟩ := I.list hH
 have hl := r.length
 obtain ⟨⟨cls, dd, data, sl⟩, n, e, ec, ed, es⟩ := pl
 simp only at ec es
 subst ec es
 have hlen : its.toArray.size * k.toNat<=sizeLine := by rw [Qkx, <-hl]; exact hz
 have hcap : ¬ its.toArray.size * k.toNat > (2 ^ 63 - 1) / 8 := by
  have : (sizeLine : Nat)<=(2 ^ 63 - 1) / 8 := by decide
  omega
 have hfit : ¬ (!Builtin.List.listFitsIndex k) = true := by rw [fitsIndex_both h1 h2]; exact Qkr
 have hlong : ¬ Builtin.List.listTooLong (its.toArray.size * k.toNat) = true := by rw [notLongL hlen]; exact Qkr
 have f0 : ∀ m : Nat, List.foldl (fun x1 x2 => x1 ++ x2) #[] (List.replicate m its.toArray) = (List.replicate m its).flatten.toArray := fun m => by have := Qfh its m []; rw [List.nil_append] at this; exact this
 have hnew : List.foldl (fun x1 x2 => x1 ++ x2) #[] (List.replicate (if its.toArray.isEmpty = true then 0 else k.toNat) its.toArray) = (List.replicate k.toNat its).flatten.toArray := by
  rw [f0]
  cases its with
  | nil => simp
  | cons a r' => rw [if_neg (by simp)]
 refine wpAny_binaryOp_repeat_ref (T := "list") (U := "int") (by decide) ⟨_, e, rfl⟩ (fun s' => typeIs_int s' k t) noFill_list_mul F.fills_int_mul F.slot_int_rmul repeat_list F.slot_int_index.lookup
  (call_meets F.slot_int_rmul (typeIs_int s k t) F.entry_int_rmul (F.args_int_rmul_2 _ _) (Qjq k t l its.toArray n dd sl) ⟨e, rfl, ⟨_, e, rfl⟩, call_meets F.slot_list_mul ⟨_, e, rfl⟩ F.entry_list_mul (F.args_list_mul_2 _ _) (Qjd l its.toArray n k t dd sl hfit hcap hlong) ⟨e, ?_⟩⟩)
 rw [hnew]
 exact ⟨.ref _, _, I.lnew (t' := s.toks) (r.rep k.toNat) (by rw [len_rep, Nat.mul_comm]; exact hz), rfl, q _ I.fresh⟩
theorem RelWs.rep {K : PySem.W.Frag} {ι : Nat->Addr} {N : Nat} {G : Hp} {vs : List V} {ws : List W} (r : RelWs K ι N G vs ws) : ∀ k : Nat, RelWs K ι N G (List.replicate k vs).flatten (List.replicate k ws).flatten
 | 0 => .nil
 | k + 1 => by rw [List.replicate_succ, List.replicate_succ, List.flatten_cons, List.flatten_cons]; exact r.append (RelWs.rep r k)
theorem opw_mulI : OpW X (binaryOp .Mult) opMulI := opw_I op_mul (fun _ _ _ => rfl) fun a b st h => by
 cases a <;> cases b <;> first | rfl | exact absurd ⟨rfl, rfl⟩ (h _ _)
theorem opw_mul : OpW X (binaryOp .Mult) Qbb := by
 intro pins s σ H ι G st x y w1 w2 v u Q I sr rx ry r1 r2 q
 have rep : ∀ {a : Addr} {k : Int} {xs : List V} {ws : List W}, RelV (.ref a) v->RelV (.int k) u->SqL X.K H a xs->RelWs X.K ι st.nxt G xs ws->wpW X ι st.nxt G (repO (some ws) k st) Q->wpAny (model X.prog X.w) X.A (binaryOp .Mult v u) (EP X pins σ Q) X.xe s := by
  intro a k xs ws rx ry s1 t1 q
  have q' : wpW X ι st.nxt G (if (-(2 ^ 63)<=k/\k < 2 ^ 63)/\ws.length * k.toNat<=sizeLine then .ok (.lst (List.replicate k.toNat ws).flatten) st else .stuck) Q := q
  by_cases hl : (-(2 ^ 63)<=k/\k < 2 ^ 63)/\ws.length * k.toNat<=sizeLine
  ·rw [if_pos hl] at q'
   refine op_repL pins s σ H _ _ v u Q I rx ry ⟨_, _, _, rfl, rfl, s1, hl.1.1, hl.1.2, by rw [t1.length]; exact hl.2, fun p hp => ?_⟩
   obtain ⟨sr2, e2⟩ := sr.laid (o := .lst _) hp
   exact q' _ ι _ _ e2 sr2 (.lst (.inl (.inl Qar)) ((t1.rep _).mono e2))
  ·rw [if_neg hl] at q'; exact q'.elim
 unfold Qbb at q
 split at q
 ·cases r1 with
  | lst s1 t1 => cases r2; exact rep rx ry (sr.sub.seq s1) t1 q
 ·rename_i n k
  cases r1 with
  | ref hn =>
   cases r2
   cases hm : MO.items (st.mu n) with
   | none => rw [hm] at q; exact (show False from q).elim
   | some xs =>
    rw [hm] at q
    obtain ⟨vs, h1, h2⟩ := QaR sr hm
    exact rep rx ry h1 h2 q
 ·exact opw_mulI pins s σ H ι G st x y w1 w2 v u Q I sr rx ry r1 r2 q
theorem opw_div : OpW X (binaryOp .FloorDiv) QaM := opw_I op_fdiv (fun _ _ _ => rfl) fun a b st h => by
 cases a <;> cases b <;> first | rfl | exact absurd ⟨rfl, rfl⟩ (h _ _)
theorem opw_mod : OpW X (binaryOp .Mod) Qaz := opw_I op_mod (fun _ _ _ => rfl) fun a b st h => by
 cases a <;> cases b <;> first | rfl | exact absurd ⟨rfl, rfl⟩ (h _ _)
def Qce : W->S->R W := fun a st => match a with
 | .int i => .ok (.int (-i)) st
 | _ => .stuck
def run1 (ra : Run) (op : W->S->R W) : Run := fun Γ st => (ra Γ st).bind op
theorem pd_neg {a : Expr} {pos : Pos} {ra : Run} (ha : PD X a ra) : PD X (.UnaryOp .USub a pos) (run1 ra Qce) := by
 refine PE.imp (pe_un un_neg ha) fun σ H Q h => ?_
 obtain ⟨ι, G, st, Γ, en, sr, q⟩ := h
 refine ⟨ι, G, st, Γ, en, sr, wpW.bind q fun w st1 v ι1 G1 H1 _ e1 sr1 r1 q1 => ?_⟩
 cases w with
 | int i => cases r1; exact ⟨i, rfl, q1 _ ι1 G1 H1 (Ext.refl _ _ _) sr1 (.int _)⟩
 | _ => exact (show False from q1).elim
def opLt : Op2 := fun a b st => match a, b with
 | .int i, .int j => .ok (.bl (decide (i < j))) st
 | .str x, .str y => .ok (.bl (decide (x.cps.toList < y.cps.toList))) st
 | _, _ => .stuck
def opLe : Op2 := fun a b st => match a, b with
 | .int i, .int j => .ok (.bl (decide (i<=j))) st
 | _, _ => .stuck
def opGt : Op2 := fun a b st => match a, b with
 | .int i, .int j => .ok (.bl (decide (j < i))) st
 | _, _ => .stuck
theorem opw_B {f : Value->Value->Sem Value} {g : Int->Int->Bool} {op : Op2} (h : OpR X f (rI0 fun i j => .bl (g i j)))
  (hi : ∀ i j st, op (.int i) (.int j) st = .ok (.bl (g i j)) st) (ho : ∀ a b st, (∀ i j, ¬ (a = .int i/\b = .int j))->op a b st = .stuck) : OpW X f op := by
 intro pins s σ H ι G st x y w1 w2 v u Q I sr rx ry r1 r2 q
 by_cases hw : ∃ i j, w1 = .int i/\w2 = .int j
 ·obtain ⟨i, j, rfl, rfl⟩ := hw
  cases r1; cases r2
  rw [hi] at q
  exact h pins s σ H _ _ v u Q I rx ry ⟨i, j, rfl, rfl, q _ ι G H (Ext.refl _ _ _) sr (.bl _)⟩
 ·rw [ho _ _ _ fun i j z => hw ⟨i, j, z.1, z.2⟩] at q
  exact (show False from q).elim
theorem opw_le : OpW X (compareOp .LtE) opLe := opw_B op_le (fun _ _ _ => rfl) fun a b st h => by
 cases a <;> cases b <;> first | rfl | exact absurd ⟨rfl, rfl⟩ (h _ _)
theorem opw_gt : OpW X (compareOp .Gt) opGt := opw_B op_gt (fun _ _ _ => rfl) fun a b st h => by
 cases a <;> cases b <;> first | rfl | exact absurd ⟨rfl, rfl⟩ (h _ _)
theorem opw_lt : OpW X (compareOp .Lt) opLt := by
 intro pins s σ H ι G st x y w1 w2 v u Q I sr rx ry r1 r2 q
 cases w1 with
 | int i =>
  cases w2 with
  | int j => cases r1; cases r2; exact op_lt pins s σ H _ _ v u Q I rx ry ⟨i, j, rfl, rfl, q _ ι G H (Ext.refl _ _ _) sr (.bl _)⟩
  | _ => exact (show False from q).elim
 | str i =>
  cases w2 with
  | str j => cases r1; cases r2; exact QiO pins s σ H _ _ v u Q I rx ry ⟨i, j, rfl, rfl, q _ ι G H (Ext.refl _ _ _) sr (.bl _)⟩
  | _ => exact (show False from q).elim
 | _ => exact (show False from q).elim
def Qbv : W->Option V
 | .non => some .non
 | .bl b => some (.bl b)
 | .int i => some (.int i)
 | .str x => some (.str x)
 | _ => none
def QhN : W->Bool
 | .tup _ => true
 | .lst _ => true
 | _ => false
def Qak (f : W->W->Option Bool) : List W->List W->Option Bool
 | x :: xs, y :: ys => match f x y, Qak f xs ys with
  | some a, some b => some (a && b)
  | _, _ => none
 | _, _ => some true
def eqD : Nat->W->W->Option Bool
 | 0, _, _ => none
 | n + 1, a, b => match Qbv a, Qbv b with
  | some x, some y => some (eqV x y)
  | some _, none => if QhN b then some false else none
  | none, some _ => if QhN a then some false else none
  | none, none => match a, b with
   | .tup xs, .tup ys => (Qak (eqD n) xs ys).map fun r => r && xs.length == ys.length
   | .lst xs, .lst ys => if xs.length = ys.length then Qak (eqD n) xs ys else some false
   | .tup _, .lst _ => some false
   | .lst _, .tup _ => some false
   | _, _ => none
theorem Qdw {f : W->W->Option Bool} : ∀ {xs ys : List W} {r : Bool}, Qak f xs ys = some r ->
  ∃ e : Nat->Bool, (∀ (j : Nat) x y, xs[j]? = some x->ys[j]? = some y->f x y = some (e j))/\(List.range (min xs.length ys.length)).all e = r
 | [], ys, r, h => by
  refine ⟨fun _ => true, fun j x y hx _ => by simp at hx, ?_⟩
  cases h
  simp
 | x :: xs, [], r, h => by
  refine ⟨fun _ => true, fun j x y _ hy => by simp at hy, ?_⟩
  cases h
  simp
 | x :: xs, y :: ys, r, h => by
  unfold Qak at h
  cases e1 : f x y with
  | none => rw [e1] at h; cases h
  | some a =>
   cases e2 : Qak f xs ys with
   | none => rw [e1, e2] at h; cases h
   | some b =>
    rw [e1, e2] at h
    obtain ⟨e, h1, h2⟩ := Qdw e2
    refine ⟨fun j => match j with | 0 => a | j + 1 => e j, fun j x' y' hx hy => ?_, ?_⟩
    ·cases j with
     | zero => simp at hx hy; subst hx hy; exact e1
     | succ j => exact h1 j x' y' (by simpa using hx) (by simpa using hy)
    ·have em : min (x :: xs).length (y :: ys).length = min xs.length ys.length + 1 := by simp only [QkH]; omega
     rw [em, List.range_succ_eq_map, List.all_cons, List.all_map]
     cases h
     show (a && (List.range (min xs.length ys.length)).all e) = (a && b)
     rw [h2]
theorem QaN {K : PySem.W.Frag} {ι : Nat->Addr} {N : Nat} {G : Hp} {v x : V} {w : W} (r : RelW K ι N G v w) (h : Qbv w = some x) : v = x/\Qck x = true := by
 cases r <;> first | (cases h; exact ⟨rfl, rfl⟩) | cases h
theorem Qew {K : PySem.W.Frag} {ι : Nat->Addr} {N : Nat} {G : Hp} (inT : ∀ a xs ys, SqT K G a xs->SqT K G a ys->xs = ys) (inL : ∀ a xs ys, SqL K G a xs->SqL K G a ys->xs = ys) (ntl : ∀ a xs ys, SqT K G a xs->SqL K G a ys->False) :
  ∀ (n : Nat) {v : V} {w1 w2 : W} {b : Bool}, RelW K ι N G v w1->RelW K ι N G v w2->eqD n w1 w2 = some b->b = true
 | 0, _, _, _, _, _, _, h => by cases h
 | n + 1, v, w1, w2, b, r1, r2, h => by
  have items : ∀ {xs : List V} {ws1 ws2 : List W} {r : Bool}, RelWs K ι N G xs ws1->RelWs K ι N G xs ws2->Qak (eqD n) ws1 ws2 = some r->r = true := by
   intro xs
   induction xs with
   | nil => intro ws1 ws2 r t1 t2 e; cases t1; cases t2; cases e; rfl
   | cons x xs ih =>
    intro ws1 ws2 r t1 t2 e
    cases t1 with
    | @cons _ w _ wt1 a1 t1 =>
     cases t2 with
     | @cons _ w' _ wt2 a2 t2 =>
      unfold Qak at e
      cases e1 : eqD n w w' with
      | none => rw [e1] at e; cases e
      | some p =>
       cases e2 : Qak (eqD n) wt1 wt2 with
       | none => rw [e1, e2] at e; cases e
       | some q =>
        rw [e1, e2] at e
        cases e
        rw [Qew inT inL ntl n a1 a2 e1, ih t1 t2 e2]; rfl
  unfold eqD at h
  cases f1 : Qbv w1 with
  | some x =>
   obtain ⟨ex, fx⟩ := QaN r1 f1
   cases f2 : Qbv w2 with
   | some y =>
    obtain ⟨ey, fy⟩ := QaN r2 f2
    rw [f1, f2] at h
    have h' : some (eqV x y) = some b := h
    cases h'
    rw [<-ex, <-ey]
    exact Qev (by rw [ex]; exact fx)
   | none =>
    rw [f1, f2] at h
    cases r2 <;> first | (cases f2; done) | (subst ex; cases fx; done)
  | none =>
   cases f2 : Qbv w2 with
   | some y =>
    obtain ⟨ey, fy⟩ := QaN r2 f2
    cases r1 <;> first | (cases f1; done) | (subst ey; cases fy; done)
   | none =>
    rw [f1, f2] at h
    cases r1 with
    | tup s1 c1 t1 =>
     rename_i a xs ws1
     cases w2 with
     | tup ws2 =>
      cases r2 with
      | tup s2 c2 t2 =>
       cases inT _ _ _ s1 s2
       have h' : (Qak (eqD n) ws1 ws2).map (fun r => r && ws1.length == ws2.length) = some b := h
       cases e : Qak (eqD n) ws1 ws2 with
       | none => rw [e] at h'; cases h'
       | some r =>
        rw [e] at h'
        cases h'
        rw [items t1 t2 e, <-t1.length, <-t2.length]
        simp
     | lst ws2 =>
      cases r2 with
      | lst s2 t2 => exact (ntl _ _ _ s1 s2).elim
     | _ => cases h
    | lst s1 t1 =>
     rename_i a xs ws1
     cases w2 with
     | lst ws2 =>
      cases r2 with
      | lst s2 t2 =>
       cases inL _ _ _ s1 s2
       have h' : (if ws1.length = ws2.length then Qak (eqD n) ws1 ws2 else some false) = some b := h
       rw [if_pos (by rw [<-t1.length, <-t2.length])] at h'
       exact items t1 t2 h'
     | tup ws2 =>
      cases r2 with
      | tup s2 c2 t2 => exact (ntl _ _ _ s2 s1).elim
     | _ => cases h
    | _ => first | (cases f1; done) | (cases w2 <;> cases h)
end
end DL
namespace DL
open PySem PySem.Spec PyProof.Rows L2
section
variable {X : Cx}
def EqB (A : Around) (s : Shared) (u v : Value) (b : Bool) : Prop := SeqAt.EqAt A s u v b/\SeqAt.RcAt A s u v b/\SeqAt.RcNeAt A s u v (!b)
theorem eqB_V {A : Around} {s : Shared} {y x : V} {u v : Value} (ry : RelV y u) (rx : RelV x v) (fy : Qck y = true) (fx : Qck x = true) : EqB A s u v (eqV y x) := by
 refine ⟨QjN ry rx fy fx, ?_⟩
 cases y with
 | non =>
  cases ry
  cases x with
  | non => cases rx; exact ⟨SeqAt.RcAt.none_none, SeqAt.RcNeAt.none_none⟩
  | bl b => cases rx; exact ⟨SeqAt.RcAt.none_bool b, SeqAt.RcNeAt.none_bool b⟩
  | int b => obtain ⟨t, rfl⟩ := rx; exact ⟨SeqAt.RcAt.none_int b t, SeqAt.RcNeAt.none_int b t⟩
  | str b => obtain ⟨t, rfl⟩ := rx; exact ⟨SeqAt.RcAt.none_str b t, SeqAt.RcNeAt.none_str b t⟩
  | _ => exact absurd (show false = true from fx) Qkr
 | bl a =>
  cases ry
  cases x with
  | non => cases rx; exact ⟨SeqAt.RcAt.bool_none a, SeqAt.RcNeAt.bool_none a⟩
  | bl b => cases rx; exact ⟨SeqAt.RcAt.bool_bool a b, SeqAt.RcNeAt.bool_bool a b⟩
  | int b => obtain ⟨t, rfl⟩ := rx; exact ⟨SeqAt.RcAt.bool_int a b t, SeqAt.RcNeAt.bool_int a b t⟩
  | str b => obtain ⟨t, rfl⟩ := rx; exact ⟨SeqAt.RcAt.bool_str a b t, SeqAt.RcNeAt.bool_str a b t⟩
  | _ => exact absurd (show false = true from fx) Qkr
 | int a =>
  obtain ⟨t', rfl⟩ := ry
  cases x with
  | non => cases rx; exact ⟨SeqAt.RcAt.int_none a t', SeqAt.RcNeAt.int_none a t'⟩
  | bl b => cases rx; exact ⟨SeqAt.RcAt.int_bool a t' b, SeqAt.RcNeAt.int_bool a t' b⟩
  | int b => obtain ⟨t, rfl⟩ := rx; exact ⟨SeqAt.RcAt.int_int a t' b t, SeqAt.RcNeAt.int_int a t' b t⟩
  | str b => obtain ⟨t, rfl⟩ := rx; exact ⟨SeqAt.RcAt.int_str a t' b t, SeqAt.RcNeAt.int_str a t' b t⟩
  | _ => exact absurd (show false = true from fx) Qkr
 | str a =>
  obtain ⟨t', rfl⟩ := ry
  cases x with
  | non => cases rx; exact ⟨SeqAt.RcAt.str_none a t', SeqAt.RcNeAt.str_none a t'⟩
  | bl b => cases rx; exact ⟨SeqAt.RcAt.str_bool a t' b, SeqAt.RcNeAt.str_bool a t' b⟩
  | int b => obtain ⟨t, rfl⟩ := rx; exact ⟨SeqAt.RcAt.str_int a t' b t, SeqAt.RcNeAt.str_int a t' b t⟩
  | str b => obtain ⟨t, rfl⟩ := rx; exact ⟨SeqAt.RcAt.str_str a t' b t, SeqAt.RcNeAt.str_str a t' b t⟩
  | _ => exact absurd (show false = true from fx) Qkr
 | _ => exact absurd (show false = true from fy) Qkr
section
variable {A : Around} {s : Shared} {y : V} {u : Value} {l : Addr} {items : Array Value}
theorem Qey (ry : RelV y u) (fy : Qck y = true) (hl : s.heap.IsList l items) (hu : A.units < cLine) : EqB A s u (.ref l) false := by
 cases y with
 | non => cases ry; exact ⟨SeqAt.EqAt.none_list hl hu, SeqAt.RcAt.none_list hl hu, SeqAt.RcNeAt.none_list hl hu⟩
 | bl b => cases ry; exact ⟨SeqAt.EqAt.bool_list b hl hu, SeqAt.RcAt.bool_list b hl hu, SeqAt.RcNeAt.bool_list b hl hu⟩
 | int b => obtain ⟨t, rfl⟩ := ry; exact ⟨SeqAt.EqAt.int_list b t hl hu, SeqAt.RcAt.int_list b t hl hu, SeqAt.RcNeAt.int_list b t hl hu⟩
 | str b => obtain ⟨t, rfl⟩ := ry; exact ⟨SeqAt.EqAt.str_list b t hl hu, SeqAt.RcAt.str_list b t hl hu, SeqAt.RcNeAt.str_list b t hl hu⟩
 | _ => exact absurd (show false = true from fy) Qkr
theorem Qex (ry : RelV y u) (fy : Qck y = true) (hl : s.heap.IsList l items) (hu : A.units < cLine) : EqB A s (.ref l) u false := by
 cases y with
 | non => cases ry; exact ⟨SeqAt.EqAt.list_none hl hu, SeqAt.RcAt.list_none hl hu, SeqAt.RcNeAt.list_none hl hu⟩
 | bl b => cases ry; exact ⟨SeqAt.EqAt.list_bool b hl hu, SeqAt.RcAt.list_bool b hl hu, SeqAt.RcNeAt.list_bool b hl hu⟩
 | int b => obtain ⟨t, rfl⟩ := ry; exact ⟨SeqAt.EqAt.list_int b t hl hu, SeqAt.RcAt.list_int b t hl hu, SeqAt.RcNeAt.list_int b t hl hu⟩
 | str b => obtain ⟨t, rfl⟩ := ry; exact ⟨SeqAt.EqAt.list_str b t hl hu, SeqAt.RcAt.list_str b t hl hu, SeqAt.RcNeAt.list_str b t hl hu⟩
 | _ => exact absurd (show false = true from fy) Qkr
theorem QdJ (ry : RelV y u) (fy : Qck y = true) (hl : s.heap.IsTuple l items) (hu : A.units < cLine) : EqB A s u (.ref l) false := by
 cases y with
 | non => cases ry; exact ⟨SeqAt.EqAt.none_tuple hl hu, SeqAt.RcAt.none_tuple hl hu, SeqAt.RcNeAt.none_tuple hl hu⟩
 | bl b => cases ry; exact ⟨SeqAt.EqAt.bool_tuple b hl hu, SeqAt.RcAt.bool_tuple b hl hu, SeqAt.RcNeAt.bool_tuple b hl hu⟩
 | int b => obtain ⟨t, rfl⟩ := ry; exact ⟨SeqAt.EqAt.int_tuple b t hl hu, SeqAt.RcAt.int_tuple b t hl hu, SeqAt.RcNeAt.int_tuple b t hl hu⟩
 | str b => obtain ⟨t, rfl⟩ := ry; exact ⟨SeqAt.EqAt.str_tuple b t hl hu, SeqAt.RcAt.str_tuple b t hl hu, SeqAt.RcNeAt.str_tuple b t hl hu⟩
 | _ => exact absurd (show false = true from fy) Qkr
theorem QdI (ry : RelV y u) (fy : Qck y = true) (hl : s.heap.IsTuple l items) (hu : A.units < cLine) : EqB A s (.ref l) u false := by
 cases y with
 | non => cases ry; exact ⟨SeqAt.EqAt.tuple_none hl hu, SeqAt.RcAt.tuple_none hl hu, SeqAt.RcNeAt.tuple_none hl hu⟩
 | bl b => cases ry; exact ⟨SeqAt.EqAt.tuple_bool b hl hu, SeqAt.RcAt.tuple_bool b hl hu, SeqAt.RcNeAt.tuple_bool b hl hu⟩
 | int b => obtain ⟨t, rfl⟩ := ry; exact ⟨SeqAt.EqAt.tuple_int b t hl hu, SeqAt.RcAt.tuple_int b t hl hu, SeqAt.RcNeAt.tuple_int b t hl hu⟩
 | str b => obtain ⟨t, rfl⟩ := ry; exact ⟨SeqAt.EqAt.tuple_str b t hl hu, SeqAt.RcAt.tuple_str b t hl hu, SeqAt.RcNeAt.tuple_str b t hl hu⟩
 | _ => exact absurd (show false = true from fy) Qkr
end
section
variable {pins : List (Addr × Obj)} {σ : St} {H : Hp} {s : Shared} {ι : Nat->Addr} {N : Nat}
theorem list_inj (I : Inv X pins σ H s) {a : Addr} {xs ys : List V} (h1 : SqL X.K H a xs) (h2 : SqL X.K H a ys) : xs = ys := by
 obtain ⟨its, r, pl, _⟩ := I.list h1
 obtain ⟨its2, r2, pl2, _⟩ := I.list h2
 obtain ⟨o, n, e, _, _, d⟩ := pl
 obtain ⟨o2, n2, e2, _, _, d2⟩ := pl2
 rw [e] at e2; cases e2
 rw [d] at d2; cases d2
 exact r.inj r2
theorem QbJ (I : Inv X pins σ H s) {a : Addr} {xs ys : List V} (h1 : SqT X.K H a xs) (h2 : SqL X.K H a ys) : False := by
 obtain ⟨its, r, pl, _⟩ := I.tuple h1
 obtain ⟨its2, r2, pl2, _⟩ := I.list h2
 obtain ⟨o, e, c, _⟩ := pl
 obtain ⟨o2, n2, e2, c2, _, _⟩ := pl2
 rw [e] at e2; cases e2
 rw [c] at c2
 injection c2 with h
 exact absurd h (by decide)
theorem Qfl (I : Inv X pins σ H s) : ∀ (n : Nat) {w1 w2 : W} {b : Bool} {v1 v2 : V} {u1 u2 : Value} {A : Around}, eqD n w1 w2 = some b->RelW X.K ι N H v1 w1->RelW X.K ι N H v2 w2->RelV v1 u1->RelV v2 u2->A.units + n < cLine->EqB A s u1 u2 b
 | 0, _, _, _, _, _, _, _, _, h, _, _, _, _, _ => by cases h
 | n + 1, w1, w2, b, v1, v2, u1, u2, A, h, r1, r2, q1, q2, hA => by
  have hA1 : A.units < cLine := by omega
  have its_at : ∀ {xs ys : List V} {ws1 ws2 : List W} {its its2 : List Value} {e : Nat->Bool}, RelWs X.K ι N H xs ws1->RelWs X.K ι N H ys ws2->Vals xs its->Vals ys its2->(∀ (j : Nat) x y, ws1[j]? = some x->ws2[j]? = some y->eqD n x y = some (e j)) ->
    ∀ j (h1 : j < its.toArray.size) (h2 : j < its2.toArray.size), SeqAt.EqAt A.in1 s its.toArray[j] its2.toArray[j] (e j) := by
   intro xs ys ws1 ws2 its its2 e t1 t2 p1 p2 he j h1 h2
   have h1' : j < its.length := by simpa using h1
   have h2' : j < its2.length := by simpa using h2
   obtain ⟨x', ex, rx⟩ := p1.at h1'
   obtain ⟨y', ey, ry⟩ := p2.at h2'
   obtain ⟨w, ew, rw1⟩ := t1.get' ex
   obtain ⟨w', ew', rw2⟩ := t2.get' ey
   have z1 : its.toArray[j] = its[j] := by simp
   have z2 : its2.toArray[j] = its2[j] := by simp
   rw [z1, z2]
   exact (Qfl I n (A := A.in1) (he j w w' ew ew') rw1 rw2 rx ry (by show A.units + 1 + n < cLine; omega)).1
  have keep := h
  unfold eqD at h
  cases f1 : Qbv w1 with
  | some x =>
   obtain ⟨ex, fx⟩ := QaN r1 f1
   subst ex
   cases f2 : Qbv w2 with
   | some y =>
    obtain ⟨ey, fy⟩ := QaN r2 f2
    subst ey
    rw [f1, f2] at h
    have h' : some (eqV v1 v2) = some b := h
    cases h'
    exact eqB_V q1 q2 fx fy
   | none =>
    rw [f1, f2] at h
    have h' : (if QhN w2 then some false else none) = some b := h
    cases r2 with
    | tup s2 c2 t2 =>
     cases h'
     cases q2
     obtain ⟨its, _, pl, _⟩ := I.tuple s2
     exact QdJ q1 fx pl hA1
    | lst s2 t2 =>
     cases h'
     cases q2
     obtain ⟨its, _, pl, _⟩ := I.list s2
     exact Qey q1 fx pl.isList hA1
    | _ => first | (cases f2; done) | (cases h'; done)
  | none =>
   cases f2 : Qbv w2 with
   | some y =>
    obtain ⟨ey, fy⟩ := QaN r2 f2
    subst ey
    rw [f1, f2] at h
    have h' : (if QhN w1 then some false else none) = some b := h
    cases r1 with
    | tup s1 c1 t1 =>
     cases h'
     cases q1
     obtain ⟨its, _, pl, _⟩ := I.tuple s1
     exact QdI q2 fy pl hA1
    | lst s1 t1 =>
     cases h'
     cases q1
     obtain ⟨its, _, pl, _⟩ := I.list s1
     exact Qex q2 fy pl.isList hA1
    | _ => first | (cases f1; done) | (cases h'; done)
   | none =>
    rw [f1, f2] at h
    cases r1 with
    | tup s1 c1 t1 =>
     rename_i a xs ws1
     cases q1
     obtain ⟨its, p1, pl1, _⟩ := I.tuple s1
     cases w2 with
     | tup ws2 =>
      cases r2 with
      | tup s2 c2 t2 =>
       rename_i a2 ys
       cases q2
       obtain ⟨its2, p2, pl2, _⟩ := I.tuple s2
       have h' : (Qak (eqD n) ws1 ws2).map (fun r => r && ws1.length == ws2.length) = some b := h
       cases e : Qak (eqD n) ws1 ws2 with
       | none => rw [e] at h'; cases h'
       | some r =>
        rw [e] at h'
        obtain ⟨ef, he1, he2⟩ := Qdw e
        have l1 : ws1.length = its.toArray.size := by rw [Qkx, <-p1.length, t1.length]
        have l2 : ws2.length = its2.toArray.size := by rw [Qkx, <-p2.length, t2.length]
        have eb : b = ((List.range (min its.toArray.size its2.toArray.size)).all ef && its.toArray.size == its2.toArray.size) := by
         cases h'
         rw [<-l1, <-l2, he2]
        have at1 := its_at t1 t2 p1 p2 he1
        have rc : SeqAt.RcAt A s (.ref a) (.ref a2) b := by
         rw [eb]
         exact SeqAt.RcAt.tuples (e := ef) pl1 pl2 hA1 at1
        refine ⟨?_, rc, ?_⟩
        ·by_cases ha : a = a2
         ·subst ha
          have ht : b = true := Qew (fun a xs ys h1 h2 => I.tuple_inj h1 h2) (fun a xs ys h1 h2 => list_inj I h1 h2) (fun a xs ys h1 h2 => QbJ I h1 h2) (n + 1) (.tup s1 c1 t1) (.tup s2 c2 t2) keep
          rw [ht]; exact SeqAt.EqAt.same _
         ·exact SeqAt.EqAt.of_refs ha rc
        ·rw [eb]
         exact SeqAt.RcNeAt.tuples (e := ef) pl1 pl2 hA1 at1
     | lst ws2 =>
      cases r2 with
      | lst s2 t2 =>
       cases q2
       cases h
       obtain ⟨its2, p2, pl2, _⟩ := I.list s2
       exact ⟨SeqAt.EqAt.tuple_list pl1 pl2.isList hA1, SeqAt.RcAt.tuple_list pl1 pl2.isList hA1, SeqAt.RcNeAt.tuple_list pl1 pl2.isList hA1⟩
     | _ => cases h
    | lst s1 t1 =>
     rename_i a xs ws1
     cases q1
     obtain ⟨its, p1, pl1, _⟩ := I.list s1
     cases w2 with
     | lst ws2 =>
      cases r2 with
      | lst s2 t2 =>
       rename_i a2 ys
       cases q2
       obtain ⟨its2, p2, pl2, _⟩ := I.list s2
       have l1 : ws1.length = its.toArray.size := by rw [Qkx, <-p1.length, t1.length]
       have l2 : ws2.length = its2.toArray.size := by rw [Qkx, <-p2.length, t2.length]
       have h' : (if ws1.length = ws2.length then Qak (eqD n) ws1 ws2 else some false) = some b := h
       by_cases hl : ws1.length = ws2.length
       ·rw [if_pos hl] at h'
        obtain ⟨ef, he1, he2⟩ := Qdw h'
        have hsz : its.toArray.size = its2.toArray.size := by rw [<-l1, <-l2, hl]
        have eb : b = (List.range its.toArray.size).all ef := by
         rw [<-he2, <-l1, <-hl, Nat.min_self]
        have at1 := its_at t1 t2 p1 p2 he1
        have rc : SeqAt.RcAt A s (.ref a) (.ref a2) b := by
         rw [eb]
         exact SeqAt.RcAt.lists (e := ef) pl1.isList pl2.isList hsz hA1 at1
        refine ⟨?_, rc, ?_⟩
        ·by_cases ha : a = a2
         ·subst ha
          have ht : b = true := Qew (fun a xs ys h1 h2 => I.tuple_inj h1 h2) (fun a xs ys h1 h2 => list_inj I h1 h2) (fun a xs ys h1 h2 => QbJ I h1 h2) (n + 1) (.lst s1 t1) (.lst s2 t2) keep
          rw [ht]; exact SeqAt.EqAt.same _
         ·exact SeqAt.EqAt.of_refs ha rc
        ·rw [eb]
         exact SeqAt.RcNeAt.lists (e := ef) pl1.isList pl2.isList hsz hA1 at1
       ·rw [if_neg hl] at h'
        cases h'
        have hsz : (its.toArray.size != its2.toArray.size) = true := by
         rw [<-l1, <-l2]; simpa using hl
        have rc : SeqAt.RcAt A s (.ref a) (.ref a2) false := SeqAt.RcAt.lists_lengths pl1.isList pl2.isList hsz hA1
        refine ⟨SeqAt.EqAt.of_refs (fun ha => ?_) rc, rc, SeqAt.RcNeAt.lists_lengths pl1.isList pl2.isList hsz hA1⟩
        subst ha
        have := list_inj I s1 s2
        subst this
        exact hl (by rw [<-t1.length, <-t2.length])
     | tup ws2 =>
      cases r2 with
      | tup s2 c2 t2 =>
       cases q2
       cases h
       obtain ⟨its2, p2, pl2, _⟩ := I.tuple s2
       exact ⟨SeqAt.EqAt.list_tuple pl1.isList pl2 hA1, SeqAt.RcAt.list_tuple pl1.isList pl2 hA1, SeqAt.RcNeAt.list_tuple pl1.isList pl2 hA1⟩
     | _ => cases h
    | _ => first | (cases f1; done) | (cases w2 <;> cases h)
end
theorem SR.look {K : PySem.W.Frag} {ι : Nat->Addr} {st : S} {G H : Hp} (h : SR K ι st G H) : Ext ι st.nxt G ι st.nxt H := ⟨Qky _, fun _ _ => rfl, h.sub⟩
def inStr (i j : Str) : Bool := !(Builtin.Str.occurrences j i 0 j.length 1).isEmpty
def inD (x : W) : List W->Option Bool
 | [] => some false
 | y :: ys => match eqD 12 y x, inD x ys with
  | some a, some b => some (a || b)
  | _, _ => none
def Qau (st : S) : W->Option (List W)
 | .lst xs => some xs
 | .tup xs => some xs
 | .ref n => MO.items (st.mu n)
 | _ => none
def inW (st : S) (a b : W) : Option Bool := match a, b with
 | .str i, .str j => some (inStr i j)
 | x, y => match Qau st y with
  | some ys => inD x ys
  | none => none
def opIn0 : Op2 := fun a b st => match inW st a b with
 | some r => .ok (.bl r) st
 | none => .stuck
def QgM : Op2 := fun a b st => match inW st a b with
 | some r => .ok (.bl (!r)) st
 | none => .stuck
theorem Qbo {K : PySem.W.Frag} {ι : Nat->Addr} {st : S} {G H : Hp} {v : V} {w : W} {ws : List W} (sr : SR K ι st G H) (r : RelW K ι st.nxt G v w) (h : Qau st w = some ws) : ∃ a xs, v = .ref a/\(SqL K H a xs\/SqT K H a xs)/\RelWs K ι st.nxt G xs ws := by
 cases r with
 | tup s1 c1 t1 => cases h; exact ⟨_, _, rfl, .inr (sqT_same sr.sub s1), t1⟩
 | lst s1 t1 => cases h; exact ⟨_, _, rfl, .inl (sr.sub.seq s1), t1⟩
 | ref hn =>
  rename_i n
  have h : MO.items (st.mu n) = some ws := h
  cases e : st.mu n with
  | none => rw [e] at h; cases h
  | some o =>
   obtain ⟨_, _, h3⟩ := sr.live n o e
   cases o with
   | lst xs =>
    rw [e] at h
    cases h
    obtain ⟨vs, q, r⟩ := h3
    exact ⟨_, vs, rfl, .inl (SqL.of q), r⟩
   | dct ks vs => rw [e] at h; cases h
 | _ => cases h
theorem QjM {K : PySem.W.Frag} {ι : Nat->Addr} {N : Nat} {G : Hp} (inT : ∀ a xs ys, SqT K G a xs->SqT K G a ys->xs = ys) (inL : ∀ a xs ys, SqL K G a xs->SqL K G a ys->xs = ys) (ntl : ∀ a xs ys, SqT K G a xs->SqL K G a ys->False) :
  ∀ (n : Nat) {v : V} {w w' x : W} {c c' : Bool}, RelW K ι N G v w->RelW K ι N G v w'->eqD n w x = some c->eqD n w' x = some c'->c = c'
 | 0, _, _, _, _, _, _, _, _, h, _ => by cases h
 | n + 1, v, w, w', x, c, c', r1, r2, h1, h2 => by
  have items : ∀ {vs : List V} {ws1 ws2 ys : List W} {r r' : Bool}, RelWs K ι N G vs ws1->RelWs K ι N G vs ws2->Qak (eqD n) ws1 ys = some r->Qak (eqD n) ws2 ys = some r'->r = r' := by
   intro vs
   induction vs with
   | nil => intro ws1 ws2 ys r r' t1 t2 e e'; cases t1; cases t2; rw [e] at e'; exact Option.some.inj e'
   | cons x xs ih =>
    intro ws1 ws2 ys r r' t1 t2 e e'
    cases t1 with
    | @cons _ w1 _ wt1 a1 t1 =>
     cases t2 with
     | @cons _ w2 _ wt2 a2 t2 =>
      cases ys with
      | nil => cases e; cases e'; rfl
      | cons y ys =>
       unfold Qak at e e'
       cases e1 : eqD n w1 y with
       | none => rw [e1] at e; cases e
       | some p =>
        cases e2 : Qak (eqD n) wt1 ys with
        | none => rw [e1, e2] at e; cases e
        | some q =>
         cases e3 : eqD n w2 y with
         | none => rw [e3] at e'; cases e'
         | some p' =>
          cases e4 : Qak (eqD n) wt2 ys with
          | none => rw [e3, e4] at e'; cases e'
          | some q' =>
           rw [e1, e2] at e
           rw [e3, e4] at e'
           cases e; cases e'
           rw [QjM inT inL ntl n a1 a2 e1 e3, ih t1 t2 e2 e4]
  unfold eqD at h1 h2
  cases f1 : Qbv w with
  | some y =>
   obtain ⟨ey, fy⟩ := QaN r1 f1
   cases f2 : Qbv w' with
   | some z =>
    obtain ⟨ez, fz⟩ := QaN r2 f2
    have : y = z := by rw [<-ey, <-ez]
    subst this
    cases f3 : Qbv x with
    | some z =>
     rw [f1, f3] at h1; rw [f2, f3] at h2
     have g1 : some (eqV y z) = some c := h1
     have g2 : some (eqV y z) = some c' := h2
     rw [g1] at g2; exact Option.some.inj g2
    | none =>
     rw [f1, f3] at h1; rw [f2, f3] at h2
     have g1 : (if QhN x then some false else none) = some c := h1
     have g2 : (if QhN x then some false else none) = some c' := h2
     rw [g1] at g2; exact Option.some.inj g2
   | none => cases r2 <;> first | (cases f2; done) | (subst ey; cases fy; done)
  | none =>
   cases f2 : Qbv w' with
   | some z =>
    obtain ⟨ez, fz⟩ := QaN r2 f2
    cases r1 <;> first | (cases f1; done) | (subst ez; cases fz; done)
   | none =>
    rw [f1] at h1; rw [f2] at h2
    cases r1 with
    | tup s1 c1 t1 =>
     rename_i a xs ws1
     cases w' with
     | tup ws2 =>
      cases r2 with
      | tup s2 c2 t2 =>
       cases inT _ _ _ s1 s2
       cases f3 : Qbv x with
       | some z => rw [f3] at h1 h2; cases h1; cases h2; rfl
       | none =>
        rw [f3] at h1 h2
        cases x with
        | tup ys =>
         have g1 : (Qak (eqD n) ws1 ys).map (fun r => r && ws1.length == ys.length) = some c := h1
         have g2 : (Qak (eqD n) ws2 ys).map (fun r => r && ws2.length == ys.length) = some c' := h2
         cases e1 : Qak (eqD n) ws1 ys with
         | none => rw [e1] at g1; cases g1
         | some p =>
          cases e2 : Qak (eqD n) ws2 ys with
          | none => rw [e2] at g2; cases g2
          | some q =>
           rw [e1] at g1; rw [e2] at g2
           cases g1; cases g2
           rw [items t1 t2 e1 e2, <-t1.length, <-t2.length]
        | lst ys => cases h1; cases h2; rfl
        | _ => cases h1
     | lst ws2 => cases r2 with | lst s2 t2 => exact (ntl _ _ _ s1 s2).elim
     | _ => first | (cases f2; done) | (cases f3 : Qbv x <;> rw [f3] at h2 <;> first | (cases h2; done) | (cases x <;> cases h2))
    | lst s1 t1 =>
     rename_i a xs ws1
     cases w' with
     | lst ws2 =>
      cases r2 with
      | lst s2 t2 =>
       cases inL _ _ _ s1 s2
       cases f3 : Qbv x with
       | some z => rw [f3] at h1 h2; cases h1; cases h2; rfl
       | none =>
        rw [f3] at h1 h2
        cases x with
        | lst ys =>
         have g1 : (if ws1.length = ys.length then Qak (eqD n) ws1 ys else some false) = some c := h1
         have g2 : (if ws2.length = ys.length then Qak (eqD n) ws2 ys else some false) = some c' := h2
         have hl : ws1.length = ws2.length := by rw [<-t1.length, <-t2.length]
         rw [<-hl] at g2
         by_cases hy : ws1.length = ys.length
         ·rw [if_pos hy] at g1 g2
          exact items t1 t2 g1 g2
         ·rw [if_neg hy] at g1 g2
          cases g1; cases g2; rfl
        | tup ys => cases h1; cases h2; rfl
        | _ => cases h1
     | tup ws2 => cases r2 with | tup s2 c2 t2 => exact (ntl _ _ _ s2 s1).elim
     | _ => first | (cases f2; done) | (cases f3 : Qbv x <;> rw [f3] at h2 <;> first | (cases h2; done) | (cases x <;> cases h2))
    | _ => first | (cases f1; done) | (cases f3 : Qbv x <;> rw [f3] at h1 <;> first | (cases h1; done) | (cases x <;> cases h1))
theorem QfX {pins : List (Addr × Obj)} {σ : St} {H : Hp} {s : Shared} {ι : Nat->Addr} {N : Nat} {A : Around} {x : W} {vx : V} {ux : Value} (I : Inv X pins σ H s) (rx : RelW X.K ι N H vx x) (qx : RelV vx ux) (hA : A.units + 12 < cLine) :
  ∀ {ws : List W} {vs : List V} {us : List Value} {b : Bool}, inD x ws = some b->RelWs X.K ι N H vs ws->Vals vs us ->
   ∃ e : Value->Bool, (∀ u ∈ us, SeqAt.EqAt A s u ux (e u))/\us.any e = b/\∀ (j : Nat) v u w, vs[j]? = some v->us[j]? = some u->ws[j]? = some w->eqD 12 w x = some (e u) := by
 intro ws
 induction ws with
 | nil => intro vs us b h t q; cases t; cases q; cases h; exact ⟨fun _ => false, fun u hu => (by cases hu), rfl, fun j v u w hv => (by simp at hv)⟩
 | cons w ws ih =>
  intro vs us b h t q
  cases t with
  | cons r t =>
   cases q with
   | cons qv q =>
    rename_i v vs u us
    unfold inD at h
    cases e1 : eqD 12 w x with
    | none => rw [e1] at h; cases h
    | some a =>
     cases e2 : inD x ws with
     | none => rw [e1, e2] at h; cases h
     | some c =>
      rw [e1, e2] at h
      obtain ⟨e, h1, h2, h3⟩ := ih e2 t q
      have at1 := (Qfl I 12 (A := A) e1 r rx qv qx hA).1
      have keep : ∀ u' ∈ us, u' = u->e u' = a := fun u' hu hue => by
       obtain ⟨j, hj, ej⟩ := List.mem_iff_getElem.mp hu
       have g1 : us[j]? = some u' := by rw [Qks hj, ej]
       obtain ⟨v', gv, rv'⟩ := Vals.at q hj
       obtain ⟨w', gw, rw'⟩ := t.get' gv
       have d := h3 j v' u' w' gv g1 gw
       rw [ej, hue] at rv'
       have ev : v' = v := rv'.inj qv
       subst ev
       exact QjM (fun a xs ys h1 h2 => I.tuple_inj h1 h2) (fun a xs ys h1 h2 => list_inj I h1 h2) (fun a xs ys h1 h2 => QbJ I h1 h2) 12 rw' r d e1
      refine ⟨fun z => if z = u then a else e z, fun z hz => ?_, ?_, fun j v' u' w' hv hu hw => ?_⟩
      ·by_cases hzu : z = u
       ·(try dsimp only); rw [if_pos hzu, hzu]; exact at1
       ·(try dsimp only); rw [if_neg hzu]
        rcases List.mem_cons.mp hz with hz | hz
        ·exact absurd hz hzu
        ·exact h1 z hz
      ·rw [List.any_cons, if_pos rfl]
       have e3 : us.any (fun z => if z = u then a else e z) = us.any e := by
        rw [Bool.eq_iff_iff, List.any_eq_true, List.any_eq_true]
        constructor
        ·rintro ⟨z, hz, hq⟩
         refine ⟨z, hz, ?_⟩
         by_cases hzu : z = u
         ·rw [if_pos hzu] at hq; rw [keep z hz hzu]; exact hq
         ·rw [if_neg hzu] at hq; exact hq
        ·rintro ⟨z, hz, hq⟩
         refine ⟨z, hz, ?_⟩
         by_cases hzu : z = u
         ·rw [if_pos hzu, <-keep z hz hzu]; exact hq
         ·rw [if_neg hzu]; exact hq
       rw [e3, h2]
       cases h; rfl
      ·cases j with
       | zero =>
        simp at hv hu hw
        subst hv hu hw
        (try dsimp only); rw [if_pos rfl]; exact e1
       | succ j =>
        have hv' : vs[j]? = some v' := by simpa using hv
        have hu' : us[j]? = some u' := by simpa using hu
        have hw' : ws[j]? = some w' := by simpa using hw
        have d := h3 j v' u' w' hv' hu' hw'
        dsimp only
        by_cases hzu : u' = u
        ·rw [if_pos hzu, <-keep u' (List.mem_of_getElem? hu') hzu]; exact d
        ·rw [if_neg hzu]; exact d
theorem QiN {neg : Bool} {op : CmpOp} {o : Op2} (ho : o = fun a b st => match inW st a b with | some r => .ok (.bl (if neg then !r else r)) st | none => .stuck)
  (hs : OpR X (compareOp op) (fun x y H Q => ∃ i j, x = .str i/\y = .str j/\Q (.bl (if neg then !(!(Builtin.Str.occurrences j i 0 j.length 1).isEmpty) else (!(Builtin.Str.occurrences j i 0 j.length 1).isEmpty))) H))
  (hl : ∀ {s : Shared} {l : Addr} {items : Array Value} {x : Value} {Q : Value->Shared->Prop} (e : Value->Bool), s.heap.IsList l items->(∀ y, y ∈ items->SeqAt.EqAt X.A.in1 s y x (e y))->Q (.bool (if neg then !items.any e else items.any e)) s->wpAny (model X.prog X.w) X.A (compareOp op x (.ref l)) Q X.xe s)
  (ht : ∀ {s : Shared} {l : Addr} {items : Array Value} {x : Value} {Q : Value->Shared->Prop} (e : Value->Bool), s.heap.IsTuple l items->(∀ y, y ∈ items->SeqAt.EqAt X.A.in1 s y x (e y))->Q (.bool (if neg then !items.any e else items.any e)) s->wpAny (model X.prog X.w) X.A (compareOp op x (.ref l)) Q X.xe s)
  (hu : X.A.units + 64 < cLine) : OpW X (compareOp op) o := by
 subst ho
 intro pins s σ H ι G st x y w1 w2 v u Q I sr rx ry r1 r2 q
 dsimp only at q
 cases e : inW st w1 w2 with
 | none => rw [e] at q; exact (show False from q).elim
 | some b =>
  rw [e] at q
  have qq : ∀ (H' : Hp), H' = H->Q (.bl (if neg then !b else b)) H' := fun H' hh => by rw [hh]; exact q _ ι G H (Ext.refl _ _ _) sr (.bl _)
  have seq : ∀ {ys : List W}, Qau st w2 = some ys->inD w1 ys = some b->wpAny (model X.prog X.w) X.A (compareOp op v u) (EP X pins σ Q) X.xe s := by
   intro ys hi hd
   obtain ⟨a, xs, ea, hq, t⟩ := Qbo sr r2 hi
   subst ea
   cases ry
   rcases hq with hq | hq
   ·obtain ⟨its, r, pl, hz⟩ := I.list hq
    obtain ⟨f, h1, h2, _⟩ := QfX (A := X.A.in1) I (r1.mono sr.look) rx (by show X.A.units + 1 + 12 < cLine; omega) hd (t.mono sr.look) r
    refine hl f pl.isList (fun w hw => h1 w (by simpa using hw)) ⟨.bl (if neg then !b else b), H, I, ?_, qq H rfl⟩
    rw [show its.toArray.any f = its.any f by simp, h2]; rfl
   ·obtain ⟨its, r, pl, hz⟩ := I.tuple hq
    obtain ⟨f, h1, h2, _⟩ := QfX (A := X.A.in1) I (r1.mono sr.look) rx (by show X.A.units + 1 + 12 < cLine; omega) hd (t.mono sr.look) r
    refine ht f pl (fun w hw => h1 w (by simpa using hw)) ⟨.bl (if neg then !b else b), H, I, ?_, qq H rfl⟩
    rw [show its.toArray.any f = its.any f by simp, h2]; rfl
  by_cases hb : ∃ i j, w1 = .str i/\w2 = .str j
  ·obtain ⟨i, j, rfl, rfl⟩ := hb
   cases r1; cases r2
   have e' : some (inStr i j) = some b := e
   cases e'
   exact hs pins s σ H _ _ v u Q I rx ry ⟨i, j, rfl, rfl, qq H rfl⟩
  ·have e' : (match Qau st w2 with | some ys => inD w1 ys | none => none) = some b := by
    rw [<-e]
    unfold inW
    cases w1 <;> cases w2 <;> first | rfl | exact absurd ⟨_, _, rfl, rfl⟩ hb
   cases hi : Qau st w2 with
   | none => rw [hi] at e'; cases e'
   | some ys => rw [hi] at e'; exact seq hi e'
theorem opw_in0 (hu : X.A.units + 64 < cLine) : OpW X (compareOp .In) opIn0 := QiN (neg := false) rfl QiP (fun e h1 h2 h3 => SeqAt.in_listAt e h1 h2 h3) (fun e h1 h2 h3 => SeqAt.in_tupleAt e h1 h2 h3) hu
theorem QhF (hu : X.A.units + 64 < cLine) : OpW X (compareOp .NotIn) QgM := QiN (neg := true) rfl QeV (fun e h1 h2 h3 => SeqAt.notIn_listAt e h1 h2 h3) (fun e h1 h2 h3 => SeqAt.notIn_tupleAt e h1 h2 h3) hu
end
end DL
namespace DL
open PySem PySem.Spec PyProof.Rows L2
section
variable {X : Cx}
def Qdl : Op2 := fun a b st => match b with
 | .int i => match a with
  | .str z => if z.length<=sizeLine then (match atI z.cps.toList i with | some c => .ok (.str ⟨#[c]⟩) st | none => .stuck) else .stuck
  | a => match Qau st a with
   | some ws => (match atI ws i with | some w => .ok w st | none => .stuck)
   | none => .stuck
 | _ => .stuck
theorem atI_rel {K : PySem.W.Frag} {ι : Nat->Addr} {N : Nat} {G : Hp} {xs : List V} {ws : List W} {i : Int} {w : W} (t : RelWs K ι N G xs ws) (h : atI ws i = some w) : ∃ v, atI xs i = some v/\RelW K ι N G v w := by
 unfold atI at h ⊢
 rw [t.length]
 cases e : ixN ws.length i with
 | none => rw [e] at h; cases h
 | some j =>
  rw [e] at h
  exact t.get (show ws[j]? = some w from h)
theorem ix_w : IxR X (rOp X Qdl) := by
 intro value slice pins s σ H x y v u Q I rx ry h hs
 obtain ⟨ι, G, st, w1, w2, sr, r1, r2, q⟩ := h
 cases w2 with
 | int i =>
  cases r2
  have seq : ∀ {ws : List W}, Qau st w1 = some ws->wpW X ι st.nxt G (match atI ws i with | some w => .ok w st | none => .stuck) Q->wpAny (model X.prog X.w) X.A (subscriptTail value slice v u) (EP X pins σ Q) X.xe s := by
   intro ws hi q
   cases e : atI ws i with
   | none => rw [e] at q; exact (show False from q).elim
   | some w =>
    rw [e] at q
    obtain ⟨a, xs, ea, hq, t⟩ := Qbo sr r1 hi
    subst ea
    obtain ⟨z, hz, rz⟩ := atI_rel t e
    have fin := q z ι G H (Ext.refl _ _ _) sr rz
    rcases hq with hq | hq
    ·exact ix_list value slice pins s σ H _ _ v u Q I rx ry ⟨a, xs, i, z, rfl, rfl, hq, hz, fin⟩ hs
    ·exact ix_tup value slice pins s σ H _ _ v u Q I rx ry ⟨a, xs, i, z, rfl, rfl, hq, hz, fin⟩ hs
  cases w1 with
  | str z =>
   cases r1
   have q' : wpW X ι st.nxt G (if z.length<=sizeLine then (match atI z.cps.toList i with | some c => .ok (.str ⟨#[c]⟩) st | none => .stuck) else .stuck) Q := q
   by_cases hl : z.length<=sizeLine
   ·rw [if_pos hl] at q'
    cases e : atI z.cps.toList i with
    | none => rw [e] at q'; exact (show False from q').elim
    | some c =>
     rw [e] at q'
     exact ix_str value slice pins s σ H _ _ v u Q I rx ry ⟨z, i, c, rfl, rfl, hl, e, q' _ ι G H (Ext.refl _ _ _) sr (.str _)⟩ hs
   ·rw [if_neg hl] at q'; exact (show False from q').elim
  | tup ws => exact seq (ws := ws) rfl q
  | lst ws => exact seq (ws := ws) rfl q
  | ref n =>
   cases hi : Qau st (.ref n) with
   | none =>
    have q' : wpW X ι st.nxt G (match Qau st (.ref n) with | some ws => (match atI ws i with | some w => .ok w st | none => .stuck) | none => .stuck) Q := q
    rw [hi] at q'; exact (show False from q').elim
   | some ws =>
    have q' : wpW X ι st.nxt G (match Qau st (.ref n) with | some ws => (match atI ws i with | some w => .ok w st | none => .stuck) | none => .stuck) Q := q
    rw [hi] at q'; exact seq hi q'
  | _ => exact (show False from q).elim
 | _ => exact (show False from q).elim
theorem pd_ix0 {a b : Expr} {pos : Pos} {ra rb : Run} (ha : PD X a ra) (hb : PD X b rb) (hs : Qgt b) : PD X (.Subscript a b pos) (run2 ra rb Qdl) :=
 PE.imp (pe_ix ix_w ha hb hs) fun _ _ _ h => tD_op h
def cutW (xs : List W) (lo hi : Option Int) : List W := (xs.drop (HT.sIx xs.length 0 lo)).take (HT.sIx xs.length xs.length hi - HT.sIx xs.length 0 lo)
def opSl (m : Bool) (lo hi : Option Int) (a : W) (st : S) : R W := match a with
 | .str z => if z.length<=sizeLine then .ok (.str (Txt.slice z lo hi)) st else .stuck
 | .tup ws => .ok (.tup (cutW ws lo hi)) st
 | a => match Qau st a with
  | some ws => if m then QcC (cutW ws lo hi) st else Qem (cutW ws lo hi) st
  | none => .stuck
theorem Qgp {K : PySem.W.Frag} {ι : Nat->Addr} {N : Nat} {G : Hp} {xs : List V} {ws : List W} (t : RelWs K ι N G xs ws) (lo hi : Option Int) : RelWs K ι N G (cutV xs lo hi) (cutW ws lo hi) := by
 unfold cutV cutW
 rw [t.length]
 exact (t.drop _).take _
theorem QdZ {prog : Program} {w : World} {A : Around} {E : Value->Shared->Prop} {s : Shared} {t : Addr} {items : Array Value} {Q : Bool->Shared->Prop} (ht : IsTup s.heap t items) (h : Q true s) : wpAny (model prog w) A (Builtin.Tuple.tupleIsExact (.ref t)) Q E s := by
 unfold Builtin.Tuple.tupleIsExact
 refine wpAny_bind (wpAny_typeOf ht.typeIs (wpAny_pure ?_))
 exact h
theorem QbU {prog : Program} {w : World} {A : Around} {E : Value->Shared->Prop} {s : Shared} {t sl : Addr} {items : Array Value} {vl vu : Value} {lo hi : Option Int} {Q : Value->Shared->Prop} (ht : IsTup s.heap t items) (hs : s.heap.IsSliceOf sl vl vu .none) (pl : IsPart vl lo) (pu : IsPart vu hi)
  (h0 : HT.sIx items.size 0 lo = 0) (h1 : HT.sIx items.size items.size hi = items.size) (h : Q (.ref t) s) : wpAny (model prog w) A (getItem (.ref t) (.ref sl)) Q E s := by
 obtain ⟨os, hos, hcs, hds⟩ := id hs
 have hTs : s.TypeIs (.ref sl) "slice" := ⟨os, hos, hcs⟩
 unfold getItem
 try with_reducible refine wpAny_holding ?_
 first | refine wpAny_bind (wpAny_pure ?_) | skip
 refine wpAny_bind (wpAny_sequenceKey ht.typeIs (by decide) ?_)
 refine wpAny_bind (wpAny_callSpecial?_slot (name := Str.ofString "__getitem__") ht.typeIs PyProof.Rows.slot_tuple_getitem
  (wpAny_call_entry PyProof.Rows.slot_tuple_getitem ht.typeIs entry_tuple_getitem ?_ (args_tuple_getitem _ _)))
 show wpAny _ _ (Builtin.Tuple.tupleItemsOf (.ref t) >>= _) _ _ s
 refine wpAny_bind (tupleItemsOf_ ht ?_)
 refine wpAny_bind (wpAny_typeOf hTs ?_)
 rw [if_pos (by decide)]
 refine wpAny_bind (HT.sliceApplied_gen hs pl pu ?_)
 show wpAny _ _ (if (((HT.sIx items.size 0 lo : Nat) : Int) == 0 && (1 : Int) == 1 && (HT.sIx items.size items.size hi - HT.sIx items.size 0 lo) == items.size) = true then _ else _) _ _ s
 rw [h0, h1, if_pos (by simp)]
 refine wpAny_bind (QdZ ht ?_)
 rw [if_pos rfl]
 refine wpAny_bind (wpAny_rule ?_)
 exact wpAny_pure ⟨_, rfl, wpAny_pure h⟩
theorem Qii : SlR X (fun x lo hi H Q => ∃ a xs, x = .ref a/\SqT X.K H a xs/\HT.sIx xs.length 0 lo = 0/\HT.sIx xs.length xs.length hi = xs.length/\Q (.ref a) H) := by
 intro pins s σ H x v vl vu lo hi sl Q I rx hs pl pu h
 obtain ⟨a, xs, rfl, hx, h0, h1, q⟩ := h
 cases rx
 obtain ⟨its, r, ht, hz⟩ := I.tuple hx
 have hlen : its.toArray.size = xs.length := by rw [Qkx]; exact r.length.symm
 refine ⟨"tuple", _, PyProof.Rows.slot_tuple_getitem.lookup, ht.typeIs, ?_⟩
 exact QbU ht hs pl pu (by rw [hlen]; exact h0) (by rw [hlen]; exact h1) ⟨.ref a, H, I, rfl, q⟩
def rSlW (X : Cx) (m : Bool) : V->Option Int->Option Int->Hp->VK->Prop := fun x lo hi H Q => ∃ ι G st w, SR X.K ι st G H/\RelW X.K ι st.nxt G x w/\wpW X ι st.nxt G (opSl m lo hi w st) Q
theorem sl_w {m : Bool} : SlR X (rSlW X m) := by
 intro pins s σ H x v vl vu lo hi sl Q I rx hs pl pu h
 obtain ⟨ι, G, st, w, sr, r1, q⟩ := h
 have seq : ∀ {a : Addr} {xs : List V} {ws : List W}, v = .ref a->x = .ref a->SqL X.K H a xs->RelWs X.K ι st.nxt G xs ws->wpW X ι st.nxt G (if m then QcC (cutW ws lo hi) st else Qem (cutW ws lo hi) st) Q ->
   ∃ T id, typeLookup (.type T) "__getitem__" = pure (some (.builtin id))/\s.TypeIs v T/\wpAny (model X.prog X.w) X.A (getItem v (.ref sl)) (EP X pins σ Q) X.xe s := by
  intro a xs ws ev ex hq t q
  refine sl_list pins s σ H x v vl vu lo hi sl Q I rx hs pl pu ⟨a, xs, ex, hq, ?_⟩
  cases m with
  | true => rw [if_pos rfl] at q; exact (QbD sr (Qgp t lo hi) q).2
  | false => rw [if_neg Qkr] at q; exact (Qcf sr (Qgp t lo hi) q).2
 cases r1 with
 | str z =>
  have q' : wpW X ι st.nxt G (if z.length<=sizeLine then .ok (.str (Txt.slice z lo hi)) st else .stuck) Q := q
  by_cases hl : z.length<=sizeLine
  ·rw [if_pos hl] at q'
   exact sl_str pins s σ H _ v vl vu lo hi sl Q I rx hs pl pu ⟨z, rfl, hl, q' _ ι G H (Ext.refl _ _ _) sr (.str _)⟩
  ·rw [if_neg hl] at q'; exact (show False from q').elim
 | tup s1 c1 t1 =>
  rename_i a xs ws
  have hq := sqT_same sr.sub s1
  by_cases hw : HT.sIx xs.length 0 lo = 0/\HT.sIx xs.length xs.length hi = xs.length
  ·refine Qii pins s σ H _ v vl vu lo hi sl Q I rx hs pl pu ⟨a, xs, rfl, hq, hw.1, hw.2, q _ ι G H (Ext.refl _ _ _) sr (.tup s1 c1 ?_)⟩
   have ec : cutW ws lo hi = ws := by
    unfold cutW
    rw [<-t1.length, hw.1, hw.2, List.drop_zero, Nat.sub_zero, t1.length, List.take_length]
   rw [ec]; exact t1
  ·refine sl_tup pins s σ H _ v vl vu lo hi sl Q I rx hs pl pu ⟨a, xs, rfl, hq, hw, fun p hp => ?_⟩
   obtain ⟨sr2, e2⟩ := sr.laid (o := .tup (cutV xs lo hi)) hp
   exact q _ ι _ _ e2 sr2 (.tup (.inl (.inl Qar)) (fun _ => Qar) ((Qgp t1 lo hi).mono e2))
 | lst s1 t1 => exact seq rx rfl (sr.sub.seq s1) t1 q
 | ref hn =>
  rename_i n
  have q' : wpW X ι st.nxt G (match Qau st (.ref n) with | some ws => if m then QcC (cutW ws lo hi) st else Qem (cutW ws lo hi) st | none => .stuck) Q := q
  cases hi' : Qau st (.ref n) with
  | none => rw [hi'] at q'; exact (show False from q').elim
  | some ws =>
   rw [hi'] at q'
   obtain ⟨a, xs, ea, hq, t⟩ := Qbo sr (.ref hn) hi'
   rcases hq with hq | hq
   ·exact seq (by cases ea; exact rx) ea hq t q'
   ·exfalso
    have hi2 := hi'
    have hi2 : MO.items (st.mu n) = some ws := hi2
    cases e : st.mu n with
    | none => rw [e] at hi2; cases hi2
    | some o =>
     obtain ⟨_, _, h3⟩ := sr.live n o e
     cases o with
     | lst zs =>
      obtain ⟨vs, qv, _⟩ := h3
      cases ea
      exact QbJ I hq (SqL.of qv)
     | dct ks vs => rw [e] at hi2; cases hi2
 | _ => exact (show False from q).elim
def Qir (m : Bool) (ra : Run) : Run := fun Γ st => (ra Γ st).bind fun w st1 => opSl m none none w st1
def QbP (m : Bool) (ra rl : Run) : Run := fun Γ st => (ra Γ st).bind fun w st1 => (rl Γ st1).bind fun l st2 => (match l with | .int i => opSl m (some i) none w st2 | _ => .stuck)
def QaV (m : Bool) (ra rh : Run) : Run := fun Γ st => (ra Γ st).bind fun w st1 => (rh Γ st1).bind fun h st2 => (match h with | .int i => opSl m none (some i) w st2 | _ => .stuck)
def Qcq (m : Bool) (ra rl rh : Run) : Run := fun Γ st => (ra Γ st).bind fun w st1 => (rl Γ st1).bind fun l st2 => (match l with | .int i => (rh Γ st2).bind fun h st3 => (match h with | .int j => opSl m (some i) (some j) w st3 | _ => .stuck) | _ => .stuck)
section
variable {e lo hi : Expr} {pos p2 : Pos} {ra rl rh : Run} {m : Bool}
theorem pd_slNN (ha : PD X e ra) : PD X (.Subscript e (.Slice none none none p2) pos) (Qir m ra) := by
 refine PE.imp (QcQ (sl_w (m := m)) ha Qeh Qeh) fun σ H Q h => ?_
 obtain ⟨ι, G, st, Γ, en, sr, q⟩ := h
 exact ⟨ι, G, st, Γ, en, sr, wpW.bind q fun w st1 v ι1 G1 H1 _ e1 sr1 r1 q1 => ⟨ι1, G1, st1, w, sr1, r1, q1⟩⟩
theorem pd_slSN (ha : PD X e ra) (hl : PD X lo rl) : PD X (.Subscript e (.Slice (some lo) none none p2) pos) (QbP m ra rl) := by
 refine PE.imp (QcQ (sl_w (m := m)) ha (Qeg hl) Qeh) fun σ H Q h => ?_
 obtain ⟨ι, G, st, Γ, en, sr, q⟩ := h
 refine ⟨ι, G, st, Γ, en, sr, wpW.bind q fun w st1 v ι1 G1 H1 _ e1 sr1 r1 q1 => ?_⟩
 refine ⟨ι1, G1, st1, Γ, en.mono e1, sr1, wpW.bind q1 fun l st2 v2 ι2 G2 H2 _ e2 sr2 r2 q2 => ?_⟩
 cases l with
 | int i => cases r2; exact ⟨i, rfl, ι2, G2, st2, w, sr2, r1.mono e2, q2⟩
 | _ => exact (show False from q2).elim
theorem pd_slNS (ha : PD X e ra) (hh : PD X hi rh) : PD X (.Subscript e (.Slice none (some hi) none p2) pos) (QaV m ra rh) := by
 refine PE.imp (QcQ (sl_w (m := m)) ha Qeh (Qeg hh)) fun σ H Q h => ?_
 obtain ⟨ι, G, st, Γ, en, sr, q⟩ := h
 refine ⟨ι, G, st, Γ, en, sr, wpW.bind q fun w st1 v ι1 G1 H1 _ e1 sr1 r1 q1 => ?_⟩
 refine ⟨ι1, G1, st1, Γ, en.mono e1, sr1, wpW.bind q1 fun l st2 v2 ι2 G2 H2 _ e2 sr2 r2 q2 => ?_⟩
 cases l with
 | int i => cases r2; exact ⟨i, rfl, ι2, G2, st2, w, sr2, r1.mono e2, q2⟩
 | _ => exact (show False from q2).elim
theorem pd_slSS (ha : PD X e ra) (hl : PD X lo rl) (hh : PD X hi rh) : PD X (.Subscript e (.Slice (some lo) (some hi) none p2) pos) (Qcq m ra rl rh) := by
 refine PE.imp (QcQ (sl_w (m := m)) ha (Qeg hl) (Qeg hh)) fun σ H Q h => ?_
 obtain ⟨ι, G, st, Γ, en, sr, q⟩ := h
 refine ⟨ι, G, st, Γ, en, sr, wpW.bind q fun w st1 v ι1 G1 H1 _ e1 sr1 r1 q1 => ?_⟩
 refine ⟨ι1, G1, st1, Γ, en.mono e1, sr1, wpW.bind q1 fun l st2 v2 ι2 G2 H2 _ e2 sr2 r2 q2 => ?_⟩
 cases l with
 | int i =>
  cases r2
  refine ⟨i, rfl, ι2, G2, st2, Γ, (en.mono e1).mono e2, sr2, wpW.bind q2 fun h st3 v3 ι3 G3 H3 _ e3 sr3 r3 q3 => ?_⟩
  cases h with
  | int j => cases r3; exact ⟨j, rfl, ι3, G3, st3, w, sr3, (r1.mono e2).mono e3, q3⟩
  | _ => exact (show False from q3).elim
 | _ => exact (show False from q2).elim
end
def Qdj : OpN := fun ws st => match ws with
 | [.str z] => if z.length<=sizeLine then .ok (.int z.length) st else .stuck
 | [w] => match Qau st w with
  | some xs => .ok (.int xs.length) st
  | none => .stuck
 | _ => .stuck
def QbR : OpN := fun ws st => match ws with
 | [.tup xs] => .ok (.tup xs) st
 | [w] => match Qau st w with
  | some xs => Qap xs st
  | none => .stuck
 | _ => .stuck
def QeW (m : Bool) : OpN := fun ws st => match ws with
 | [w] => match Qau st w with
  | some xs => if m then QcC xs st else Qem xs st
  | none => .stuck
 | _ => .stuck
theorem rel1 {K : PySem.W.Frag} {ι : Nat->Addr} {N : Nat} {G : Hp} {xs : List V} {w : W} (t : RelWs K ι N G xs [w]) : ∃ v, xs = [v]/\RelW K ι N G v w := by
 cases t with
 | cons r t => cases t; exact ⟨_, rfl, r⟩
theorem rel2 {K : PySem.W.Frag} {ι : Nat->Addr} {N : Nat} {G : Hp} {xs : List V} {w w' : W} (t : RelWs K ι N G xs [w, w']) : ∃ v v', xs = [v, v']/\RelW K ι N G v w/\RelW K ι N G v' w' := by
 cases t with
 | cons r t => obtain ⟨v, rfl, r'⟩ := rel1 t; exact ⟨_, _, rfl, r, r'⟩
theorem cw_len : QdE X (.builtin "len") Qdj := by
 intro pins s σ H ι G st xs ws us Q I sr rv t q
 match ws, t, q with
 | [w], t, q =>
  obtain ⟨v, rfl, r⟩ := rel1 t
  have seq : ∀ {zs : List W}, Qau st w = some zs->wpW X ι st.nxt G (.ok (.int zs.length) st) Q->wpAny (model X.prog X.w) X.A (call (.builtin "len") us) (EP X pins σ Q) X.xe s := by
   intro zs hi q
   obtain ⟨a, ys, ea, hq, t2⟩ := Qbo sr r hi
   subst ea
   refine Qfv pins s σ H _ us Q I rv ⟨a, ys, rfl, hq, ?_⟩
   rw [t2.length]
   exact q _ ι G H (Ext.refl _ _ _) sr (.int _)
  cases w with
  | str z =>
   cases r
   have q' : wpW X ι st.nxt G (if z.length<=sizeLine then .ok (.int z.length) st else .stuck) Q := q
   by_cases hl : z.length<=sizeLine
   ·rw [if_pos hl] at q'
    exact Qfu pins s σ H _ us Q I rv ⟨z, rfl, hl, q' _ ι G H (Ext.refl _ _ _) sr (.int _)⟩
   ·rw [if_neg hl] at q'; exact (show False from q').elim
  | tup zs => exact seq rfl q
  | lst zs => exact seq rfl q
  | ref n =>
   have q' : wpW X ι st.nxt G (match Qau st (.ref n) with | some xs => .ok (.int xs.length) st | none => .stuck) Q := q
   cases hi : Qau st (.ref n) with
   | none => rw [hi] at q'; exact (show False from q').elim
   | some zs => rw [hi] at q'; exact seq hi q'
  | _ => exact (show False from q).elim
 | [], _, q => exact (show False from q).elim
 | w :: w' :: ws, _, q => exact (show False from (by cases w <;> exact q)).elim
theorem cw_list {m : Bool} : QdE X (.type "list") (QeW m) := by
 intro pins s σ H ι G st xs ws us Q I sr rv t q
 unfold QeW at q
 split at q
 ·rename_i w
  cases hi : Qau st w with
  | none => rw [hi] at q; exact (show False from q).elim
  | some zs =>
   rw [hi] at q
   obtain ⟨v, rfl, r⟩ := rel1 t
   obtain ⟨a, ys, ea, hq, t2⟩ := Qbo sr r hi
   subst ea
   refine Qft pins s σ H _ us Q I rv ⟨a, ys, rfl, hq, ?_⟩
   cases m with
   | true => exact (QbD sr t2 q).2
   | false => exact (Qcf sr t2 q).2
 ·exact (show False from q).elim
theorem cw_tuple : QdE X (.type "tuple") QbR := by
 intro pins s σ H ι G st xs ws us Q I sr rv t q
 unfold QbR at q
 split at q
 ·rename_i zs
  obtain ⟨v, rfl, r⟩ := rel1 t
  cases r with
  | tup s1 c1 t1 => exact Qco pins s σ H _ us Q I rv ⟨_, _, rfl, .inr ⟨sqT_same sr.sub s1, q _ ι G H (Ext.refl _ _ _) sr (.tup s1 c1 t1)⟩⟩
 ·rename_i w hne
  cases hi : Qau st w with
  | none => rw [hi] at q; exact (show False from q).elim
  | some zs =>
   rw [hi] at q
   obtain ⟨v, rfl, r⟩ := rel1 t
   obtain ⟨a, ys, ea, hq, t2⟩ := Qbo sr r hi
   subst ea
   rcases hq with hq | hq
   ·exact Qco pins s σ H _ us Q I rv ⟨a, ys, rfl, .inl ⟨hq, (QgA sr t2 q).2⟩⟩
   ·exfalso
    cases r with
    | tup s1 c1 t1 => exact hne _ rfl
    | lst s1 t1 => exact QbJ I hq (sr.sub.seq s1)
    | @ref n hn =>
     have hi : MO.items (st.mu n) = some zs := hi
     cases e : st.mu n with
     | none => rw [e] at hi; cases hi
     | some o =>
      obtain ⟨_, _, h3⟩ := sr.live n o e
      cases o with
      | lst zs => obtain ⟨vs, qv, _⟩ := h3; exact QbJ I hq (SqL.of qv)
      | dct ks vs => rw [e] at hi; cases hi
    | _ => cases hi
 ·exact (show False from q).elim
def MO.kind : Option MO->Option String
 | some (.lst _) => some "list"
 | some (.dct _ _) => some "dict"
 | none => none
def Qch (st : S) : W->Option String
 | .non => some "NoneType"
 | .bl _ => some "bool"
 | .int _ => some "int"
 | .str _ => some "str"
 | .tup _ => some "tuple"
 | .lst _ => some "list"
 | .dct _ _ => some "dict"
 | .ref n => MO.kind (st.mu n)
 | .ty _ => none
 | .exn _ => none
def Qdo (k T : String) : Bool := k == T || (k == "bool" && T == "int")
def kinds : List String := ["NoneType", "bool", "int", "str", "tuple", "list", "dict"]
def Qdk : OpN := fun ws st => match ws with
 | [w, .ty T] => if kinds.contains T then (match Qch st w with | some k => .ok (.bl (Qdo k T)) st | none => .stuck) else .stuck
 | _ => .stuck
end
end DL
namespace DL
open PySem PySem.Spec PyProof.Rows L2
section
variable {X : Cx}
structure SrcR (K : PySem.W.Frag) (J : It) (items : List W) (ι : Nat->Addr) (N : Nat) (G : Hp) : Prop where
 go : ∀ (i : Nat) (w : W) (ι' : Nat->Addr) (N' : Nat) (G' H' : Hp), items[i]? = some w->Ext ι N G ι' N' G'->Same G' H'->J.go i H'/\∀ v H'', J.yld i H' v H''->H'' = H'/\RelW K ι' N' G' v w
 stop : ∀ (G' H' : Hp), Same G G'->Same G' H'->J.stop items.length H'
abbrev Src := Ga->S->R (List W)
def tDI (X : Cx) (src : Src) : TI := fun σ H Rr => ∃ ι G st Γ, EnvR X.K ι st.nxt G σ Γ/\SR X.K ι st G H/\(match src Γ st with
 | .ok items st' => ∀ J ι' G' H', Ext ι st.nxt G ι' st'.nxt G'->SR X.K ι' st' G' H'->SrcR X.K J items ι' st'.nxt G'->Rr J H'
 | .ex c st' => XW X ι st.nxt G c st'
 | .stuck => False)
abbrev PDI (X : Cx) (tg iter : Expr) (src : Src) : Prop := PI X tg iter (tDI X src)
theorem PI.imp {tg e : Expr} {t t' : TI} (h : PI X tg e t) (k : ∀ σ H Q, t' σ H Q->t σ H Q) : PI X tg e t' := fun pins s σ H Q I q => h pins s σ H Q I (k σ H Q q)
def iSeq (K : PySem.W.Frag) (tl : TE) : TI := fun σ H R => tl σ H fun x H1 => (∃ a, x = .ref a/\(∃ xs, SqL K H1 a xs)/\R (Itl K a) H1)\/(∃ a, x = .ref a/\(∃ xs, SqT K H1 a xs)/\R (Itt K a) H1)\/∃ z, x = .str z/\R (Its z) H1
theorem pi_seq {y : Str} {py : Pos} {l : Expr} {tl : TE} (hl : PE X l tl) : PI X (.Name y py) l (iSeq X.K tl) := by
 intro pins s σ H R I h
 refine thn (hl pins s σ H _ I h) fun v s1 ⟨x, H1, I1, r1, q1⟩ => ?_
 rcases q1 with ⟨a, e, ⟨xs, hq⟩, q⟩ | ⟨a, e, ⟨xs, hq⟩, q⟩ | ⟨z, e, q⟩
 ·subst e
  cases r1
  obtain ⟨its, rv, p, hz⟩ := I1.list hq
  refine wpAny_pyIter_list p.isList ?_
  refine ⟨s1.heap.objs.size, [s1.heap.objs.size], _, _, H1, rfl, I1.kept (t' := s1.toks) fun b o e => Qkt _ e, QhZ a _, ⟨_, QkE _ rfl, rfl, rfl⟩, fun b hb => ?_, q⟩
  have e : b = s1.heap.objs.size := by simpa using hb
  subst e
  exact I1.fpOk (Qky _) (I1.hok.fresh (Qky _))
 ·subst e
  cases r1
  obtain ⟨its, rv, p, hz⟩ := I1.tuple hq
  refine wpAny_pyIter_tuple (show s1.heap.IsTuple a its.toArray from p) ?_
  refine ⟨s1.heap.objs.size, [s1.heap.objs.size], _, _, H1, rfl, I1.kept (t' := s1.toks) fun b o e => Qkt _ e, Qho a _, ⟨_, QkE _ rfl, rfl, rfl⟩, fun b hb => ?_, q⟩
  have e : b = s1.heap.objs.size := by simpa using hb
  subst e
  exact I1.fpOk (Qky _) (I1.hok.fresh (Qky _))
 ·subst e
  obtain ⟨t, rfl⟩ := r1
  have fp : ∀ b ∈ [s1.heap.objs.size], FpOk X pins H1 b := fun b hb => by
   have e : b = s1.heap.objs.size := by simpa using hb
   subst e
   exact I1.fpOk (Qky _) (I1.hok.fresh (Qky _))
  cases ha : z.cps.all (· < 128)
  ·refine wpAny_pyIter_wide ha ?_
   exact ⟨s1.heap.objs.size, [s1.heap.objs.size], _, _, H1, rfl, I1.kept (t' := s1.toks) fun b o e => Qkt _ e,
    Qgz (fun A' hA => Walks.strWide hA _ z t) (fun i h st => by obtain ⟨o, e, c, d⟩ := st; exact ⟨o, e, fun v z => by rw [d] at z; cases z⟩) (fun _ _ _ _ _ st h => wpAny_pyIter_striter_wide st h),
    ⟨Nat.zero_le _, ⟨_, QkE _ rfl, rfl, rfl⟩⟩, fp, q⟩
  ·refine wpAny_pyIter_ascii ha ?_
   exact ⟨s1.heap.objs.size, [s1.heap.objs.size], _, _, H1, rfl, I1.kept (t' := s1.toks) fun b o e => Qkt _ e,
    Qgz (fun A' hA => Walks.strAscii hA _ z t) (fun i h st => by obtain ⟨o, e, c, d⟩ := st; exact ⟨o, e, fun v z => by rw [d] at z; cases z⟩) (fun _ _ _ _ _ st h => wpAny_pyIter_striter_ascii st h),
    ⟨Nat.zero_le _, ⟨_, QkE _ rfl, rfl, rfl⟩⟩, fp, q⟩
def Qil (z : Str) : List W := z.cps.toList.map fun c => W.str ⟨#[c]⟩
def srcOf : W->Option (List W)
 | .lst xs => some xs
 | .tup xs => some xs
 | .str z => some (Qil z)
 | _ => none
def QaB (r : Run) : Src := fun Γ st => (r Γ st).bind fun w st1 => match srcOf w with
 | some xs => .ok xs st1
 | none => .stuck
theorem src_list {K : PySem.W.Frag} {ι : Nat->Addr} {N : Nat} {G : Hp} {a : Addr} {xs : List V} {ws : List W} (h : SqL K G a xs) (t : RelWs K ι N G xs ws) : SrcR K (Itl K a) ws ι N G where
 go := fun i w ι' N' G' H' hw e sm => by
  obtain ⟨v, hv, rv⟩ := (t.mono e).get hw
  have hq : SqL K H' a xs := sm.seq (e.sm.seq h)
  refine ⟨⟨xs, v, hq, hv⟩, fun v' H'' ⟨e1, y⟩ => ⟨e1, ?_⟩⟩
  have := y xs hq
  rw [hv] at this
  cases this
  exact rv
 stop := fun G' H' sm sm' => ⟨xs, sm'.seq (sm.seq h), by rw [t.length]; exact Qky _⟩
theorem src_tup {K : PySem.W.Frag} {ι : Nat->Addr} {N : Nat} {G : Hp} {a : Addr} {xs : List V} {ws : List W} (h : SqT K G a xs) (t : RelWs K ι N G xs ws) : SrcR K (Itt K a) ws ι N G where
 go := fun i w ι' N' G' H' hw e sm => by
  obtain ⟨v, hv, rv⟩ := (t.mono e).get hw
  have hq : SqT K H' a xs := sqT_same sm (sqT_same e.sm h)
  refine ⟨⟨xs, v, hq, hv⟩, fun v' H'' ⟨e1, y⟩ => ⟨e1, ?_⟩⟩
  have := y xs hq
  rw [hv] at this
  cases this
  exact rv
 stop := fun G' H' sm sm' => ⟨xs, sqT_same sm' (sqT_same sm h), by rw [t.length]; exact Qky _⟩
theorem src_str {K : PySem.W.Frag} {ι : Nat->Addr} {N : Nat} {G : Hp} (z : Str) : SrcR K (Its z) (Qil z) ι N G where
 go := fun i w ι' N' G' H' hw e sm => by
  unfold Qil at hw
  rw [QkG] at hw
  cases hc : z.cps.toList[i]? with
  | none => rw [hc] at hw; cases hw
  | some c =>
   rw [hc] at hw
   cases hw
   have hc' : z.cps[i]? = some c := by simpa using hc
   have hi : i < z.cps.size := (Array.getElem?_eq_some_iff.mp hc').1
   refine ⟨hi, fun v' H'' ⟨e1, c', h1, h2⟩ => ⟨e1, ?_⟩⟩
   rw [hc'] at h1
   cases h1
   rw [h2]
   exact .str _
 stop := fun G' H' sm sm' => by
  show z.cps.size<=(Qil z).length
  unfold Qil
  simp
def QaH (lo : Int) (n : Nat) : List W := (List.range n).map fun (i : Nat) => W.int (lo + i)
theorem Qif {K : PySem.W.Frag} {ι : Nat->Addr} {N : Nat} {G : Hp} (lo : Int) (n : Nat) : SrcR K (Itr lo n) (QaH lo n) ι N G where
 go := fun i w ι' N' G' H' hw e sm => by
  unfold QaH at hw
  rw [QkG] at hw
  by_cases hi : i < n
  ·rw [List.getElem?_range hi] at hw
   cases hw
   refine ⟨hi, fun v' H'' ⟨e1, h2⟩ => ⟨e1, ?_⟩⟩
   rw [h2]
   exact .int _
  ·rw [List.getElem?_eq_none (by simp; omega)] at hw; cases hw
 stop := fun G' H' sm sm' => by
  show n<=(QaH lo n).length
  unfold QaH
  simp
theorem pdi_val {y : Str} {py : Pos} {l : Expr} {r : Run} (h : PD X l r) : PDI X (.Name y py) l (QaB r) := by
 refine PI.imp (pi_seq h) fun σ H Q hq => ?_
 obtain ⟨ι, G, st, Γ, en, sr, q⟩ := hq
 refine ⟨ι, G, st, Γ, en, sr, ?_⟩
 unfold QaB at q
 cases e1 : r Γ st with
 | stuck => rw [e1] at q; exact q
 | ex c s => rw [e1] at q; exact q
 | ok w st1 =>
  rw [e1] at q
  intro v ι1 G1 H1 x1 sr1 r1
  have q' : match (match srcOf w with | some xs => R.ok xs st1 | none => R.stuck) with
   | .ok items st' => ∀ J ι' G' H', Ext ι st.nxt G ι' st'.nxt G'->SR X.K ι' st' G' H'->SrcR X.K J items ι' st'.nxt G'->Q J H'
   | .ex c st' => XW X ι st.nxt G c st'
   | .stuck => False := q
  cases r1 with
  | tup s1 c1 t1 => exact .inr (.inl ⟨_, rfl, ⟨_, sqT_same sr1.sub s1⟩, q' _ ι1 G1 H1 x1 sr1 (src_tup s1 t1)⟩)
  | lst s1 t1 => exact .inl ⟨_, rfl, ⟨_, sr1.sub.seq s1⟩, q' _ ι1 G1 H1 x1 sr1 (src_list s1 t1)⟩
  | str z => exact .inr (.inr ⟨z, rfl, q' _ ι1 G1 H1 x1 sr1 (src_str z)⟩)
  | _ => exact q'.elim
def Qcv (j : Int) : Prop := -(2 ^ 62)<=j/\j < 2 ^ 62
instance (j : Int) : Decidable (Qcv j) := by unfold Qcv; infer_instance
def QaF (r : Run) : Src := fun Γ st => (r Γ st).bind fun w st1 => match w with
 | .int j => if Qcv j then .ok (QaH 0 j.toNat) st1 else .stuck
 | _ => .stuck
theorem QhD {tg a : Expr} {p pos : Pos} {ra : Run} (hg : Gl X "range") (hm : X.mg "range" = none) (ha : PD X a ra) (hs : starEach [a] X.env = [(false, eval a X.env)]) : PDI X tg (.Call (.Name "range" p) [a] [] pos) (QaF ra) := by
 refine PI.imp (QiE hg hm (Qek ha QfP hs) hs) fun σ H Q hq => ?_
 obtain ⟨ι, G, st, Γ, en, sr, q⟩ := hq
 refine ⟨ι, G, st, Γ, en, sr, ?_⟩
 unfold QaF at q
 unfold Qaa Qac
 cases e1 : ra Γ st with
 | stuck => rw [e1] at q; exact q
 | ex c s => rw [e1] at q; exact q
 | ok w st1 =>
  rw [e1] at q
  intro vs ι1 G1 H1 x1 sr1 r1
  obtain ⟨v, rfl, r2⟩ := rel1 r1
  cases r2 with
  | int j =>
   by_cases hr : Qcv j
   ·have q' : match (if Qcv j then R.ok (QaH 0 j.toNat) st1 else R.stuck) with
     | .ok items st' => ∀ J ι' G' H', Ext ι st.nxt G ι' st'.nxt G'->SR X.K ι' st' G' H'->SrcR X.K J items ι' st'.nxt G'->Q J H'
     | .ex c st' => XW X ι st.nxt G c st'
     | .stuck => False := q
    rw [if_pos hr] at q'
    exact ⟨j, rfl, hr.1, hr.2, q' _ ι1 G1 H1 x1 sr1 (Qif 0 _)⟩
   ·have q' : match (if Qcv j then R.ok (QaH 0 j.toNat) st1 else R.stuck) with
     | .ok items st' => ∀ J ι' G' H', Ext ι st.nxt G ι' st'.nxt G'->SR X.K ι' st' G' H'->SrcR X.K J items ι' st'.nxt G'->Q J H'
     | .ex c st' => XW X ι st.nxt G c st'
     | .stuck => False := q
    rw [if_neg hr] at q'
    exact q'.elim
  | _ => exact (show False from q).elim
def R.calm {α : Type} : R α->R α
 | .ok a s => .ok a s
 | _ => .stuck
def wp0 (K : PySem.W.Frag) (ι : Nat->Addr) (N : Nat) (G : Hp) (r : R W) (Q : VK) : Prop := match r with
 | .ok w st' => ∀ v ι' G' H', Ext ι N G ι' st'.nxt G'->SR K ι' st' G' H'->RelW K ι' st'.nxt G' v w->Q v H'
 | _ => False
def tD0 (K : PySem.W.Frag) (run : Run) : TE := fun σ H Q => ∃ ι G st Γ, EnvR K ι st.nxt G σ Γ/\SR K ι st G H/\wp0 K ι st.nxt G (run Γ st) Q
def tT0 (K : PySem.W.Frag) (run : Run) : TT := fun σ H Q => tD0 K run σ H fun v H' => ∃ b, v = .bl b/\Q b H'
theorem tD0_tD {run : Run} {σ : St} {H : Hp} {Q : VK} (h : tD0 X.K run σ H Q) : tD X run σ H Q := by
 obtain ⟨ι, G, st, Γ, en, sr, q⟩ := h
 refine ⟨ι, G, st, Γ, en, sr, ?_⟩
 cases e : run Γ st with
 | ok w st' => rw [e] at q; exact q
 | ex c s => rw [e] at q; exact q.elim
 | stuck => rw [e] at q; exact q
theorem PD.calm {e : Expr} {run : Run} (h : PD X e run) : PE X e (tD0 X.K run) := PE.imp h fun _ _ _ q => tD0_tD q
theorem PT.calm {e : Expr} {run : Run} (h : PT X e (tDT X run)) : PT X e (tT0 X.K run) := PT.imp h fun _ _ _ q => tD0_tD q
def Qbc (rt re : Run) (Γc : Ga) : List W->List W->S->R (List W)
 | [], acc, st => .ok acc st
 | x :: xs, acc, st => (rt (some x :: Γc) st).calm.bind fun b st1 => match b with
  | .bl true => (re (some x :: Γc) st1).calm.bind fun y st2 => Qbc rt re Γc xs (acc ++ [y]) st2
  | .bl false => Qbc rt re Γc xs acc st1
  | _ => .stuck
def capG (cap : List Nat) (Γ : Ga) : Ga := cap.map fun j => (Γ[j]?).getD none
def opL (m : Bool) : OpN := if m then QcC else Qem
def QaE (m : Bool) (src : Src) (cap : List Nat) (rt re : Run) : Run := fun Γ st => (src Γ st).bind fun items st1 => if items.length < sizeLine then (Qbc rt re (capG cap Γ) items [] st1).bind (opL m) else .stuck
theorem cap_env {K : PySem.W.Frag} {ι : Nat->Addr} {N : Nat} {G : Hp} {σ : St} {Γ : Ga} {v : V} {w : W} (cap : List Nat) (en : EnvR K ι N G σ Γ) (r : RelW K ι N G v w) : EnvR K ι N G (capS cap σ (some v)) (some w :: capG cap Γ) := by
 refine ⟨by unfold capS capG; simp, fun i u h => ?_⟩
 cases i with
 | zero =>
  have h' : some (some w) = some (some u) := by simpa using h
  cases h'
  exact ⟨v, by unfold capS; simp, r⟩
 | succ i =>
  have h' : (capG cap Γ)[i]? = some (some u) := by simpa using h
  unfold capG at h'
  rw [QkG] at h'
  cases hj : cap[i]? with
  | none => rw [hj] at h'; cases h'
  | some j =>
   rw [hj] at h'
   have h2 : (Γ[j]?).getD none = some u := Option.some.inj h'
   cases hg : Γ[j]? with
   | none => rw [hg] at h2; cases h2
   | some o =>
    rw [hg] at h2
    have h3 : o = some u := h2
    subst h3
    obtain ⟨z, h4, h5⟩ := en.get j u hg
    refine ⟨z, ?_, h5⟩
    unfold capS
    rw [List.getElem?_cons_succ, QkG, hj]
    show some ((σ[j]?).getD none) = some (some z)
    rw [h4]; rfl
def wpL (X : Cx) (m : Bool) (ι : Nat->Addr) (N : Nat) (G : Hp) (r : R (List W)) (Q : VK) : Prop := match r with
 | .ok ys st => wpW X ι N G (opL m ys st) Q
 | .ex c st => XW X ι N G c st
 | .stuck => False
theorem wpL_bind {m : Bool} {ι : Nat->Addr} {N : Nat} {G : Hp} {r : R (List W)} {Q : VK} (h : wpW X ι N G (r.bind (opL m)) Q) : wpL X m ι N G r Q := by
 cases r <;> exact h
theorem wpL.later {m : Bool} {ι ι1 : Nat->Addr} {N N1 : Nat} {G G1 : Hp} {r : R (List W)} {Q : VK} (e : Ext ι N G ι1 N1 G1) (h : wpL X m ι N G r Q) : wpL X m ι1 N1 G1 r Q := by
 cases r with
 | stuck => exact h
 | ex c s => exact XW.mono e h
 | ok w st' => exact wpW.later e h
theorem Qgw {m : Bool} {ι : Nat->Addr} {N : Nat} {G : Hp} {r : R W} {f : W->S->R (List W)} {Q : VK} {Q' : VK} {K : PySem.W.Frag} (hK : K = X.K) (h : wpL X m ι N G (r.calm.bind f) Q)
  (k : ∀ w st' v ι' G' H', Ext ι N G ι' st'.nxt G'->SR X.K ι' st' G' H'->RelW X.K ι' st'.nxt G' v w->wpL X m ι' st'.nxt G' (f w st') Q->Q' v H') : wp0 K ι N G r Q' := by
 subst hK
 cases r with
 | stuck => exact h
 | ex c s => exact (show False from h).elim
 | ok w st' => exact fun v ι' G' H' e sr rel => k w st' v ι' G' H' e sr rel (wpL.later e (show wpL X m ι N G (f w st') Q from h))
theorem pd_comp {scope : Scope} {x : Str} {px pos : Pos} {cl : List (Str × Addr)} {N : List Str} {cap : List Nat} {elt iter : Expr} {ifs : List Expr} {src : Src} {rt re : Run} {m : Bool} (hc : X.calm = true) (hi : PDI X (.Name x px) iter src) (Sc : CompSc X scope x cl N cap)
  (ht : ∀ C s H ex, PTs (QaC X scope cl C N s H ex) ifs (tT0 X.K rt)) (he : ∀ C s H ex, PE (QaC X scope cl C N s H ex) elt (tD0 X.K re)) (hs : ∀ z, foldedSetIterable iter X.env z = pure z) :
  PD X (.ListComp elt [⟨.Name x px, iter, ifs, 0⟩] scope pos) (QaE m src cap rt re) /\
  (∀ {i : Nat} {y : Str} {py spos : Pos}, X.N.Nodup->X.N[i]? = some y->X.env.scope.names.lookup y = some .local->swapsWith (.ListComp elt [⟨.Name x px, iter, ifs, 0⟩] scope pos) (some (.Name y py)) spos.line X.env = pure true ->
   PS X (.Assign [.Name y py] (.ListComp elt [⟨.Name x px, iter, ifs, 0⟩] scope pos) spos) (tAsg (tD X (QaE m src cap rt re)) (QdH i))) := by
 have key : ∀ σ H Q, tD X (QaE m src cap rt re) σ H Q->tComp (tDI X src) cap (tT0 X.K rt) (tD0 X.K re) σ H Q := by
  intro σ H Q h
  obtain ⟨ι, G, st, Γ, en, sr, q⟩ := h
  refine ⟨ι, G, st, Γ, en, sr, ?_⟩
  unfold QaE at q
  cases e1 : src Γ st with
  | stuck => rw [e1] at q; exact q
  | ex c s => rw [e1] at q; exact q
  | ok items st1 =>
   rw [e1] at q
   intro J ι1 G1 H1 x1 sr1 sc
   have q' : wpW X ι st.nxt G (if items.length < sizeLine then (Qbc rt re (capG cap Γ) items [] st1).bind (opL m) else .stuck) Q := q
   by_cases hl : items.length < sizeLine
   ·rw [if_pos hl] at q'
    have q1 := wpL.later x1 (wpL_bind q')
    have en1 := en.mono x1
    refine ⟨fun i k ys H' => k = items.length - i/\i<=items.length/\ys.length<=i/\∃ ι2 G2 st2 acc, Ext ι1 st1.nxt G1 ι2 st2.nxt G2/\SR X.K ι2 st2 G2 H'/\RelWs X.K ι2 st2.nxt G2 ys acc/\wpL X m ι2 st2.nxt G2 (Qbc rt re (capG cap Γ) (items.drop i) acc st2) Q,
     ⟨items.length, by simp, Nat.zero_le _, Nat.zero_le _, ι1, G1, st1, [], Ext.refl _ _ _, sr1, .nil, by rw [List.drop_zero]; exact q1⟩, ?_⟩
    rintro i k ys H' ⟨rfl, hi', hy, ι2, G2, st2, acc, e2, sr2, ra, q2⟩
    refine ⟨by omega, ?_⟩
    by_cases hlt : i < items.length
    ·have hd : items.drop i = items[i] :: items.drop (i + 1) := QkM hlt
     have hg : items[i]? = some items[i] := Qks hlt
     obtain ⟨g1, g2⟩ := sc.go i items[i] ι2 st2.nxt G2 H' hg e2 sr2.sub
     refine .inr ⟨g1, fun v H'' hy' => ?_⟩
     obtain ⟨eh, rv⟩ := g2 v H'' hy'
     subst eh
     rw [hd] at q2
     have q2' : wpL X m ι2 st2.nxt G2 ((rt (some items[i] :: capG cap Γ) st2).calm.bind fun b st3 => match b with
      | .bl true => (re (some items[i] :: capG cap Γ) st3).calm.bind fun y st4 => Qbc rt re (capG cap Γ) (items.drop (i + 1)) (acc ++ [y]) st4
      | .bl false => Qbc rt re (capG cap Γ) (items.drop (i + 1)) acc st3
      | _ => .stuck) Q := q2
     have en2 : EnvR X.K ι2 st2.nxt G2 (capS cap σ (some v)) (some items[i] :: capG cap Γ) := cap_env cap (en1.mono e2) rv
     refine ⟨ι2, G2, st2, some items[i] :: capG cap Γ, en2, sr2, Qgw rfl q2' fun b st3 vb ι3 G3 H3 e3 sr3 rb q3 => ?_⟩
     cases b with
     | bl b =>
      cases rb
      refine ⟨b, rfl, ?_⟩
      cases b with
      | true =>
       rw [if_pos rfl]
       refine ⟨ι3, G3, st3, some items[i] :: capG cap Γ, en2.mono e3, sr3, Qgw rfl q3 fun y st4 vy ι4 G4 H4 e4 sr4 ry q4 => ?_⟩
       refine ⟨items.length - (i + 1), by omega, rfl, hlt, by rw [QkB, QkJ]; omega, ι4, G4, st4, acc ++ [y], (e2.trans e3).trans e4, sr4, ((ra.mono e3).mono e4).append (.cons ry .nil), q4⟩
      | false =>
       rw [if_neg Qkr]
       exact ⟨items.length - (i + 1), by omega, rfl, hlt, by omega, ι3, G3, st3, acc, e2.trans e3, sr3, ra.mono e3, q3⟩
     | _ => exact (show False from q3).elim
    ·have ei : i = items.length := by omega
     subst ei
     rw [List.drop_length] at q2
     refine .inl ⟨sc.stop G2 H' e2.sm sr2.sub, ?_⟩
     have q3 : wpW X ι2 st2.nxt G2 (opL m acc st2) Q := q2
     cases m with
     | true => exact (QbD sr2 ra q3).2
     | false => exact (Qcf sr2 ra q3).2
   ·rw [if_neg hl] at q'; exact (show False from q').elim
 refine ⟨PE.imp (pe_comp hc hi Sc ht he hs) key, fun {i y py spos} hN hy hL hsw => ?_⟩
 exact PS.imp (Qhy hN hy hL hc hi Sc ht he hsw hs) fun D σ H h => key σ H _ h
def SpD (K : PySem.W.Frag) (n : Nat) (op : OpN) : Sp := fun vs H Q _ => vs.length = n/\∃ ι G st ws, SR K ι st G H/\RelWs K ι st.nxt G vs ws/\wp0 K ι st.nxt G (op ws st) Q
def Qav (op : OpN) : OpN := fun ws st => (op ws st).calm
theorem wp0_calm {ι : Nat->Addr} {N : Nat} {G : Hp} {r : R W} {Q : VK} (h : wpW X ι N G r.calm Q) : wp0 X.K ι N G r Q := by
 cases r with
 | ok w st => exact h
 | ex c s => exact (show False from h).elim
 | stuck => exact h
theorem pd_call {k n : Nat} {f : Addr} {fd : FuncData} {ps : List Str} {op : OpN} {x : Str} {p pos : Pos} {e : Expr} {es : List Expr} {rr : Runs} (F : FnOk X.prog X.w X.K X.mg X.base CX0 k f fd ps (SpD X.K n op)) (hr : Room k X.A) (hg : Gl X x) (hm : X.mg x = some (.ref f)) (hk : PySem.W.keepIn X.K (.ref f) = true)
  (hb : QbY X.K fd ps []) (ha : PDA X (e :: es) rr) (hn : ∀ Γ st ws st', rr Γ st = .ok ws st'->ws.length = n) (hdb : (x == ("__debug__" : Str)) = false) (he : starEach (e :: es) X.env = (false, eval e X.env) :: starEach es X.env) (hpl : (backTo pos (starEach es X.env)).any (·.1) = false) :
  PD X (.Call (.Name x p) (e :: es) [] pos) (runN rr (Qav op)) := by
 refine PE.imp (pe_call F hr hg hm hk hb .nil pass0 ha hdb he hpl) fun σ H Q h => ?_
 obtain ⟨ι, G, st, Γ, en, sr, q⟩ := h
 refine ⟨ι, G, st, Γ, en, sr, ?_⟩
 unfold runN at q
 cases e1 : rr Γ st with
 | stuck => rw [e1] at q; exact q
 | ex c s => rw [e1] at q; exact q
 | ok ws st1 =>
  rw [e1] at q
  intro vs ι1 G1 H1 x1 sr1 r1
  rw [List.append_nil]
  exact ⟨by rw [r1.length]; exact hn Γ st ws st1 e1, ι1, G1, st1, ws, sr1, r1, wp0_calm (wpW.later x1 (show wpW X ι st.nxt G (Qav op ws st1) Q from q))⟩
end
end DL
namespace DL
open PySem PySem.Spec PyProof.Rows L2
inductive Fl where
 | nx (Γ : Ga) | rt (w : W) | bk (Γ : Ga) | ct (Γ : Ga)
abbrev RunS := Ga->S->R Fl
section
variable {X : Cx}
def wpF (X : Cx) (ι : Nat->Addr) (N : Nat) (G : Hp) (r : R Fl) (D : Ends) : Prop := match r with
 | .ok fl st' => ∀ ι' G' H', Ext ι N G ι' st'.nxt G'->SR X.K ι' st' G' H'->(match fl with
  | .nx Γ' => ∀ σ', EnvR X.K ι' st'.nxt G' σ' Γ'->D.nx σ' H'
  | .rt w => ∀ v, RelW X.K ι' st'.nxt G' v w->D.rt v H'
  | .bk Γ' => ∀ σ', EnvR X.K ι' st'.nxt G' σ' Γ'->D.bk σ' H'
  | .ct Γ' => ∀ σ', EnvR X.K ι' st'.nxt G' σ' Γ'->D.ct σ' H')
 | .ex c st' => XW X ι N G c st'
 | .stuck => False
theorem wpF.later {ι ι1 : Nat->Addr} {N N1 : Nat} {G G1 : Hp} {r : R Fl} {D : Ends} (e : Ext ι N G ι1 N1 G1) (h : wpF X ι N G r D) : wpF X ι1 N1 G1 r D := by
 cases r with
 | stuck => exact h
 | ex c s => exact XW.mono e h
 | ok w st' => exact fun ι' G' H' e' sr => h ι' G' H' (e.trans e') sr
theorem Qbq {ι : Nat->Addr} {N : Nat} {G : Hp} {r : R W} {f : W->S->R Fl} {D : Ends} {Q' : VK} (h : wpF X ι N G (r.bind f) D)
  (k : ∀ w st' v ι' G' H', Ext ι N G ι' st'.nxt G'->SR X.K ι' st' G' H'->RelW X.K ι' st'.nxt G' v w->wpF X ι' st'.nxt G' (f w st') D->Q' v H') : wpW X ι N G r Q' := by
 cases r with
 | stuck => exact h
 | ex c s => exact h
 | ok w st' => exact fun v ι' G' H' e sr rel => k w st' v ι' G' H' e sr rel (wpF.later e (show wpF X ι N G (f w st') D from h))
def tDS (X : Cx) (run : RunS) : TS := fun D σ H => ∃ ι G st Γ, EnvR X.K ι st.nxt G σ Γ/\SR X.K ι st G H/\wpF X ι st.nxt G (run Γ st) D
abbrev PDS (X : Cx) (s : Stmt) (run : RunS) : Prop := PS X s (tDS X run)
abbrev PDSs (X : Cx) (s : List Stmt) (run : RunS) : Prop := PSs X s (tDS X run)
def Qaq : RunS := fun Γ st => .ok (.nx Γ) st
def sBrk : RunS := fun Γ st => .ok (.bk Γ) st
def sCnt : RunS := fun Γ st => .ok (.ct Γ) st
def sRetN : RunS := fun _ st => .ok (.rt .non) st
def sRet (r : Run) : RunS := fun Γ st => (r Γ st).bind fun w st' => .ok (.rt w) st'
def Qcp (r : Run) : RunS := fun Γ st => (r Γ st).bind fun _ st' => .ok (.nx Γ) st'
def sSet (i : Nat) (r : Run) : RunS := fun Γ st => (r Γ st).bind fun w st' => .ok (.nx (Γ.set i (some w))) st'
def sIf (rc : Run) (a b : RunS) : RunS := fun Γ st => (rc Γ st).bind fun w st' => match w with
 | .bl true => a Γ st'
 | .bl false => b Γ st'
 | _ => .stuck
def sSeq (a b : RunS) : RunS := fun Γ st => (a Γ st).bind fun fl st' => match fl with
 | .nx Γ' => b Γ' st'
 | fl => .ok fl st'
theorem pds_pass {pos : Pos} : PDS X (.Pass pos) Qaq := PS.imp ps_pass fun D σ H ⟨ι, G, _, _, en, sr, q⟩ => q ι G H (Ext.refl _ _ _) sr σ en
theorem pds_brk {pos : Pos} : PDS X (.Break pos) sBrk := PS.imp ps_break fun D σ H ⟨ι, G, _, _, en, sr, q⟩ => q ι G H (Ext.refl _ _ _) sr σ en
theorem pds_cnt {pos : Pos} : PDS X (.Continue pos) sCnt := PS.imp QfM fun D σ H ⟨ι, G, _, _, en, sr, q⟩ => q ι G H (Ext.refl _ _ _) sr σ en
theorem pds_retN {pos : Pos} : PDS X (.Return none pos) sRetN := PS.imp ps_retN fun D σ H ⟨ι, G, _, _, en, sr, q⟩ => q ι G H (Ext.refl _ _ _) sr .non .non
theorem pds_ret {e : Expr} {pos : Pos} {r : Run} (he : PD X e r) : PDS X (.Return (some e) pos) (sRet r) := by
 refine PS.imp (ps_ret he) fun D σ H ⟨ι, G, st, Γ, en, sr, q⟩ => ⟨ι, G, st, Γ, en, sr, Qbq q fun w st1 v ι1 G1 H1 e1 sr1 r1 q1 => ?_⟩
 exact q1 ι1 G1 H1 (Ext.refl _ _ _) sr1 v r1
theorem pds_drop {e : Expr} {pos : Pos} {r : Run} (he : PD X e r) (hs : swapsWith e none pos.line X.env = pure false) : PDS X (.Expr e pos) (Qcp r) := by
 refine PS.imp (ps_expr he hs) fun D σ H ⟨ι, G, st, Γ, en, sr, q⟩ => ⟨ι, G, st, Γ, en, sr, Qbq q fun w st1 v ι1 G1 H1 e1 sr1 r1 q1 => ?_⟩
 exact q1 ι1 G1 H1 (Ext.refl _ _ _) sr1 σ (en.mono e1)
theorem Qki {r : Run} {i : Nat} {D : Ends} {σ : St} {H : Hp} (h : tDS X (sSet i r) D σ H) : tAsg (tD X r) (QdH i) D σ H := by
 obtain ⟨ι, G, st, Γ, en, sr, q⟩ := h
 refine ⟨ι, G, st, Γ, en, sr, Qbq q fun w st1 v ι1 G1 H1 e1 sr1 r1 q1 => ?_⟩
 exact q1 ι1 G1 H1 (Ext.refl _ _ _) sr1 _ ((en.mono e1).set i r1)
theorem pds_set {i : Nat} {x : Str} {e : Expr} {pos pos' : Pos} {r : Run} (hN : X.N.Nodup) (hi : X.N[i]? = some x) (hx : Loc X.env.scope x) (he : PD X e r) (hs : swapsWith e (some (.Name x pos')) pos.line X.env = pure false) (hf : X.fn x = true\/X.env.scope.names.lookup x = some .local) :
  PDS X (.Assign [.Name x pos'] e pos) (sSet i r) := PS.imp (ps_set hN hi hx he hs hf) fun D σ H h => Qki h
theorem pds_if {c : Expr} {a b : List Stmt} {pos : Pos} {rc : Run} {ra rb : RunS} (hc : PT X c (tDT X rc)) (ha : PDSs X a ra) (hb : PDSs X b rb) : PDS X (.If c a b pos) (sIf rc ra rb) := by
 refine PS.imp (ps_if hc ha hb) fun D σ H ⟨ι, G, st, Γ, en, sr, q⟩ => ⟨ι, G, st, Γ, en, sr, Qbq q fun w st1 v ι1 G1 H1 e1 sr1 r1 q1 => ?_⟩
 cases w with
 | bl b =>
  cases r1
  refine ⟨b, rfl, ?_⟩
  cases b with
  | true => rw [if_pos rfl]; exact ⟨ι1, G1, st1, Γ, en.mono e1, sr1, q1⟩
  | false => rw [if_neg Qkr]; exact ⟨ι1, G1, st1, Γ, en.mono e1, sr1, q1⟩
 | _ => exact (show False from q1).elim
theorem pdss_nil : PDSs X [] Qaq := PSs.imp pss_nil fun D σ H ⟨ι, G, _, _, en, sr, q⟩ => q ι G H (Ext.refl _ _ _) sr σ en
theorem QiI {s : Stmt} {ss : List Stmt} {a b : RunS} (h1 : PDS X s a) (h2 : PDSs X ss b) : PDSs X (s :: ss) (sSeq a b) := by
 refine PSs.imp (pss_cons h1 h2) fun D σ H ⟨ι, G, st, Γ, en, sr, q⟩ => ⟨ι, G, st, Γ, en, sr, ?_⟩
 unfold sSeq at q
 cases e1 : a Γ st with
 | stuck => rw [e1] at q; exact q
 | ex c s => rw [e1] at q; exact q
 | ok fl st1 =>
  rw [e1] at q
  intro ι1 G1 H1 x1 sr1
  cases fl with
  | nx Γ1 => exact fun σ1 en1 => ⟨ι1, G1, st1, Γ1, en1, sr1, wpF.later x1 (show wpF X ι st.nxt G (b Γ1 st1) D from q)⟩
  | rt w => exact q ι1 G1 H1 x1 sr1
  | bk Γ1 => exact q ι1 G1 H1 x1 sr1
  | ct Γ1 => exact q ι1 G1 H1 x1 sr1
def Qbe (i : Nat) (body : RunS) : List W->Ga->S->R Fl
 | [], Γ, st => .ok (.nx Γ) st
 | x :: xs, Γ, st => (body (Γ.set i (some x)) st).bind fun fl st' => match fl with
  | .nx Γ' => Qbe i body xs Γ' st'
  | .ct Γ' => Qbe i body xs Γ' st'
  | .bk Γ' => .ok (.nx Γ') st'
  | .rt w => .ok (.rt w) st'
def sFor (i : Nat) (src : Src) (body : RunS) : RunS := fun Γ st => (src Γ st).bind fun items st' => Qbe i body items Γ st'
theorem pds_for {i : Nat} {x : Str} {px pos : Pos} {iter : Expr} {body : List Stmt} {src : Src} {rb : RunS} (hp : PassesOwn (model X.prog X.w) X.A X.env X.xe) (hc : X.calm = true) (hi : PDI X (.Name x px) iter src) (hg : PG X (.Name x px) (QdH i)) (hb : PDSs X body rb) (hs : ∀ z, foldedSetIterable iter X.env z = pure z) :
  PDS X (.For (.Name x px) iter body [] pos) (sFor i src rb) := by
 refine PS.imp (ps_for hp hc hi hg hb hs) fun D σ H ⟨ι, G, st, Γ, en, sr, q⟩ => ⟨ι, G, st, Γ, en, sr, ?_⟩
 unfold sFor at q
 cases e1 : src Γ st with
 | stuck => rw [e1] at q; exact q
 | ex c s => rw [e1] at q; exact q
 | ok items st1 =>
  rw [e1] at q
  intro J ι1 G1 H1 x1 sr1 sc
  have q1 : wpF X ι1 st1.nxt G1 (Qbe i rb items Γ st1) D := wpF.later x1 (show wpF X ι st.nxt G (Qbe i rb items Γ st1) D from q)
  refine ⟨fun k m σ' H' => m = items.length - k/\k<=items.length/\∃ ι2 G2 st2 Γ2, Ext ι1 st1.nxt G1 ι2 st2.nxt G2/\SR X.K ι2 st2 G2 H'/\EnvR X.K ι2 st2.nxt G2 σ' Γ2/\wpF X ι2 st2.nxt G2 (Qbe i rb (items.drop k) Γ2 st2) D,
   ⟨items.length, by simp, Nat.zero_le _, ι1, G1, st1, Γ, Ext.refl _ _ _, sr1, en.mono x1, by rw [List.drop_zero]; exact q1⟩, ?_⟩
  rintro k m σ' H' ⟨rfl, hk, ι2, G2, st2, Γ2, e2, sr2, en2, q2⟩
  by_cases hlt : k < items.length
  ·have hd : items.drop k = items[k] :: items.drop (k + 1) := QkM hlt
   have hg' : items[k]? = some items[k] := Qks hlt
   obtain ⟨g1, g2⟩ := sc.go k items[k] ι2 st2.nxt G2 H' hg' e2 sr2.sub
   rw [hd] at q2
   refine .inr ⟨g1, fun σ3 H3 => ∃ ι3 G3 st3 Γ3, Ext ι1 st1.nxt G1 ι3 st3.nxt G3/\SR X.K ι3 st3 G3 H3/\EnvR X.K ι3 st3.nxt G3 σ3 Γ3/\wpF X ι3 st3.nxt G3 (Qbe i rb (items.drop (k + 1)) Γ3 st3) D,
    fun σ3 H3 h3 => ⟨items.length - (k + 1), by omega, rfl, hlt, h3⟩, fun v H'' hy => ?_⟩
   obtain ⟨eh, rv⟩ := g2 v H'' hy
   subst eh
   refine ⟨ι2, G2, st2, Γ2.set i (some items[k]), en2.set i rv, sr2, ?_⟩
   have q2' : wpF X ι2 st2.nxt G2 ((rb (Γ2.set i (some items[k])) st2).bind fun fl st' => match fl with
    | .nx Γ' => Qbe i rb (items.drop (k + 1)) Γ' st'
    | .ct Γ' => Qbe i rb (items.drop (k + 1)) Γ' st'
    | .bk Γ' => .ok (.nx Γ') st'
    | .rt w => .ok (.rt w) st') D := q2
   cases e3 : rb (Γ2.set i (some items[k])) st2 with
   | stuck => rw [e3] at q2'; exact q2'
   | ex c s => rw [e3] at q2'; exact q2'
   | ok fl st3 =>
    rw [e3] at q2'
    intro ι3 G3 H3 x3 sr3
    cases fl with
    | nx Γ3 => exact fun σ3 en3 => ⟨ι3, G3, st3, Γ3, e2.trans x3, sr3, en3, wpF.later x3 q2'⟩
    | ct Γ3 => exact fun σ3 en3 => ⟨ι3, G3, st3, Γ3, e2.trans x3, sr3, en3, wpF.later x3 q2'⟩
    | bk Γ3 => exact q2' ι3 G3 H3 x3 sr3
    | rt w => exact q2' ι3 G3 H3 x3 sr3
  ·have ek : k = items.length := by omega
   subst ek
   rw [List.drop_length] at q2
   exact .inl ⟨sc.stop G2 H' e2.sm sr2.sub, q2 ι2 G2 H' (Ext.refl _ _ _) sr2 σ' en2⟩
def putAt (n : Nat) (k : Int) (v : W) (st : S) : Option MO->R Unit
 | some (.lst ws) => (match ixN ws.length k with | some j => .ok () (st.put n (.lst (ws.set j v))) | none => .stuck)
 | _ => .stuck
def QcS : W->W->W->S->R Unit := fun o i v st => match o, i with
 | .ref n, .int k => putAt n k v st (st.mu n)
 | _, _ => .stuck
def QfJ (ro ri rv : Run) : RunS := fun Γ st => (rv Γ st).bind fun v st1 => (ro Γ st1).bind fun o st2 => (ri Γ st2).bind fun i st3 => (QcS o i v st3).bind fun _ st4 => .ok (.nx Γ) st4
theorem QhC {o i e : Expr} {pos tpos : Pos} {ro ri rv : Run} (ho : PD X o ro) (hi : PD X i ri) (he : PD X e rv) (hg : ∀ {t : TSet}, PSet X t->PG X (.Subscript o i tpos) (gSub (tD X ro) (tD X ri) t)) (hs : swapsWithSole [.Subscript o i tpos] e pos.line X.env = pure false) (hw : swappedStores [.Subscript o i tpos] e X.env = pure none) :
  PDS X (.Assign [.Subscript o i tpos] e pos) (QfJ ro ri rv) := by
 refine PS.imp (ps_asg he (hg set_list) hs hw) fun D σ H ⟨ι, G, st, Γ, en, sr, q⟩ => ⟨ι, G, st, Γ, en, sr, Qbq q fun w st1 v ι1 G1 H1 e1 sr1 r1 q1 => ?_⟩
 refine ⟨ι1, G1, st1, Γ, en.mono e1, sr1, Qbq q1 fun wo st2 vo ι2 G2 H2 e2 sr2 r2 q2 => ?_⟩
 refine ⟨ι2, G2, st2, Γ, (en.mono e1).mono e2, sr2, Qbq q2 fun wi st3 vi ι3 G3 H3 e3 sr3 r3 q3 => ?_⟩
 have r1' := (r1.mono e2).mono e3
 have r2' := r2.mono e3
 cases wo with
 | ref n =>
  cases wi with
  | int k =>
   cases r3
   cases r2'
   have q3 : wpF X ι3 st3.nxt G3 ((putAt n k w st3 (st3.mu n)).bind fun x st4 => .ok (.nx Γ) st4) D := q3
   cases em : st3.mu n with
   | none => rw [em] at q3; exact (show False from q3).elim
   | some ob =>
    cases ob with
    | dct ks vs => rw [em] at q3; exact (show False from q3).elim
    | lst ws =>
     rw [em] at q3
     have q3 : wpF X ι3 st3.nxt G3 ((match ixN ws.length k with | some j => R.ok () (st3.put n (.lst (ws.set j w))) | none => R.stuck).bind fun x st4 => .ok (.nx Γ) st4) D := q3
     cases ej : ixN ws.length k with
     | none => rw [ej] at q3; exact (show False from q3).elim
     | some j =>
      rw [ej] at q3
      obtain ⟨_, _, xs, hx, rx⟩ := sr3.live n _ em
      refine ⟨_, xs, k, j, rfl, rfl, hx, by rw [rx.length]; exact ej, ?_⟩
      have sr4 := sr3.putL em (rx.set r1' j)
      exact q3 ι3 G3 _ (Ext.refl _ _ _) sr4 σ (((en.mono e1).mono e2).mono e3)
  | _ => exact (show False from q3).elim
 | _ => exact (show False from q3).elim
def frzs (f : W->Option W) : List W->Option (List W)
 | [] => some []
 | x :: xs => match f x, frzs f xs with
  | some y, some ys => some (y :: ys)
  | _, _ => none
def frz (N : Nat) (mu : Nat->Option MO) : Nat->W->Option W
 | 0, _ => none
 | k + 1, w => match w with
  | .ref n => if n < N then some (.ref n) else (match mu n with
   | some (.lst xs) => (frzs (frz N mu k) xs).map W.lst
   | some (.dct ks xs) => (frzs (frz N mu k) xs).map (W.dct ks)
   | none => none)
  | .tup xs => (frzs (frz N mu k) xs).map W.tup
  | .lst xs => (frzs (frz N mu k) xs).map W.lst
  | .dct ks xs => (frzs (frz N mu k) xs).map (W.dct ks)
  | w => some w
section
variable {K : PySem.W.Frag} {ι ι' : Nat->Addr} {N N' : Nat} {G G' : Hp}
theorem RelW.low {v0 : V} {w : W} (h : RelW K ι N G v0 w) : ∀ v, RelW K ι' N' G' v w->RelW K ι' N G' v w := by
 refine RelW.rec (motive_1 := fun _ w _ => ∀ v, RelW K ι' N' G' v w->RelW K ι' N G' v w) (motive_2 := fun _ ws _ => ∀ vs, RelWs K ι' N' G' vs ws->RelWs K ι' N G' vs ws) ?_ ?_ ?_ ?_ ?_ ?_ ?_ ?_ ?_ ?_ ?_ ?_ h
 ·intro v r; cases r; exact .non
 ·intro b v r; cases r; exact .bl b
 ·intro i v r; cases r; exact .int i
 ·intro x v r; cases r; exact .str x
 ·intro n v r; cases r; exact .ty n
 ·intro a xs ws _ _ _ ih v r; cases r with | tup s c t => exact .tup s c (ih _ t)
 ·intro a xs ws _ _ ih v r; cases r with | lst s t => exact .lst s (ih _ t)
 ·intro a xs ks ws _ _ _ ih v r; cases r with | dct s l t => exact .dct s l (ih _ t)
 ·intro n hn v r; cases r; exact .ref hn
 ·intro a C x _ _ v r; cases r with | exn s n => exact .exn s n
 ·intro vs r; cases r; exact .nil
 ·intro x w xs ws _ _ i1 i2 vs r; cases r with | cons r t => exact .cons (i1 _ r) (i2 _ t)
theorem RelWs.low : ∀ {vs0 : List V} {ws : List W} {vs : List V}, RelWs K ι N G vs0 ws->RelWs K ι' N' G' vs ws->RelWs K ι' N G' vs ws
 | _, _, _, .nil, .nil => .nil
 | _, _, _, .cons r0 t0, .cons r t => .cons (r0.low _ r) (RelWs.low t0 t)
theorem Qbg {f : W->Option W} (hf : ∀ v w w', RelW K ι N' G v w->f w = some w'->RelW K ι N G' v w') : ∀ {vs : List V} {ws ws' : List W}, RelWs K ι N' G vs ws->frzs f ws = some ws'->RelWs K ι N G' vs ws'
 | _, _, _, .nil, h => by cases h; exact .nil
 | _, w :: ws, ws', .cons r t, h => by
  unfold frzs at h
  cases e1 : f w with
  | none => rw [e1] at h; cases h
  | some y =>
   cases e2 : frzs f ws with
   | none => rw [e1, e2] at h; cases h
   | some ys =>
    rw [e1, e2] at h
    cases h
    exact .cons (hf _ _ _ r e1) (Qbg hf t e2)
theorem Qgh {mu : Nat->Option MO} (sm : Same G G') (hmu : ∀ n o, N<=n->mu n = some o->MOR K ι N' G G' (ι n) o) : ∀ (k : Nat) (v : V) (w w' : W), RelW K ι N' G v w->frz N mu k w = some w'->RelW K ι N G' v w'
 | 0, _, _, _, _, h => by cases h
 | k + 1, v, w, w', r, h => by
  have ih := Qgh sm hmu k
  unfold frz at h
  cases r with
  | non => cases h; exact .non
  | bl b => cases h; exact .bl b
  | int i => cases h; exact .int i
  | str x => cases h; exact .str x
  | ty n => cases h; exact .ty n
  | exn s n => cases h; exact .exn (sm _ _ s) n
  | @tup a xs ws s c t =>
   have h : (frzs (frz N mu k) ws).map W.tup = some w' := h
   cases e : frzs (frz N mu k) ws with
   | none => rw [e] at h; cases h
   | some ys => rw [e] at h; cases h; exact .tup (sqT_same sm s) (fun h => sm _ _ (c h)) (Qbg ih t e)
  | @lst a xs ws s t =>
   have h : (frzs (frz N mu k) ws).map W.lst = some w' := h
   cases e : frzs (frz N mu k) ws with
   | none => rw [e] at h; cases h
   | some ys => rw [e] at h; cases h; exact .lst (sm.seq s) (Qbg ih t e)
  | @dct a xs ks ws s l t =>
   have h : (frzs (frz N mu k) ws).map (W.dct ks) = some w' := h
   cases e : frzs (frz N mu k) ws with
   | none => rw [e] at h; cases h
   | some ys => rw [e] at h; cases h; exact .dct (sm _ _ s) l (Qbg ih t e)
  | @ref n hn =>
   have h : (if n < N then some (W.ref n) else (match mu n with
    | some (.lst xs) => (frzs (frz N mu k) xs).map W.lst
    | some (.dct ks xs) => (frzs (frz N mu k) xs).map (W.dct ks)
    | none => none)) = some w' := h
   by_cases hl : n < N
   ·rw [if_pos hl] at h; cases h; exact .ref hl
   ·rw [if_neg hl] at h
    cases em : mu n with
    | none => rw [em] at h; cases h
    | some o =>
     rw [em] at h
     have m := hmu n o (Nat.le_of_not_lt hl) em
     cases o with
     | lst ws =>
      obtain ⟨xs, h1, t⟩ := m
      have h : (frzs (frz N mu k) ws).map W.lst = some w' := h
      cases e : frzs (frz N mu k) ws with
      | none => rw [e] at h; cases h
      | some ys => rw [e] at h; cases h; exact .lst (SqL.of h1) (Qbg ih t e)
     | dct ks ws =>
      obtain ⟨xs, h1, l, t⟩ := m
      have h : (frzs (frz N mu k) ws).map (W.dct ks) = some w' := h
      cases e : frzs (frz N mu k) ws with
      | none => rw [e] at h; cases h
      | some ys => rw [e] at h; cases h; exact .dct h1 l (Qbg ih t e)
end
theorem SR.kept {K : PySem.W.Frag} {ι ι' : Nat->Addr} {st st' : S} {G G' H H' : Hp} (sr0 : SR K ι st G H) (e : Ext ι st.nxt G ι' st'.nxt G') (sr1 : SR K ι' st' G' H') (hs : ∀ n, n < st.nxt->st'.mu n = st.mu n) :
  ∃ G'', Ext ι st.nxt G ι' st.nxt G''/\SR K ι' st G'' H'/\(∀ (k : Nat) (v : V) (w w' : W), RelW K ι' st'.nxt G' v w->frz st.nxt st'.mu k w = some w'->RelW K ι' st.nxt G'' v w') /\
   ∀ a, (¬ ∃ n o, st.nxt<=n/\st'.mu n = some o/\ι' n = a)->G'' a = G' a := by
 have hold : ∀ n o, st.mu n = some o->n < st.nxt/\st'.mu n = some o := fun n o h => by
  have l := (sr0.live n o h).1
  exact ⟨l, by rw [hs n l]; exact h⟩
 let P : Addr->Prop := fun a => ∃ n o, st.nxt<=n/\st'.mu n = some o/\ι' n = a
 let G'' : Hp := fun a => @ite _ (P a) (Classical.propDecidable _) (H' a) (G' a)
 have g1 : ∀ a, P a->G'' a = H' a := fun a h => @if_pos _ (Classical.propDecidable _) h _ _ _
 have g2 : ∀ a, ¬ P a->G'' a = G' a := fun a h => @if_neg _ (Classical.propDecidable _) h _ _ _
 have sm : Same G' G'' := fun a u h => by
  by_cases p : P a
  ·obtain ⟨n, o, _, h2, h3⟩ := p
   have := (sr1.live n o h2).2.1
   rw [h3, h] at this
   cases this
  ·rw [g2 a p]; exact h
 have sub : Same G'' H' := fun a u h => by
  by_cases p : P a
  ·rw [g1 a p] at h; exact h
  ·rw [g2 a p] at h; exact sr1.sub a u h
 refine ⟨G'', ⟨Qky _, e.ag, e.sm.trans sm⟩, ⟨sub, fun n o h => ?_, fun n m o o' h h' z => sr1.inj n m o o' (hold n o h).2 (hold m o' h').2 z⟩, ?_, g2⟩
 ·obtain ⟨l, h'⟩ := hold n o h
  have np : ¬ P (ι' n) := fun ⟨m, o', h1, h2, h3⟩ => by
   have := sr1.inj m n o' o h2 h' h3
   omega
  obtain ⟨_, a2, a3⟩ := sr1.live n o h'
  have ex : Ext ι' st'.nxt G' ι' st'.nxt G'' := ⟨Qky _, fun _ _ => rfl, sm⟩
  refine ⟨l, by rw [g2 _ np]; exact a2, ?_⟩
  have b3 := (sr0.live n o h).2.2
  cases o with
  | lst ws => obtain ⟨xs, q, t⟩ := a3; obtain ⟨_, _, t0⟩ := b3; exact ⟨xs, q, RelWs.low t0 (t.mono ex)⟩
  | dct ks ws => obtain ⟨xs, q, z, t⟩ := a3; obtain ⟨_, _, _, t0⟩ := b3; exact ⟨xs, q, z, RelWs.low t0 (t.mono ex)⟩
 ·refine Qgh sm fun n o hn h => ?_
  have p : P (ι' n) := ⟨n, o, hn, h, rfl⟩
  have a3 := (sr1.live n o h).2.2
  cases o with
  | lst ws => obtain ⟨xs, q, t⟩ := a3; exact ⟨xs, by rw [g1 _ p]; exact q, t⟩
  | dct ks ws => obtain ⟨xs, q, z, t⟩ := a3; exact ⟨xs, by rw [g1 _ p]; exact q, z, t⟩
noncomputable def keep (st st' : S) (w : W) : R W := @ite _ (∀ n, n < st.nxt->st'.mu n = st.mu n) (Classical.propDecidable _) (match frz st.nxt st'.mu 12 w with
 | some w' => .ok w' st
 | none => .stuck) .stuck
theorem Qeq {st st' : S} {w w' : W} (h : ∀ n, n < st.nxt->st'.mu n = st.mu n) (e : frz st.nxt st'.mu 12 w = some w') : keep st st' w = .ok w' st := by
 unfold keep
 rw [if_pos h, e]
theorem keep_inv {st st' : S} {w : W} (h : keep st st' w ≠ .stuck) : (∀ n, n < st.nxt->st'.mu n = st.mu n)/\∃ w', frz st.nxt st'.mu 12 w = some w'/\keep st st' w = .ok w' st := by
 by_cases hs : ∀ n, n < st.nxt->st'.mu n = st.mu n
 ·refine ⟨hs, ?_⟩
  cases e : frz st.nxt st'.mu 12 w with
  | none => exact absurd (by unfold keep; rw [if_pos hs, e]) h
  | some w' => exact ⟨w', rfl, Qeq hs e⟩
 ·exact absurd (by unfold keep; rw [if_neg hs]) h
theorem SR.adopt {K : PySem.W.Frag} {ι : Nat->Addr} {st : S} {G H : Hp} {p : Addr} {o : MO} (h : SR K ι st G H) (hG : G p = none) (hne : ∀ m o, st.mu m = some o->ι m ≠ p) (mor : MOR K ι st.nxt G H p o) :
  ∃ ι', Ext ι st.nxt G ι' (st.nxt + 1) G/\SR K ι' (st.new o) G H/\ι' st.nxt = p := by
 have ex : Ext ι st.nxt G (fun n => if n = st.nxt then p else ι n) (st.nxt + 1) G := ⟨Nat.le_succ _, fun n hn => if_neg (QkF hn), Same.refl G⟩
 have up : ∀ {a : Addr} {q : MO}, MOR K ι st.nxt G H a q->MOR K (fun n => if n = st.nxt then p else ι n) (st.nxt + 1) G H a q := by
  intro a q m
  cases q with
  | lst ws => obtain ⟨xs, q, r⟩ := m; exact ⟨xs, q, r.mono ex⟩
  | dct ks ws => obtain ⟨xs, q, l, r⟩ := m; exact ⟨xs, q, l, r.mono ex⟩
 refine ⟨fun n => if n = st.nxt then p else ι n, ex, ⟨h.sub, fun n q e => ?_, fun n m q q' e e' z => ?_⟩, if_pos rfl⟩
 ·by_cases hn : n = st.nxt
  ·subst hn
   have e' : (if st.nxt = st.nxt then some o else st.mu st.nxt) = some q := e
   rw [if_pos rfl] at e'
   cases e'
   refine ⟨Nat.lt_succ_self _, ?_, ?_⟩
   ·(try dsimp only); rw [if_pos rfl]; exact hG
   ·(try dsimp only); rw [if_pos rfl]; exact up mor
  ·have e' : (if n = st.nxt then some o else st.mu n) = some q := e
   rw [if_neg hn] at e'
   obtain ⟨h1, h2, h3⟩ := h.live n q e'
   refine ⟨Nat.lt_succ_of_lt h1, ?_, ?_⟩
   ·(try dsimp only); rw [if_neg hn]; exact h2
   ·(try dsimp only); rw [if_neg hn]; exact up h3
 ·have e1 : (if n = st.nxt then some o else st.mu n) = some q := e
  have e2 : (if m = st.nxt then some o else st.mu m) = some q' := e'
  (try dsimp only at z)
  by_cases hn : n = st.nxt
  ·by_cases hm : m = st.nxt
   ·rw [hn, hm]
   ·rw [if_neg hm] at e2
    rw [if_pos hn, if_neg hm] at z
    exact absurd z.symm (hne m q' e2)
  ·rw [if_neg hn] at e1
   by_cases hm : m = st.nxt
   ·rw [if_neg hn, if_pos hm] at z
    exact absurd z (hne n q e1)
   ·rw [if_neg hm] at e2
    rw [if_neg hn, if_neg hm] at z
    exact h.inj n m q q' e1 e2 z
def S.less (st : S) (n : Nat) : S := ⟨st.nxt, fun m => if m = n then none else st.mu m⟩
theorem SR.less {K : PySem.W.Frag} {ι : Nat->Addr} {st : S} {G H : Hp} (h : SR K ι st G H) (n : Nat) : SR K ι (st.less n) G H := by
 have sub : ∀ m o, (st.less n).mu m = some o->st.mu m = some o/\m ≠ n := fun m o e => by
  have e : (if m = n then none else st.mu m) = some o := e
  by_cases hm : m = n
  ·rw [if_pos hm] at e; cases e
  ·rw [if_neg hm] at e; exact ⟨e, hm⟩
 exact ⟨h.sub, fun m o e => h.live m o (sub m o e).1, fun a b o o' e e' z => h.inj a b o o' (sub a o e).1 (sub b o' e').1 z⟩
def QhP (N : Nat) (mu : Nat->Option MO) : MO->Option MO
 | .lst xs => (frzs (frz N mu 12) xs).map MO.lst
 | .dct ks xs => (frzs (frz N mu 12) xs).map (MO.dct ks)
noncomputable def Qjm (st st' : S) (w : W) : R W := match w with
 | .ref n => if n < st.nxt then keep st st' (.ref n) else @ite _ (∀ m, m < st.nxt->st'.mu m = st.mu m) (Classical.propDecidable _) (match st'.mu n with
  | some o => (match QhP st.nxt (st'.less n).mu o with
   | some o' => .ok (.ref st.nxt) (st.new o')
   | none => .stuck)
  | none => .stuck) .stuck
 | w => keep st st' w
theorem SR.keptL {K : PySem.W.Frag} {ι ι' : Nat->Addr} {st st' : S} {G G' H H' : Hp} {n : Nat} {o o' : MO} (sr0 : SR K ι st G H) (e : Ext ι st.nxt G ι' st'.nxt G') (sr1 : SR K ι' st' G' H') (hs : ∀ n, n < st.nxt->st'.mu n = st.mu n)
  (hn : st.nxt<=n) (ho : st'.mu n = some o) (hf : QhP st.nxt (st'.less n).mu o = some o') :
  ∃ ι'' G'', Ext ι st.nxt G ι'' (st.nxt + 1) G''/\SR K ι'' (st.new o') G'' H'/\ι'' st.nxt = ι' n := by
 have hs' : ∀ m, m < st.nxt->(st'.less n).mu m = st.mu m := fun m hm => by
  show (if m = n then none else st'.mu m) = _
  rw [if_neg (by omega)]; exact hs m hm
 obtain ⟨G'', ex, sr2, rel, g2⟩ := sr0.kept (st' := st'.less n) e (sr1.less n) hs'
 obtain ⟨_, a2, a3⟩ := sr1.live n o ho
 have np : ¬ ∃ m q, st.nxt<=m/\(st'.less n).mu m = some q/\ι' m = ι' n := fun ⟨m, q, _, h2, h3⟩ => by
  have h2 : (if m = n then none else st'.mu m) = some q := h2
  by_cases hm : m = n
  ·rw [if_pos hm] at h2; cases h2
  ·rw [if_neg hm] at h2; exact hm (sr1.inj m n q o h2 ho h3)
 have hG : G'' (ι' n) = none := by rw [g2 _ np]; exact a2
 have mor : MOR K ι' st.nxt G'' H' (ι' n) o' := by
  cases o with
  | lst ws =>
   obtain ⟨xs, q, t⟩ := a3
   have hf : (frzs (frz st.nxt (st'.less n).mu 12) ws).map MO.lst = some o' := hf
   cases e2 : frzs (frz st.nxt (st'.less n).mu 12) ws with
   | none => rw [e2] at hf; cases hf
   | some ys => rw [e2] at hf; cases hf; exact ⟨xs, q, Qbg (rel 12) t e2⟩
  | dct ks ws =>
   obtain ⟨xs, q, z, t⟩ := a3
   have hf : (frzs (frz st.nxt (st'.less n).mu 12) ws).map (MO.dct ks) = some o' := hf
   cases e2 : frzs (frz st.nxt (st'.less n).mu 12) ws with
   | none => rw [e2] at hf; cases hf
   | some ys => rw [e2] at hf; cases hf; exact ⟨xs, q, z, Qbg (rel 12) t e2⟩
 obtain ⟨ι'', ex2, sr3, ep⟩ := sr2.adopt hG (fun m q h z => by
  have l := (sr0.live m q h).1
  have h' : st'.mu m = some q := by rw [hs m l]; exact h
  have := sr1.inj m n q o h' ho z
  omega) mor
 exact ⟨ι'', G'', ex.trans ex2, sr3, ep⟩
noncomputable def Qjl (fz : Nat) (st st' : S) (w : W) : R W := match fz with
 | 0 => .ok w st'
 | 1 => keep st st' w
 | _ => Qjm st st' w
noncomputable def QhK (fz : Nat) (st : S) : R Fl->R W
 | .ok (.rt w) st' => Qjl fz st st' w
 | .ok (.nx _) st' => Qjl fz st st' .non
 | _ => .stuck
noncomputable def Qbd (n nl fz : Nat) (run : RunS) : OpN := fun ws st => if ws.length = n then QhK fz st (run (ws.map some ++ List.replicate (nl - n) none) st) else .stuck
theorem kept_ok {K : PySem.W.Frag} {ι ι1 : Nat->Addr} {st0 st1 : S} {G G1 H0 H1 : Hp} {fz : Nat} {w1 : W} {v : V} (sr : SR K ι st0 G H0) (x1 : Ext ι st0.nxt G ι1 st1.nxt G1) (sr1 : SR K ι1 st1 G1 H1) (r1 : RelW K ι1 st1.nxt G1 v w1)
  (ns : Qjl fz st0 st1 w1 ≠ .stuck) : ∃ w' st' ι' G', Qjl fz st0 st1 w1 = .ok w' st'/\Ext ι st0.nxt G ι' st'.nxt G'/\SR K ι' st' G' H1/\RelW K ι' st'.nxt G' v w' := by
 have one : keep st0 st1 w1 ≠ .stuck->∃ w' st' ι' G', keep st0 st1 w1 = .ok w' st'/\Ext ι st0.nxt G ι' st'.nxt G'/\SR K ι' st' G' H1/\RelW K ι' st'.nxt G' v w' := fun ns => by
  obtain ⟨hs, w', e, ek⟩ := keep_inv ns
  obtain ⟨G2, e2, sr2, rel, _⟩ := sr.kept x1 sr1 hs
  exact ⟨w', st0, ι1, G2, ek, e2, sr2, rel 12 v w1 w' r1 e⟩
 match fz with
 | 0 => exact ⟨w1, st1, ι1, G1, rfl, x1, sr1, r1⟩
 | 1 => exact one ns
 | k + 2 =>
  have nl : Qjm st0 st1 w1 ≠ .stuck := ns
  clear ns
  show ∃ w' st' ι' G', Qjm st0 st1 w1 = .ok w' st'/\_
  unfold Qjm at nl ⊢
  split at nl
  ·rename_i n
   by_cases hn : n < st0.nxt
   ·rw [if_pos hn] at nl ⊢; exact one nl
   ·rw [if_neg hn] at nl ⊢
    by_cases hs : ∀ m, m < st0.nxt->st1.mu m = st0.mu m
    ·rw [if_pos hs] at nl ⊢
     cases ho : st1.mu n with
     | none => rw [ho] at nl; exact absurd rfl nl
     | some o =>
      rw [ho] at nl
      have ns : (match QhP st0.nxt (st1.less n).mu o with
       | some o' => R.ok (W.ref st0.nxt) (st0.new o')
       | none => .stuck) ≠ .stuck := nl
      cases hf : QhP st0.nxt (st1.less n).mu o with
      | none => rw [hf] at ns; exact absurd rfl ns
      | some o' =>
       obtain ⟨ι2, G2, e2, sr2, ep⟩ := sr.keptL x1 sr1 hs (Nat.le_of_not_lt hn) ho hf
       refine ⟨.ref st0.nxt, st0.new o', ι2, G2, ?_, e2, sr2, ?_⟩
       ·show (match QhP st0.nxt (st1.less n).mu o with
         | some o' => R.ok (W.ref st0.nxt) (st0.new o')
         | none => .stuck) = _
        rw [hf]
       ·cases r1
        rw [<-ep]
        exact .ref (Nat.lt_succ_self _)
    ·rw [if_neg hs] at nl; exact absurd rfl nl
  ·exact one nl
theorem Qje {K : PySem.W.Frag} {ι ι1 : Nat->Addr} {st0 st1 : S} {G G1 H0 H1 : Hp} {fz : Nat} {w1 : W} {v : V} {Q : VK} (sr : SR K ι st0 G H0) (x1 : Ext ι st0.nxt G ι1 st1.nxt G1) (sr1 : SR K ι1 st1 G1 H1) (r1 : RelW K ι1 st1.nxt G1 v w1)
  (q : wp0 K ι st0.nxt G (Qjl fz st0 st1 w1) Q) : Q v H1 := by
 obtain ⟨w', st', ι', G', e, ex, sr', r'⟩ := kept_ok (fz := fz) sr x1 sr1 r1 (fun z => by rw [z] at q; exact q)
 rw [e] at q
 exact q v ι' G' H1 ex sr' r'
theorem Qie {K : PySem.W.Frag} {ι : Nat->Addr} {N : Nat} {G : Hp} {vs : List V} {ws : List W} {Ns : List Str} (t : RelWs K ι N G vs ws) : EnvR K ι N G (L2.start Ns vs) (ws.map some ++ List.replicate (Ns.length - ws.length) none) := by
 unfold L2.start
 rw [t.length]
 refine ⟨by simp [t.length], fun i w h => ?_⟩
 by_cases hi : i < ws.length
 ·rw [List.getElem?_append_left (by simpa using hi), QkG] at h
  cases e : ws[i]? with
  | none => rw [e] at h; cases h
  | some u =>
   rw [e] at h
   cases h
   obtain ⟨v, h1, h2⟩ := t.get e
   refine ⟨v, ?_, h2⟩
   rw [List.getElem?_append_left (by rw [Qkz, t.length]; exact hi), QkG, h1]; rfl
 ·rw [List.getElem?_append_right (by simpa using hi), List.getElem?_replicate] at h
  split at h <;> cases h
theorem fn_body {P : Program} {w : World} {K : PySem.W.Frag} {mg : Str->Option Value} {base : Heap} {x qual : Str} {st : Stmt} {f : Addr} {fd : FuncData} {N ps : List Str} {k fz : Nat} {run : RunS} (F : Fun K x qual st f fd) (Sc : FnScope N ps (Qag st))
  (hb : ∀ (cdv : Value) (A : Around) (outer : List Env) (s : Shared) (H : Hp) (E : XK), Room k (A.deeper (envOfC qual (Qag st) s.heap.objs.size f cdv))->PDSs (cxOf CX0 P w K mg base N qual (Qag st) f cdv A outer s H E).nox (Qay st) run) :
  FnOk P w K mg base CX0 (k + 1) f fd ps (SpD K ps.length (Qbd ps.length N.length fz run)) := by
 refine Fun.ok F Sc (fun vs H Q E h => h.1) fun cdv A outer s H vs Q E hr hsp => ⟨_, hb cdv A outer s H E hr, ?_⟩
 obtain ⟨hl, ι, G, st0, ws, sr, t, q⟩ := hsp
 have hlw : ws.length = ps.length := by rw [<-t.length]; exact hl
 refine ⟨ι, G, st0, ws.map some ++ List.replicate (N.length - ws.length) none, Qie t, sr, ?_⟩
 unfold Qbd at q
 rw [if_pos hlw, <-hlw] at q
 cases e : run (ws.map some ++ List.replicate (N.length - ws.length) none) st0 with
 | stuck => rw [e] at q; exact q
 | ex c s => rw [e] at q; exact (show False from q).elim
 | ok fl st1 =>
  rw [e] at q
  intro ι1 G1 H1 x1 sr1
  cases fl with
  | nx Γ1 => exact fun σ1 en1 => Qje (fz := fz) (w1 := .non) sr x1 sr1 .non q
  | rt w1 => exact fun v r1 => Qje (fz := fz) sr x1 sr1 r1 q
  | bk Γ1 => exact (show False from q).elim
  | ct Γ1 => exact (show False from q).elim
end
end DL
namespace L2
open PySem PySem.Spec PyProof.Rows
section
variable {X : Cx}
variable {k : Nat} {f : Addr} {fd : FuncData} {pn : Str} {sp : Sp}
end
end L2
namespace DL
open PySem PySem.Spec PyProof.Rows L2
section
variable {X : Cx}
def rDict0 : Run := fun _ st => .ok (.dct [] []) st
theorem pd_dict0 {pos : Pos} : PD X (.Dict [] [] pos) rDict0 := by
 refine PE.imp QgK fun σ H Q h => ?_
 obtain ⟨ι, G, st, Γ, en, sr, q⟩ := h
 intro p hp
 obtain ⟨sr2, e2⟩ := sr.laid (o := dKo []) hp
 exact q _ ι _ _ e2 sr2 (.dct (xs := []) Qar rfl .nil)
def lexK (eq lt : W->W->Option Bool) : List W->List W->Option Bool
 | [], [] => some false
 | [], _ :: _ => some true
 | _ :: _, [] => some false
 | x :: xs, y :: ys => match eq x y with
  | some true => lexK eq lt xs ys
  | some false => lt x y
  | none => none
section
variable {K : PySem.W.Frag} {ι : Nat->Addr} {N : Nat} {G : Hp}
end
def QfT : Expr->Bool
 | .Starred _ _ => false
 | _ => true
end
end DL
namespace DL
open PySem PySem.Spec PyProof.Rows L2
def wpX (K : PySem.W.Frag) (ι : Nat->Addr) (N : Nat) (G : Hp) (r : R W) (Q : VK) (E : XK) : Prop := match r with
 | .ok w st' => ∀ v ι' G' H', Ext ι N G ι' st'.nxt G'->SR K ι' st' G' H'->RelW K ι' st'.nxt G' v w->Q v H'
 | .ex c st' => ∀ ι' G' H' cls, Ext ι N G ι' st'.nxt G'->SR K ι' st' G' H'->ClsR K c cls->E cls none H'
 | .stuck => False
def SpX (K : PySem.W.Frag) (n : Nat) (op : OpN) : Sp := fun vs H Q E => vs.length = n/\∃ ι G st ws, SR K ι st G H/\RelWs K ι st.nxt G vs ws/\wpX K ι st.nxt G (op ws st) Q E
section
variable {X : Cx}
end
end DL
namespace DL
open PySem PySem.Spec PyProof.Rows L2
section
variable {X : Cx}
end
end DL
namespace DL
open PySem PySem.Spec PyProof.Rows L2
section
variable {X : Cx}
def Qeo : Expr->Bool
 | .Call _ [] [] _ => false
 | _ => true
theorem QdW {o : Expr} {m : Str} {env : Env} {w : Sem Value} (h : Qeo o = true) : attributeBase o m env w = w := by
 unfold attributeBase
 split
 ·exact absurd (show false = true from h) Qkr
 ·rfl
theorem tyV_kind {ι : Nat->Addr} {G H : Hp} {st : S} {v : V} {w : W} {T : String} (sr : SR X.K ι st G H) (r : RelW X.K ι st.nxt G v w) (k : Qch st w = some T) (hT : T = "str"\/T = "list"\/T = "dict") : tyV X.K T v H := by
 cases r with
 | non => cases k; exact absurd hT (by decide)
 | bl b => cases k; exact absurd hT (by decide)
 | int i => cases k; exact absurd hT (by decide)
 | str x => cases k; exact rfl
 | ty n => cases k
 | tup s c t => cases k; exact absurd hT (by decide)
 | lst s t => cases k; exact .inl ⟨rfl, _, sr.sub.seq s⟩
 | dct s l t => cases k; exact .inr (.inr (.inl ⟨rfl, .inr ⟨_, sr.sub _ _ s⟩⟩))
 | exn s n => cases k
 | @ref n hn =>
  have k : MO.kind (st.mu n) = some T := k
  cases e : st.mu n with
  | none => rw [e] at k; cases k
  | some o =>
   rw [e] at k
   obtain ⟨_, _, h3⟩ := sr.live n o e
   cases o with
   | lst zs => cases k; obtain ⟨vs, qv, _⟩ := h3; exact .inl ⟨rfl, vs, SqL.of qv⟩
   | dct ks zs => cases k; obtain ⟨xs, qv, _, _⟩ := h3; exact .inr (.inr (.inl ⟨rfl, .inr ⟨_, qv⟩⟩))
abbrev OpM := W->List W->S->R W
def rMt (X : Cx) (op : OpM) : V->List V->Hp->VK->Prop := fun x xs H Q => ∃ ι G st w ws, SR X.K ι st G H/\RelW X.K ι st.nxt G x w/\RelWs X.K ι st.nxt G xs ws/\wpW X ι st.nxt G (op w ws st) Q
def runM (T : String) (ro : Run) (rr : Runs) (op : OpM) : Run := fun Γ st => (ro Γ st).bind fun w st1 => if Qch st1 w = some T then (rr Γ st1).bind fun ws st2 => op w ws st2 else .stuck
theorem Qis {T : String} {ro : Run} {rr : Runs} {op : OpM} {σ : St} {H : Hp} {Q : VK} (hT : T = "str"\/T = "list"\/T = "dict") (h : tD X (runM T ro rr op) σ H Q) :
  tD X ro σ H fun x H1 => tyV X.K T x H1/\tDA X rr σ H1 fun xs H2 => rMt X op x xs H2 Q := by
 obtain ⟨ι, G, st, Γ, en, sr, q⟩ := h
 refine ⟨ι, G, st, Γ, en, sr, wpW.bind q fun w st1 v ι1 G1 H1 _ e1 sr1 r1 q1 => ?_⟩
 by_cases hk : Qch st1 w = some T
 ·rw [if_pos hk] at q1
  refine ⟨tyV_kind sr1 r1 hk hT, ι1, G1, st1, Γ, en.mono e1, sr1, ?_⟩
  cases e2 : rr Γ st1 with
  | stuck => rw [e2] at q1; exact q1
  | ex c s => rw [e2] at q1; exact q1
  | ok ws st2 =>
   rw [e2] at q1
   intro vs ι2 G2 H2 x2 sr2 r2
   exact ⟨ι2, G2, st2, w, ws, sr2, r1.mono x2, r2, wpW.later x2 (show wpW X ι1 st1.nxt G1 (op w ws st2) Q from q1)⟩
 ·rw [if_neg hk] at q1; exact q1.elim
theorem pd_mt {o e : Expr} {es : List Expr} {m : Str} {apos cpos : Pos} {T id : String} {ro : Run} {rr : Runs} {op : OpM} (hT : T = "str"\/T = "list"\/T = "dict") (pa : PlainAttrs T) (slot : Slot T m id) (hty : typeOf (.builtin id) = pure (.type "method_descriptor")) (hm : MtR X id (rMt X op)) (ho : PD X o ro) (ha : PDA X (e :: es) rr) (hb : Qeo o = true)
  (hfew : ((backTo cpos (starEach (e :: es) X.env)).all (fun x => !x.1) && (backToKw cpos (keywordEach [] X.env)).all (fun x => x.1.isSome)
   && decide ((e :: es).length + ([] : List Keyword).length + (if ([] : List Keyword).isEmpty then 0 else 1) < 30)) = true)
  (hline : (apos.endLine == cpos.line) = true) (hs : starEach (e :: es) X.env = (false, eval e X.env) :: starEach es X.env) (hplain : (backTo cpos (starEach es X.env)).any (·.1) = false) :
  PD X (.Call (.Attribute o m apos) (e :: es) [] cpos) (runM T ro rr op) :=
 PE.imp (pe_bm pa slot hty hm ho ha (QdW hb) hfew hline hs hplain) fun _ _ _ h => Qis hT h
theorem pd_mt0 {o : Expr} {m : Str} {apos cpos : Pos} {T id : String} {ro : Run} {op : OpM} (hT : T = "str"\/T = "list"\/T = "dict") (pa : PlainAttrs T) (slot : Slot T m id) (hty : typeOf (.builtin id) = pure (.type "method_descriptor")) (hm : MtR X id (rMt X op)) (ho : PD X o ro) (hb : Qeo o = true) (hline : (apos.endLine == cpos.line) = true) :
  PD X (.Call (.Attribute o m apos) [] [] cpos) (runM T ro Qac op) := by
 refine PE.imp (pe_bm0 pa slot hty hm ho (QdW hb) hline) fun σ H Q h => ?_
 obtain ⟨ι, G, st, Γ, en, sr, q⟩ := Qis hT h
 refine ⟨ι, G, st, Γ, en, sr, wpW.mono q fun v H1 ⟨h1, ι1, G1, st1, Γ1, _, sr1, q1⟩ => ⟨h1, ?_⟩⟩
 exact q1 [] ι1 G1 H1 (Ext.refl _ _ _) sr1 .nil
def Qat : OpM := fun w ws st => match w, ws with
 | .ref n, [y] => (match st.mu n with
  | some (.lst xs) => if xs.length < sizeLine then .ok .non (st.put n (.lst (xs ++ [y]))) else .stuck
  | _ => .stuck)
 | _, _ => .stuck
theorem QiU : MtR X "list.append" (rMt X Qat) := by
 intro pins s σ H x xs v us Q I rx rv ⟨ι, G, st, w, ws, sr, r, t, q⟩
 unfold Qat at q
 split at q
 ·rename_i n y
  cases t with
  | @cons x1 _ xs1 _ r1 t1 =>
   cases t1
   cases r with
   | ref hn =>
    have q : wpW X ι st.nxt G (match st.mu n with
     | some (.lst xs) => if xs.length < sizeLine then .ok .non (st.put n (.lst (xs ++ [y]))) else .stuck
     | _ => .stuck) Q := q
    cases e : st.mu n with
    | none => rw [e] at q; exact (show False from q).elim
    | some o =>
     cases o with
     | dct ks zs => rw [e] at q; exact (show False from q).elim
     | lst zs =>
      rw [e] at q
      have q : wpW X ι st.nxt G (if zs.length < sizeLine then .ok .non (st.put n (.lst (zs ++ [y]))) else .stuck) Q := q
      by_cases hl : zs.length < sizeLine
      ·rw [if_pos hl] at q
       obtain ⟨_, _, xs2, hH, t2⟩ := sr.live n _ e
       refine QiV pins s σ H _ _ v us Q I rx rv ⟨ι n, xs2, x1, rfl, rfl, hH, by rw [t2.length]; exact hl, ?_⟩
       exact q .non ι G _ (Ext.refl _ _ _) (sr.putL e (t2.append (.cons r1 .nil))) .non
      ·rw [if_neg hl] at q; exact q.elim
 ·exact (show False from q).elim
def QcH : List W->Option (List Str)
 | [] => some []
 | .str x :: ws => (QcH ws).map (x :: ·)
 | _ => none
theorem Qda {K : PySem.W.Frag} {ι : Nat->Addr} {N : Nat} {G : Hp} : ∀ {xs : List V} {ws : List W} {us : List Value} {ys : List Str}, RelWs K ι N G xs ws->Vals xs us->QcH ws = some ys->StrsAre us ys
 | _, _, _, _, .nil, .nil, h => by cases h; exact .nil
 | _, _, _, _, .cons r t, .cons rv tv, h => by
  rename_i x w xs ws u us
  cases w with
  | str z =>
   have h : (QcH ws).map (z :: ·) = some _ := h
   cases e : QcH ws with
   | none => rw [e] at h; cases h
   | some zs =>
    rw [e] at h
    cases h
    cases r
    have ih := Qda t tv e
    obtain ⟨tk, e2⟩ := (show ∃ t, u = Value.str z t from rv)
    cases e2
    exact .cons z tk ih
  | _ => cases h
def QcD : OpM := fun w ws st => match w, ws with
 | .str x, [l] => (match Qau st l with
  | some zs => (match QcH zs with
   | some ys => if x.length<=16/\(ys.map (·.length)).sum + ys.length<=1048576 then .ok (.str (PySem.Txt.join x ys)) st else .stuck
   | none => .stuck)
  | none => .stuck)
 | _, _ => .stuck
theorem mw_join : MtR X "str.join" (rMt X QcD) := by
 intro pins s σ H x xs v us Q I rx rv ⟨ι, G, st, w, ws, sr, r, t, q⟩
 unfold QcD at q
 split at q
 ·rename_i z l
  cases t with
  | @cons x1 _ xs1 _ r1 t1 =>
   cases t1
   cases r
   obtain ⟨tk, ev⟩ := (show ∃ t, v = Value.str z t from rx)
   subst ev
   obtain ⟨u1, eu, ru⟩ := rv.one
   subst eu
   have q : wpW X ι st.nxt G (match Qau st l with
    | some zs => (match QcH zs with
     | some ys => if z.length<=16/\(ys.map (·.length)).sum + ys.length<=1048576 then .ok (.str (PySem.Txt.join z ys)) st else .stuck
     | none => .stuck)
    | none => .stuck) Q := q
   cases e1 : Qau st l with
   | none => rw [e1] at q; exact (show False from q).elim
   | some zs =>
    rw [e1] at q
    have q : wpW X ι st.nxt G (match QcH zs with
     | some ys => if z.length<=16/\(ys.map (·.length)).sum + ys.length<=1048576 then .ok (.str (PySem.Txt.join z ys)) st else .stuck
     | none => .stuck) Q := q
    cases e2 : QcH zs with
    | none => rw [e2] at q; exact (show False from q).elim
    | some ys =>
     rw [e2] at q
     have q : wpW X ι st.nxt G (if z.length<=16/\(ys.map (·.length)).sum + ys.length<=1048576 then .ok (.str (PySem.Txt.join z ys)) st else .stuck) Q := q
     by_cases hl : z.length<=16/\(ys.map (·.length)).sum + ys.length<=1048576
     ·rw [if_pos hl] at q
      have fin : ∀ t' k, EP X pins σ Q (.str (PySem.Txt.join z ys) t') { s with toks := k } := fun t' k => ⟨.str _, H, I.tok _, ⟨t', rfl⟩, q _ ι G H (Ext.refl _ _ _) sr (.str _)⟩
      have lst : ∀ {a : Addr} {vs : List V}, x1 = .ref a->SqL X.K H a vs->RelWs X.K ι st.nxt G vs zs->wpAny (model X.prog X.w) X.A (call (.builtin "str.join") [.str z tk, u1]) (EP X pins σ Q) X.xe s := by
       intro a vs ex hq tt
       subst ex
       cases (show u1 = Value.ref a from ru)
       obtain ⟨its, tv, pl, _⟩ := I.list hq
       exact join_listW pl.isList (by simpa using Qda tt tv e2) hl.1 hl.2 fin
      cases r1 with
      | lst sq tt => cases e1; exact lst rfl (sr.sub.seq sq) tt
      | tup sq cq tt =>
       cases e1
       cases (show u1 = Value.ref _ from ru)
       obtain ⟨its, tv, pl, _⟩ := I.tuple (sqT_same sr.sub sq)
       exact join_tupleW pl (by simpa using Qda tt tv e2) hl.1 hl.2 fin
      | @ref n hn =>
       obtain ⟨vs, hq, tt⟩ := QaR sr e1
       exact lst rfl hq tt
      | _ => cases e1
     ·rw [if_neg hl] at q; exact q.elim
 ·exact (show False from q).elim
structure Mth (X : Cx) (m : Str) (T id : String) (op : OpM) : Prop where
 hT : T = "str"\/T = "list"\/T = "dict"
 pa : PlainAttrs T
 slot : Slot T m id
 hty : typeOf (.builtin id) = pure (.type "method_descriptor")
 hm : MtR X id (rMt X op)
theorem mth_join : Mth X "join" "str" "str.join" QcD := ⟨.inl rfl, F.plainAttrs_str, F.slot_str_join, F.type_str_join, mw_join⟩
theorem QhH : Mth X "append" "list" "list.append" Qat := ⟨.inr (.inl rfl), F.plainAttrs_list, F.slot_list_append, F.type_list_append, QiU⟩
end
end DL
namespace DL
open PySem PySem.Spec PyProof.Rows L2
section
variable {X : Cx}
def QeY (st : S) : W->Option (List W)
 | .lst xs => some xs
 | .ref n => MO.items (st.mu n)
 | _ => none
theorem QhJ {ι : Nat->Addr} {G H : Hp} {st : S} {v : V} {w : W} {zs : List W} (sr : SR X.K ι st G H) (r : RelW X.K ι st.nxt G v w) (h : QeY st w = some zs) : ∃ a xs, v = .ref a/\SqL X.K H a xs/\RelWs X.K ι st.nxt G xs zs := by
 cases r with
 | lst s t => cases h; exact ⟨_, _, rfl, sr.sub.seq s, t⟩
 | ref hn => obtain ⟨xs, h1, h2⟩ := QaR sr h; exact ⟨_, xs, rfl, h1, h2⟩
 | _ => cases h
end
end DL
namespace DL
open PySem PySem.Spec PyProof.Rows L2
section
variable {X : Cx}
end
end DL
namespace DL
open PySem PySem.Spec PyProof.Rows L2
section
variable {X : Cx}
end
end DL
namespace DL
open PySem PySem.Spec PyProof.Rows L2
section
variable {X : Cx}
def keyW0 : W->Option Key
 | .int i => some (.inl i)
 | .str x => some (.inr x)
 | _ => none
def Qga : List W->Option (List Key)
 | [] => some []
 | w :: ws => (match keyW0 w, Qga ws with | some k, some ks => some (k :: ks) | _, _ => none)
def keyW : W->Option DKey
 | .tup ws => Qga ws
 | _ => none
def KIs (H : Hp) (v : V) (k : DKey) : Prop := ∃ b, v = .ref b/\H b = some (.tup (k.map kV))
theorem KIs.mono {H H' : Hp} {v : V} {k : DKey} (h : KIs H v k) (s : Same H H') : KIs H' v k := let ⟨b, e, q⟩ := h; ⟨b, e, s _ _ q⟩
theorem KIs.get {H : Hp} {a : Addr} {kvs : List (DKey × V)} {v : V} {k : DKey} (e : H a = some (dKo kvs)) (h : KIs H v k) : DGet H a v (valV kvs k) := by obtain ⟨b, rfl, q⟩ := h; exact DGet.t e q
theorem KIs.put {H : Hp} {a : Addr} {kvs : List (DKey × V)} {v y : V} {k : DKey} (e : H a = some (dKo kvs)) (hl : kvs.length < sizeLine) (h : KIs H v k) : DPut H a v y (upd H a (dKo (putK kvs k y))) := by obtain ⟨b, rfl, q⟩ := h; exact DPut.t e q hl
def valW : List DKey->List W->DKey->Option W
 | k :: ks, w :: ws, j => if k = j then some w else valW ks ws j
 | _, _, _ => none
def QbW (st : S) : W->Option (List DKey × List W)
 | .dct ks ws => some (ks, ws)
 | .ref n => (match st.mu n with
  | some (.dct ks ws) => some (ks, ws)
  | _ => none)
 | _ => none
theorem QgU {K : PySem.W.Frag} {ι : Nat->Addr} {N : Nat} {G : Hp} : ∀ {vs : List V} {ws : List W} {ks : List Key}, RelWs K ι N G vs ws->Qga ws = some ks->vs = ks.map kV
 | _, _, _, .nil, h => by cases h; rfl
 | _, _, _, @RelWs.cons _ _ _ _ v w vs ws r t, h => by
  unfold Qga at h
  cases e1 : keyW0 w with
  | none => rw [e1] at h; cases h
  | some k =>
   cases e2 : Qga ws with
   | none => rw [e1, e2] at h; cases h
   | some r2 =>
    rw [e1, e2] at h
    cases h
    rw [List.map_cons, QgU t e2]
    congr 1
    cases r <;> first | (cases e1; rfl) | (cases e1; done)
theorem QbM {K : PySem.W.Frag} {ι : Nat->Addr} {N : Nat} {G : Hp} {v : V} {w : W} {k : DKey} (r : RelW K ι N G v w) (h : keyW w = some k) : KIs G v k := by
 cases r <;> first | (cases h; done) | skip
 rename_i a xs ws s c t
 exact ⟨a, rfl, by rw [<-QgU t h]; exact c rfl⟩
theorem valW_rel {K : PySem.W.Frag} {ι : Nat->Addr} {N : Nat} {G : Hp} {k : DKey} : ∀ {ks : List DKey} {xs : List V} {ws : List W}, RelWs K ι N G xs ws->xs.length = ks.length ->
  (valV (ks.zip xs) k = none/\valW ks ws k = none)\/∃ v w, valV (ks.zip xs) k = some v/\valW ks ws k = some w/\RelW K ι N G v w
 | [], _, _, _, _ => .inl ⟨rfl, by unfold valW; rfl⟩
 | j :: ks, [], _, _, h => by cases h
 | j :: ks, x :: xs, _, .cons r t, h => by
  by_cases e : j = k
  ·refine .inr ⟨x, _, ?_, ?_, r⟩
   ·exact QcN (p := (j, x)) e
   ·unfold valW; rw [if_pos e]
  ·have e1 : valV ((j :: ks).zip (x :: xs)) k = valV (ks.zip xs) k := QcO (p := (j, x)) e
   rcases valW_rel (k := k) t (by simpa using h) with ⟨h1, h2⟩ | ⟨v, w, h1, h2, h3⟩
   ·exact .inl ⟨e1.trans h1, by unfold valW; rw [if_neg e]; exact h2⟩
   ·exact .inr ⟨v, w, e1.trans h1, by unfold valW; rw [if_neg e]; exact h2, h3⟩
theorem QbF {ι : Nat->Addr} {G H : Hp} {st : S} {v : V} {w : W} {ks : List DKey} {ws : List W} (sr : SR X.K ι st G H) (r : RelW X.K ι st.nxt G v w) (h : QbW st w = some (ks, ws)) : ∃ a xs, v = .ref a/\H a = some (dKo (ks.zip xs))/\xs.length = ks.length/\RelWs X.K ι st.nxt G xs ws := by
 cases r with
 | @dct a xs _ _ s l t => cases h; exact ⟨a, xs, rfl, sr.sub _ _ s, l, t⟩
 | @ref n hn =>
  have h : (match st.mu n with
   | some (.dct ks ws) => some (ks, ws)
   | _ => none) = some (ks, ws) := h
  cases e : st.mu n with
  | none => rw [e] at h; cases h
  | some o =>
   rw [e] at h
   cases o with
   | lst zs => cases h
   | dct ks' zs =>
    cases h
    obtain ⟨_, _, xs, h1, h2, h3⟩ := sr.live n _ e
    exact ⟨ι n, xs, rfl, h1, h2, h3⟩
 | _ => cases h
def Qfg (st : S) (a b : W) : Option Bool := match keyW a, QbW st b with
 | some k, some (ks, ws) => some (valW ks ws k).isSome
 | _, _ => none
theorem Qff {ι : Nat->Addr} {G H : Hp} {st : S} {x y : V} {w1 w2 : W} {b : Bool} (sr : SR X.K ι st G H) (r1 : RelW X.K ι st.nxt G x w1) (r2 : RelW X.K ι st.nxt G y w2) (h : Qfg st w1 w2 = some b) : ∃ a o, y = .ref a/\DGet H a x o/\o.isSome = b := by
 unfold Qfg at h
 cases e1 : keyW w1 with
 | none => rw [e1] at h; cases h
 | some k =>
  cases e2 : QbW st w2 with
  | none => rw [e1, e2] at h; cases h
  | some p =>
   obtain ⟨ks, ws⟩ := p
   rw [e1, e2] at h
   cases h
   obtain ⟨a, xs, rfl, hH, hl, t⟩ := QbF sr r2 e2
   refine ⟨a, _, rfl, ((QbM r1 e1).mono sr.sub).get hH, ?_⟩
   rcases valW_rel (k := k) t hl with ⟨h1, h2⟩ | ⟨v, w, h1, h2, _⟩
   ·rw [h1, h2]; rfl
   ·rw [h1, h2]; rfl
def opIn : Op2 := fun a b st => match Qfg st a b with
 | some c => .ok (.bl c) st
 | none => opIn0 a b st
def QfR : Op2 := fun a b st => match Qfg st a b with
 | some c => .ok (.bl (!c)) st
 | none => QgM a b st
theorem opw_in (hu : X.A.units + 64 < cLine) : OpW X (compareOp .In) opIn := by
 intro pins s σ H ι G st x y w1 w2 v u Q I sr rx ry r1 r2 q
 unfold opIn at q
 cases e : Qfg st w1 w2 with
 | none => rw [e] at q; exact opw_in0 hu pins s σ H ι G st x y w1 w2 v u Q I sr rx ry r1 r2 q
 | some c =>
  rw [e] at q
  obtain ⟨a, o, rfl, g, ho⟩ := Qff sr r1 r2 e
  cases (show u = Value.ref a from ry)
  refine d_in (by omega) I g rx fun s' I' => ?_
  rw [ho]
  exact ⟨.bl c, H, I', rfl, q (.bl c) ι G H (Ext.refl _ _ _) sr (.bl c)⟩
theorem QiM (hu : X.A.units + 64 < cLine) : OpW X (compareOp .NotIn) QfR := by
 intro pins s σ H ι G st x y w1 w2 v u Q I sr rx ry r1 r2 q
 unfold QfR at q
 cases e : Qfg st w1 w2 with
 | none => rw [e] at q; exact QhF hu pins s σ H ι G st x y w1 w2 v u Q I sr rx ry r1 r2 q
 | some c =>
  rw [e] at q
  obtain ⟨a, o, rfl, g, ho⟩ := Qff sr r1 r2 e
  cases (show u = Value.ref a from ry)
  refine d_notIn (by omega) I g rx fun s' I' => ?_
  rw [ho]
  exact ⟨.bl (!c), H, I', rfl, q (.bl (!c)) ι G H (Ext.refl _ _ _) sr (.bl (!c))⟩
def Qae : Op2 := fun a b st => match QbW st a, keyW b with
 | some (ks, ws), some k => (match valW ks ws k with
  | some w => .ok w st
  | none => .stuck)
 | _, _ => Qdl a b st
theorem pd_ixX {a b : Expr} {pos : Pos} {ra rb : Run} (hu : X.A.units + 1 < cLine) (ha : PD X a ra) (hb : PD X b rb) (hs : NoSl b) (hix : PD X (.Subscript a b pos) (run2 ra rb Qdl)) : PD X (.Subscript a b pos) (run2 ra rb Qae) := by
 intro pins s σ H Q I h
 obtain ⟨ι, G, st, Γ, en, sr, q⟩ := h
 have ch : (∃ w1 st1 w2 st2 ks ws k, ra Γ st = .ok w1 st1/\rb Γ st1 = .ok w2 st2/\QbW st2 w1 = some (ks, ws)/\keyW w2 = some k)\/run2 ra rb Qae Γ st = run2 ra rb Qdl Γ st := by
  unfold run2
  cases e1 : ra Γ st with
  | stuck => exact .inr rfl
  | ex c s => exact .inr rfl
  | ok w1 st1 =>
   cases e2 : rb Γ st1 with
   | stuck => refine .inr ?_; show (rb Γ st1).bind _ = (rb Γ st1).bind _; rw [e2]; rfl
   | ex c s => refine .inr ?_; show (rb Γ st1).bind _ = (rb Γ st1).bind _; rw [e2]; rfl
   | ok w2 st2 =>
    cases e3 : QbW st2 w1 with
    | none =>
     refine .inr ?_
     show (rb Γ st1).bind _ = (rb Γ st1).bind _
     rw [e2]
     show Qae w1 w2 st2 = Qdl w1 w2 st2
     unfold Qae; rw [e3]
    | some p =>
     obtain ⟨ks, ws⟩ := p
     cases e4 : keyW w2 with
     | none =>
      refine .inr ?_
      show (rb Γ st1).bind _ = (rb Γ st1).bind _
      rw [e2]
      show Qae w1 w2 st2 = Qdl w1 w2 st2
      unfold Qae; rw [e3, e4]
     | some k => exact .inl ⟨w1, st1, w2, st2, ks, ws, k, rfl, e2, e3, e4⟩
 rcases ch with ⟨w1, st1, w2, st2, ks, ws, k, e1, e2, e3, e4⟩ | ch
 ·refine pe_dget hu ha hb hs pins s σ H Q I ⟨ι, G, st, Γ, en, sr, wpW.bind q fun w1' st1' v1 ι1 G1 H1 e1' x1 sr1 r1 q1 => ⟨ι1, G1, st1', Γ, en.mono x1, sr1, wpW.bind q1 fun w2' st2' v2 ι2 G2 H2 e2' x2 sr2 r2 q2 => ?_⟩⟩
  rw [e1] at e1'; cases e1'
  rw [e2] at e2'; cases e2'
  obtain ⟨a, xs, rfl, hH, hl, t⟩ := QbF sr2 (r1.mono x2) e3
  unfold Qae at q2
  rw [e3, e4] at q2
  have q3 : wpW X ι2 st2.nxt G2 (match valW ks ws k with
   | some w => .ok w st2
   | none => .stuck) Q := q2
  rcases valW_rel (k := k) t hl with ⟨h1, h2⟩ | ⟨v, w, h1, h2, h3⟩
  ·rw [h2] at q3; exact (show False from q3).elim
  ·rw [h2] at q3
   refine ⟨a, v, rfl, ?_, q3 v ι2 G2 H2 (Ext.refl _ _ _) sr2 h3⟩
   rw [<-h1]
   exact ((QbM r2 e4).mono sr2.sub).get hH
 ·exact hix pins s σ H Q I ⟨ι, G, st, Γ, en, sr, by rw [<-ch]; exact q⟩
end
end DL
namespace DL
open PySem PySem.Spec PyProof.Rows L2
def KDs (_ : Program) (_ : World) (K : PySem.W.Frag) (mg : Str->Option Value) (x : Str) (_ : List DKey) (ws : List W) : Prop :=
 ∃ a xs, mg x = some (.ref a)/\(∀ H, SqT K H a xs)/\∀ ι N G, RelWs K ι N G xs ws
theorem kds_txts {P : Program} {w : World} {K : PySem.W.Frag} {mg : Str->Option Value} {x : Str} {ks : List DKey} {a : Addr} {od : Option Addr} {its : List Value} {n : Nat} {sl : Array (Option Value)} {xs : List Str} (hm : mg x = some (.ref a)) (l : K.lookup a = some ⟨.type "tuple", od, .seq its.toArray n, sl⟩) (z : its.length<=sizeLine) (v : Vals (xs.map V.str) its) : KDs P w K mg x ks (xs.map W.str) := by
 refine ⟨a, xs.map V.str, hm, fun H => .inr ⟨_, its.toArray, n, l, rfl, rfl, by simpa using z, by simpa using v⟩, fun ι N G => ?_⟩
 clear v
 induction xs with
 | nil => exact .nil
 | cons y ys ih => exact .cons (.str y) ih
section
variable {X : Cx}
def QdF (ws : List W) : W->S->R W := fun w st => match inD w ws with
 | some r => .ok (.bl r) st
 | none => .stuck
def rInT (X : Cx) (a : Addr) (ws : List W) : R2 := fun x y H Q => y = .ref a/\∃ ι G st w r, SR X.K ι st G H/\RelW X.K ι st.nxt G x w/\inD w ws = some r/\Q (.bl r) H
theorem op_inT {a : Addr} {xs : List V} {ws : List W} (hu : X.A.units + 64 < cLine) (hq : ∀ H, SqT X.K H a xs) (t : ∀ ι N G, RelWs X.K ι N G xs ws) : OpR X (compareOp .In) (rInT X a ws) := by
 intro pins s σ H x y v u Q I rx ry ⟨ey, ι, G, st, w, r, sr, r1, hd, q⟩
 subst ey
 cases (show u = Value.ref a from ry)
 obtain ⟨its, rr, pl, hz⟩ := I.tuple (hq H)
 obtain ⟨f, h1, h2, _⟩ := QfX (A := X.A.in1) I (r1.mono sr.look) rx (by show X.A.units + 1 + 12 < cLine; omega) hd (t _ _ _) rr
 refine SeqAt.in_tupleAt f pl (fun w hw => h1 w (by simpa using hw)) ⟨.bl r, H, I, ?_, q⟩
 rw [show its.toArray.any f = its.any f by simp, h2]; rfl
theorem tD_inT {ra : Run} {ws : List W} {a : Addr} {σ : St} {H : Hp} {Q : VK} (h : tD X (run1 ra (QdF ws)) σ H Q) : tOp (rInT X a ws) (tD X ra) (tC (.ref a)) σ H Q := by
 obtain ⟨ι, G, st, Γ, en, sr, q⟩ := h
 refine ⟨ι, G, st, Γ, en, sr, wpW.bind q fun w st1 v ι1 G1 H1 _ e1 sr1 r1 q1 => ?_⟩
 refine ⟨rfl, ?_⟩
 unfold QdF at q1
 cases ek : inD w ws with
 | none => rw [ek] at q1; exact (show False from q1).elim
 | some r => rw [ek] at q1; exact ⟨ι1, G1, st1, w, r, sr1, r1, ek, q1 _ ι1 G1 H1 (Ext.refl _ _ _) sr1 (.bl _)⟩
theorem pd_inT {e : Expr} {x : Str} {p pos : Pos} {ra : Run} {ks : List DKey} {ws : List W} (hu : X.A.units + 64 < cLine) (D : KDs X.prog X.w X.K X.mg x ks ws) (hg : Gl X x) (hd : (x == ("__debug__" : Str)) = false) (ha : PD X e ra) : PD X (.Compare e [.In] [.Name x p] pos) (run1 ra (QdF ws)) := by
 obtain ⟨a, xs, hm, hq, ht⟩ := D
 exact PE.imp (QiG (op_inT hu hq ht) ha (QfO (v := .ref a) hg hm rfl hd) rfl) fun _ _ _ h => tD_inT h
theorem pdt_inT {e : Expr} {x : Str} {p pos : Pos} {ra : Run} {ks : List DKey} {ws : List W} (hu : X.A.units + 64 < cLine) (D : KDs X.prog X.w X.K X.mg x ks ws) (hg : Gl X x) (hd : (x == ("__debug__" : Str)) = false) (ha : PD X e ra) : PT X (.Compare e [.In] [.Name x p] pos) (tDT X (run1 ra (QdF ws))) := by
 obtain ⟨a, xs, hm, hq, ht⟩ := D
 exact PT.imp (Qiy (op_inT hu hq ht) ha (QfO (v := .ref a) hg hm rfl hd) rfl) fun _ _ _ h => tD_inT h
end
end DL
namespace DL
open PySem PySem.Spec PyProof.Rows L2
section
variable {K : PySem.W.Frag} {ι : Nat->Addr} {st : S} {G H : Hp}
theorem Qjc {n : Nat} {o : MO} (h : SR K ι st G H) (e : st.mu n = some o) : H (ι n) ≠ none := by
 intro z
 obtain ⟨_, _, h3⟩ := h.live n o e
 cases o with
 | lst ws => obtain ⟨xs, q, _⟩ := h3; rw [z] at q; cases q
 | dct ks ws => obtain ⟨xs, q, _⟩ := h3; rw [z] at q; cases q
theorem MOR.upd {N : Nat} {a p : Addr} {o : MO} {u : HO} (m : MOR K ι N G H a o) (hne : a ≠ p) : MOR K ι N G (upd H p u) a o := by
 cases o with
 | lst ws => obtain ⟨xs, q, r⟩ := m; exact ⟨xs, by rw [Qaj hne]; exact q, r⟩
 | dct ks ws => obtain ⟨xs, q, l, r⟩ := m; exact ⟨xs, by rw [Qaj hne]; exact q, l, r⟩
theorem SR.grow {p : Addr} {u : HO} (h : SR K ι st G H) (hp : H p = none) : SR K ι st G (upd H p u) := by
 have hG : G p = none := h.sub.free hp
 refine ⟨fun b v e => by rw [Qaj (Qal e hG)]; exact h.sub b v e, fun n o e => ?_, h.inj⟩
 obtain ⟨h1, h2, h3⟩ := h.live n o e
 exact ⟨h1, h2, h3.upd fun z => Qjc h e (by rw [z]; exact hp)⟩
theorem SR.newO {p : Addr} {u : HO} {o : MO} (h : SR K ι st G H) (hp : H p = none) (m : MOR K ι st.nxt G (upd H p u) p o) : ∃ ι', Ext ι st.nxt G ι' (st.nxt + 1) G/\SR K ι' (st.new o) G (upd H p u)/\ι' st.nxt = p :=
 (h.grow hp).adopt (h.sub.free hp) (fun m o e z => Qjc h e (by rw [z]; exact hp)) m
theorem SR.putO {n : Nat} {o o' : MO} {u : HO} (h : SR K ι st G H) (hn : st.mu n = some o) (m : MOR K ι st.nxt G (L2.upd H (ι n) u) (ι n) o') : SR K ι (st.put n o') G (L2.upd H (ι n) u) := by
 obtain ⟨h1, h2, _⟩ := h.live n o hn
 have old : ∀ a q, (st.put n o').mu a = some q->∃ q', st.mu a = some q' := fun a q e => by
  have e : (if a = n then some o' else st.mu a) = some q := e
  by_cases z : a = n
  ·exact ⟨o, by rw [z]; exact hn⟩
  ·rw [if_neg z] at e; exact ⟨q, e⟩
 refine ⟨fun b v e => by rw [Qaj (Qal e h2)]; exact h.sub b v e, fun a q e => ?_, fun a b q q' e e' z => ?_⟩
 ·have e' : (if a = n then some o' else st.mu a) = some q := e
  by_cases ha : a = n
  ·subst ha
   rw [if_pos rfl] at e'
   cases e'
   exact ⟨h1, h2, m⟩
  ·rw [if_neg ha] at e'
   obtain ⟨g1, g2, g3⟩ := h.live a q e'
   exact ⟨g1, g2, g3.upd fun z => ha (h.inj a n q o e' hn z)⟩
 ·obtain ⟨q1, l1⟩ := old a q e
  obtain ⟨q2, l2⟩ := old b q' e'
  exact h.inj a b q1 q2 l1 l2 z
end
def QcJ (k : DKey) (v : W) : List DKey->List W->List W
 | j :: ks, w :: ws => (if j = k then v else w) :: QcJ k v ks ws
 | _, _ => []
def hasK (k : DKey) (ks : List DKey) : Bool := ks.any fun j => decide (j = k)
def putW (ks : List DKey) (ws : List W) (k : DKey) (v : W) : List DKey × List W := if hasK k ks = true then (ks, QcJ k v ks ws) else (ks ++ [k], ws ++ [v])
def QfK (k : DKey) (v : V) : List DKey->List V->List V
 | j :: ks, w :: ws => (if j = k then v else w) :: QfK k v ks ws
 | _, _ => []
theorem QgH {K : PySem.W.Frag} {ι : Nat->Addr} {N : Nat} {G : Hp} {k : DKey} {v : V} {w : W} (r : RelW K ι N G v w) : ∀ {ks : List DKey} {xs : List V} {ws : List W}, RelWs K ι N G xs ws->xs.length = ks.length ->
  RelWs K ι N G (QfK k v ks xs) (QcJ k w ks ws)/\(QfK k v ks xs).length = ks.length/\(ks.zip xs).map (fun kv => if kv.1 = k then (kv.1, v) else kv) = ks.zip (QfK k v ks xs)
 | [], [], _, .nil, _ => ⟨.nil, rfl, rfl⟩
 | j :: ks, x :: xs, _, .cons r1 t, h => by
  obtain ⟨h1, h2, h3⟩ := QgH (k := k) r t (by simpa using h)
  refine ⟨?_, ?_, ?_⟩
  ·by_cases e : j = k
   ·show RelWs K ι N G ((if j = k then v else x) :: _) ((if j = k then w else _) :: _)
    rw [if_pos e, if_pos e]; exact .cons r h1
   ·show RelWs K ι N G ((if j = k then v else x) :: _) ((if j = k then w else _) :: _)
    rw [if_neg e, if_neg e]; exact .cons r1 h1
  ·show (QfK k v ks xs).length + 1 = ks.length + 1
   rw [h2]
  ·show (if j = k then (j, v) else (j, x)) :: (ks.zip xs).map (fun kv => if kv.1 = k then (kv.1, v) else kv) = (j, if j = k then v else x) :: ks.zip (QfK k v ks xs)
   rw [h3]
   by_cases e : j = k <;> simp [e]
 | [], _ :: _, _, _, h => by cases h
 | _ :: _, [], _, _, h => by cases h
theorem Qkl {k : DKey} : ∀ {ks : List DKey} {xs : List V}, xs.length = ks.length->((ks.zip xs).any fun kv => decide (kv.1 = k)) = hasK k ks
 | [], _, _ => by simp [hasK]
 | j :: ks, [], h => by cases h
 | j :: ks, x :: xs, h => by
  have ih := Qkl (k := k) (ks := ks) (xs := xs) (by simpa using h)
  rw [List.zip_cons_cons, List.any_cons, ih]
  unfold hasK
  rw [List.any_cons]
theorem put_rel {K : PySem.W.Frag} {ι : Nat->Addr} {N : Nat} {G : Hp} {k : DKey} {v : V} {w : W} {ks : List DKey} {xs : List V} {ws : List W} (r : RelW K ι N G v w) (t : RelWs K ι N G xs ws) (h : xs.length = ks.length) :
  ∃ xs', putK (ks.zip xs) k v = (putW ks ws k w).1.zip xs'/\xs'.length = (putW ks ws k w).1.length/\RelWs K ι N G xs' (putW ks ws k w).2 := by
 unfold putK putW
 rw [Qkl h]
 by_cases hk : hasK k ks = true
 ·rw [if_pos hk, if_pos hk]
  obtain ⟨h1, h2, h3⟩ := QgH (k := k) r t h
  exact ⟨QfK k v ks xs, h3, h2, h1⟩
 ·rw [if_neg hk, if_neg hk]
  refine ⟨xs ++ [v], ?_, by simp [h], t.append (.cons r .nil)⟩
  rw [List.zip_append h.symm]; rfl
section
variable {X : Cx}
def QgJ : Run := fun _ st => .ok (.ref st.nxt) (st.new (.dct [] []))
theorem QiS {ι : Nat->Addr} {G H : Hp} {st : S} {ks : List DKey} {xs : List V} {ws : List W} {p : Addr} {Q : VK} (sr : SR X.K ι st G H) (t : RelWs X.K ι st.nxt G xs ws) (hl : xs.length = ks.length) (hp : H p = none) (q : wpW X ι st.nxt G (.ok (.ref st.nxt) (st.new (.dct ks ws))) Q) : Q (.ref p) (upd H p (dKo (ks.zip xs))) := by
 obtain ⟨ι', e2, s2, ep⟩ := sr.newO (o := .dct ks ws) (u := dKo (ks.zip xs)) hp ⟨xs, Qar, hl, t⟩
 have q' := q (.ref p) ι' G (upd H p (dKo (ks.zip xs))) e2 s2
 rw [<-ep] at q' ⊢
 exact q' (.ref (Nat.lt_succ_self _))
theorem pd_dictN {pos : Pos} : PD X (.Dict [] [] pos) QgJ := by
 refine PE.imp QgK fun σ H Q h => ?_
 obtain ⟨ι, G, st, Γ, en, sr, q⟩ := h
 intro p hp
 exact QiS (ks := []) (xs := []) sr .nil rfl hp q
def Qen : OpM := fun w ws st => match QbW st w, ws with
 | some (ks, vs), [k] => (match keyW k with
  | some k => .ok ((valW ks vs k).getD .non) st
  | none => .stuck)
 | some (ks, vs), [k, d] => (match keyW k with
  | some k => .ok ((valW ks vs k).getD d) st
  | none => .stuck)
 | _, _ => .stuck
theorem mw_get (hu : X.A.units + 1 < cLine) : MtR X "dict.get" (rMt X Qen) := by
 intro pins s σ H x xs v us Q I rx rv ⟨ι, G, st, w, ws, sr, r, t, q⟩
 unfold Qen at q
 split at q
 ·rename_i ks vs k e
  obtain ⟨a, ys, rfl, hH, hl, t2⟩ := QbF sr r e
  cases (show v = Value.ref a from rx)
  obtain ⟨v1, rfl, r1⟩ := rel1 t
  obtain ⟨u1, rfl, ru⟩ := rv.one
  cases ek : keyW k with
  | none => rw [ek] at q; exact (show False from q).elim
  | some k' =>
   rw [ek] at q
   have q : wpW X ι st.nxt G (.ok ((valW ks vs k').getD .non) st) Q := q
   refine d_get1 hu I (((QbM r1 ek).mono sr.sub).get hH) ru fun w' s' I' rw' => ⟨_, H, I', rw', ?_⟩
   rcases valW_rel (k := k') t2 hl with ⟨h1, h2⟩ | ⟨v2, w2, h1, h2, h3⟩
   ·rw [h1]; rw [h2] at q; exact q _ ι G H (Ext.refl _ _ _) sr .non
   ·rw [h1]; rw [h2] at q; exact q _ ι G H (Ext.refl _ _ _) sr h3
 ·rename_i ks vs k d e
  obtain ⟨a, ys, rfl, hH, hl, t2⟩ := QbF sr r e
  cases (show v = Value.ref a from rx)
  obtain ⟨v1, v2, rfl, r1, r2⟩ := rel2 t
  cases rv with
  | cons ru rv =>
   cases rv with
   | cons ru2 rv =>
    cases rv
    cases ek : keyW k with
    | none => rw [ek] at q; exact (show False from q).elim
    | some k' =>
     rw [ek] at q
     have q : wpW X ι st.nxt G (.ok ((valW ks vs k').getD d) st) Q := q
     refine d_get2 hu I (((QbM r1 ek).mono sr.sub).get hH) ru ru2 fun w' s' I' rw' => ⟨_, H, I', rw', ?_⟩
     rcases valW_rel (k := k') t2 hl with ⟨h1, h2⟩ | ⟨v3, w3, h1, h2, h3⟩
     ·rw [h1]; rw [h2] at q; exact q _ ι G H (Ext.refl _ _ _) sr r2
     ·rw [h1]; rw [h2] at q; exact q _ ι G H (Ext.refl _ _ _) sr h3
 ·exact (show False from q).elim
theorem mth_get (hu : X.A.units + 1 < cLine) : Mth X "get" "dict" "dict.get" Qen := ⟨.inr (.inr rfl), F.plainAttrs_dict, F.slot_dict_get, F.type_dict_get, mw_get hu⟩
def eqDct (_ : S) (_ _ : W) : Option Bool := none
def eqW (st : S) (a b : W) : Option Bool := match eqDct st a b with
 | some c => some c
 | none => (match eqD 12 a b with
  | some c => some c
  | none => (match frz 0 st.mu 12 a, frz 0 st.mu 12 b with
   | some a', some b' => eqD 12 a' b'
   | _, _ => none))
def opEq : Op2 := fun a b st => match eqW st a b with
 | some r => .ok (.bl r) st
 | none => .stuck
def opNe : Op2 := fun a b st => match eqW st a b with
 | some r => .ok (.bl (!r)) st
 | none => .stuck
theorem seen {K : PySem.W.Frag} {ι : Nat->Addr} {st : S} {G H : Hp} {v : V} {w w' : W} (sr : SR K ι st G H) (r : RelW K ι st.nxt G v w) (h : frz 0 st.mu 12 w = some w') : RelW K ι 0 H v w' :=
 Qgh sr.sub (fun n o _ e => (sr.live n o e).2.2) 12 v w w' r h
theorem QjK {pins : List (Addr × Obj)} {σ : St} {H : Hp} {s : Shared} {ι : Nat->Addr} {G : Hp} {st : S} {x y : V} {w1 w2 : W} {v u : Value} {b : Bool} (I : Inv X pins σ H s) (hu : X.A.units + 64 < cLine) (sr : SR X.K ι st G H) (rx : RelV x v) (ry : RelV y u) (r1 : RelW X.K ι st.nxt G x w1) (r2 : RelW X.K ι st.nxt G y w2) (h : eqW st w1 w2 = some b) :
  (∀ (Q : Value->Shared->Prop) (E : Value->Shared->Prop), Q (.bool b) s->wpAny (model X.prog X.w) X.A (compareOp .Eq v u) Q E s)/\∀ (Q : Value->Shared->Prop) (E : Value->Shared->Prop), Q (.bool (!b)) s->wpAny (model X.prog X.w) X.A (compareOp .NotEq v u) Q E s := by
 unfold eqW at h
 cases e : eqDct st w1 w2 with
 | some c =>
  exact nomatch e
 | none =>
  rw [e] at h
  have h : (match eqD 12 w1 w2 with
   | some c => some c
   | none => (match frz 0 st.mu 12 w1, frz 0 st.mu 12 w2 with
    | some a', some b' => eqD 12 a' b'
    | _, _ => none)) = some b := h
  cases e2 : eqD 12 w1 w2 with
  | some c =>
   rw [e2] at h
   cases h
   have q := Qfl I 12 (A := X.A) e2 (r1.mono sr.look) (r2.mono sr.look) rx ry (by omega)
   exact ⟨fun Q E h => q.2.1 _ _ E Q h, fun Q E h => q.2.2 _ _ E Q h⟩
  | none =>
   rw [e2] at h
   have h : (match frz 0 st.mu 12 w1, frz 0 st.mu 12 w2 with
    | some a', some b' => eqD 12 a' b'
    | _, _ => none) = some b := h
   split at h
   ·rename_i a' b' ea eb
    have q := Qfl I 12 (A := X.A) h (seen sr r1 ea) (seen sr r2 eb) rx ry (by omega)
    exact ⟨fun Q E h => q.2.1 _ _ E Q h, fun Q E h => q.2.2 _ _ E Q h⟩
   ·cases h
theorem opw_eq (hu : X.A.units + 64 < cLine) : OpW X (compareOp .Eq) opEq := by
 intro pins s σ H ι G st x y w1 w2 v u Q I sr rx ry r1 r2 q
 unfold opEq at q
 cases e : eqW st w1 w2 with
 | none => rw [e] at q; exact (show False from q).elim
 | some b => rw [e] at q; exact (QjK I hu sr rx ry r1 r2 e).1 _ _ ⟨.bl b, H, I, rfl, q _ ι G H (Ext.refl _ _ _) sr (.bl _)⟩
theorem opw_ne (hu : X.A.units + 64 < cLine) : OpW X (compareOp .NotEq) opNe := by
 intro pins s σ H ι G st x y w1 w2 v u Q I sr rx ry r1 r2 q
 unfold opNe at q
 cases e : eqW st w1 w2 with
 | none => rw [e] at q; exact (show False from q).elim
 | some b => rw [e] at q; exact (QjK I hu sr rx ry r1 r2 e).2 _ _ ⟨.bl (!b), H, I, rfl, q _ ι G H (Ext.refl _ _ _) sr (.bl _)⟩
def QgD (n : Nat) (i v : W) (st : S) : Option MO->Option DKey->R Unit
 | some (.dct ks vs), some k => if ks.length < sizeLine then .ok () (st.put n (.dct (putW ks vs k v).1 (putW ks vs k v).2)) else .stuck
 | _, _ => QcS (.ref n) i v st
def Qbh : W->W->W->S->R Unit := fun o i v st => match o with
 | .ref n => QgD n i v st (st.mu n) (keyW i)
 | _ => .stuck
def Qcc (ro ri rv : Run) : RunS := fun Γ st => (rv Γ st).bind fun v st1 => (ro Γ st1).bind fun o st2 => (ri Γ st2).bind fun i st3 => (Qbh o i v st3).bind fun _ st4 => .ok (.nx Γ) st4
theorem setIx_or (o i v : W) (st : S) : (∃ n ks vs k, o = .ref n/\st.mu n = some (.dct ks vs)/\keyW i = some k)\/Qbh o i v st = QcS o i v st := by
 cases o with
 | ref n =>
  have e0 : Qbh (.ref n) i v st = QgD n i v st (st.mu n) (keyW i) := rfl
  cases em : st.mu n with
  | none => refine .inr ?_; rw [e0, em]; rfl
  | some q =>
   cases q with
   | lst xs => refine .inr ?_; rw [e0, em]; rfl
   | dct ks vs =>
    cases ek : keyW i with
    | none => refine .inr ?_; rw [e0, em, ek]; rfl
    | some k => exact .inl ⟨n, ks, vs, k, rfl, em, rfl⟩
 | _ => exact .inr rfl
theorem QiJ {o i e : Expr} {pos tpos : Pos} {ro ri rv : Run} (hu : X.A.units + 1 < cLine) (ho : PD X o ro) (hi : PD X i ri) (he : PD X e rv) (hg : ∀ {t : TSet}, PSet X t->PG X (.Subscript o i tpos) (gSub (tD X ro) (tD X ri) t)) (hs : swapsWithSole [.Subscript o i tpos] e pos.line X.env = pure false) (hw : swappedStores [.Subscript o i tpos] e X.env = pure none) (hs' : swapsWith e (some (.Subscript o i tpos)) pos.line X.env = pure false) :
  PDS X (.Assign [.Subscript o i tpos] e pos) (Qcc ro ri rv) := by
 intro pins s σ H D I h
 obtain ⟨ι, G, st, Γ, en, sr, q⟩ := h
 have ch : (∃ v st1 w st2 j st3 n ks vs k, rv Γ st = .ok v st1/\ro Γ st1 = .ok w st2/\ri Γ st2 = .ok j st3/\w = .ref n/\st3.mu n = some (.dct ks vs)/\keyW j = some k)\/Qcc ro ri rv Γ st = QfJ ro ri rv Γ st := by
  unfold Qcc QfJ
  cases e1 : rv Γ st with
  | stuck => exact .inr rfl
  | ex c s => exact .inr rfl
  | ok v st1 =>
   cases e2 : ro Γ st1 with
   | stuck => refine .inr ?_; show (ro Γ st1).bind _ = (ro Γ st1).bind _; rw [e2]; rfl
   | ex c s => refine .inr ?_; show (ro Γ st1).bind _ = (ro Γ st1).bind _; rw [e2]; rfl
   | ok w st2 =>
    cases e3 : ri Γ st2 with
    | stuck => refine .inr ?_; show (ro Γ st1).bind _ = (ro Γ st1).bind _; rw [e2]; show (ri Γ st2).bind _ = (ri Γ st2).bind _; rw [e3]; rfl
    | ex c s => refine .inr ?_; show (ro Γ st1).bind _ = (ro Γ st1).bind _; rw [e2]; show (ri Γ st2).bind _ = (ri Γ st2).bind _; rw [e3]; rfl
    | ok j st3 =>
     rcases setIx_or w j v st3 with ⟨n, ks, vs, k, h1, h2, h3⟩ | h
     ·exact .inl ⟨v, st1, w, st2, j, st3, n, ks, vs, k, rfl, e2, e3, h1, h2, h3⟩
     ·refine .inr ?_
      show (ro Γ st1).bind _ = (ro Γ st1).bind _
      rw [e2]
      show (ri Γ st2).bind _ = (ri Γ st2).bind _
      rw [e3]
      show (Qbh w j v st3).bind _ = (QcS w j v st3).bind _
      rw [h]
 rcases ch with ⟨v, st1, w, st2, j, st3, n, ks, vs, k, e1, e2, e3, rfl, em, ek⟩ | ch
 ·have q' : wpF X ι st.nxt G ((Qbh (.ref n) j v st3).bind fun _ st4 => .ok (.nx Γ) st4) D := by
   have q := q
   unfold Qcc at q
   rw [e1] at q
   have q : wpF X ι st.nxt G ((ro Γ st1).bind fun o st2 => (ri Γ st2).bind fun i st3 => (Qbh o i v st3).bind fun _ st4 => .ok (.nx Γ) st4) D := q
   rw [e2] at q
   have q : wpF X ι st.nxt G ((ri Γ st2).bind fun i st3 => (Qbh (.ref n) i v st3).bind fun _ st4 => .ok (.nx Γ) st4) D := q
   rw [e3] at q
   exact q
  have e0 : Qbh (.ref n) j v st3 = QgD n j v st3 (st3.mu n) (keyW j) := rfl
  rw [e0, em, ek] at q'
  by_cases hz : ks.length < sizeLine
  ·have q2 : wpF X ι st.nxt G (.ok (.nx Γ) (st3.put n (.dct (putW ks vs k v).1 (putW ks vs k v).2))) D := by
    have q' : wpF X ι st.nxt G ((if ks.length < sizeLine then .ok () (st3.put n (.dct (putW ks vs k v).1 (putW ks vs k v).2)) else .stuck : R Unit).bind fun _ st4 => .ok (.nx Γ) st4) D := q'
    rw [if_pos hz] at q'
    exact q'
   refine ps_dput hu ho hi he hs' pins s σ H D I ⟨ι, G, st, Γ, en, sr, ?_⟩
   rw [e1]
   intro vv ι1 G1 H1 x1 sr1 r1
   refine ⟨ι1, G1, st1, Γ, en.mono x1, sr1, ?_⟩
   rw [e2]
   intro vo ι2 G2 H2 x2 sr2 r2
   refine ⟨ι2, G2, st2, Γ, (en.mono x1).mono x2, sr2, ?_⟩
   rw [e3]
   intro vj ι3 G3 H3 x3 sr3 r3
   have ro' := r2.mono x3
   cases ro'
   obtain ⟨_, _, ys, hH, hl, t2⟩ := sr3.live n _ em
   have lz : (ks.zip ys).length = ks.length := by rw [List.length_zip, hl, Nat.min_self]
   obtain ⟨ys', e4, l2, t3⟩ := put_rel (k := k) ((r1.mono x2).mono x3) t2 hl
   refine ⟨ι3 n, upd H3 (ι3 n) (dKo (putK (ks.zip ys) k vv)), rfl, KIs.put hH (by rw [lz]; exact hz) ((QbM r3 ek).mono sr3.sub), ?_⟩
   have m : MOR X.K ι3 st3.nxt G3 (upd H3 (ι3 n) (dKo (putK (ks.zip ys) k vv))) (ι3 n) (.dct (putW ks vs k v).1 (putW ks vs k v).2) := ⟨ys', by rw [Qar, e4], l2, t3⟩
   exact q2 ι3 G3 _ ((x1.trans x2).trans x3) (sr3.putO em m) σ (((en.mono x1).mono x2).mono x3)
  ·have q' : wpF X ι st.nxt G ((if ks.length < sizeLine then .ok () (st3.put n (.dct (putW ks vs k v).1 (putW ks vs k v).2)) else .stuck : R Unit).bind fun _ st4 => .ok (.nx Γ) st4) D := q'
   rw [if_neg hz] at q'
   exact (show False from q').elim
 ·exact QhC ho hi he hg hs hw pins s σ H D I ⟨ι, G, st, Γ, en, sr, by rw [<-ch]; exact q⟩
end
end DL
namespace L2
open PySem PySem.Spec PyProof.Rows
section
variable {X : Cx} {tg : Expr}
end
end L2
namespace DL
open PySem PySem.Spec PyProof.Rows L2
section
variable {X : Cx}
end
end DL
namespace DL
open PySem PySem.Spec PyProof.Rows L2
section
variable {X : Cx}
end
end DL
namespace L2
open PySem PySem.Spec PyProof.Rows
section
variable {X : Cx} {k : Nat} {f : Addr} {fd : FuncData} {pn : Str} {sp : Sp}
theorem QdT {pins : List (Addr × Obj)} {σ : St} {H : Hp} {s : Shared} (J : Inv X pins σ H s) : ∀ {ys : List V} {ks : List Value}, Vals ys ks->(∀ y ∈ ys, ∃ p z t, y = .ref p/\SqT X.K H p (z :: t)) ->
  ∃ zs fs : List _, zs.length = ys.length/\Vals zs fs/\PySem.W.KatTups s.heap ks fs/\∀ (i : Nat) (y : V) (z : V), ys[i]? = some y->zs[i]? = some z->∃ p t, y = .ref p/\SqT X.K H p (z :: t)
 | _, _, .nil, _ => ⟨[], [], rfl, .nil, .nil, fun i y z h => by simp at h⟩
 | _, _, @Paired.cons _ _ _ y u ys us r rr, h => by
  obtain ⟨p, z, t, rfl, sq⟩ := h y Qkv
  obtain ⟨zs, fs, h1, h2, h3, h4⟩ := QdT J rr fun y hy => h y (QkA _ hy)
  cases (show u = Value.ref p from r)
  obtain ⟨its, v, q, _⟩ := J.tuple sq
  obtain ⟨o, ho, hc, n, hd⟩ := q
  cases v with
  | @cons _ u0 _ us0 rz rt =>
   refine ⟨z :: zs, u0 :: fs, by rw [QkH, QkH, h1], .cons rz h2, .cons ho hc hd (by simp) h3, fun i y' z' hy hz => ?_⟩
   cases i with
   | zero => simp at hy hz; subst hy hz; exact ⟨p, t, rfl, sq⟩
   | succ i => exact h4 i y' z' (by simpa using hy) (by simpa using hz)
theorem QeH {M : Model} {h : Heap} : ∀ {zs : List V} {fs : List Value}, Vals zs fs->(∀ z ∈ zs, ∃ a, z = .str a)->∀ v ∈ fs, PySem.W.Looks M h (typeOf v) (.type "str")
 | _, _, .nil, _, v, hv => by simp at hv
 | _, _, @Paired.cons _ _ _ z u zs us r rr, h, v, hv => by
  rcases List.mem_cons.mp hv with rfl | hv
  ·obtain ⟨a, rfl⟩ := h z Qkv
   obtain ⟨t, rfl⟩ := r
   exact PySem.W.Looks.of_pure rfl
  ·exact QeH rr (fun z hz => h z (QkA _ hz)) v hv
theorem QeD {xs : List V} {us : List Value} (r : Vals xs us) : ∀ (is : List Nat), (∀ i ∈ is, i < xs.length)->Vals (is.map fun i => xs.getD i .non) (is.map fun i => us.getD i Value.none)
 | [], _ => .nil
 | i :: is, h => by
  have hi := h i Qkv
  obtain ⟨u, hu, ru⟩ := r.get (Qks hi)
  refine .cons ?_ (QeD r is fun j hj => h j (QkA _ hj))
  show RelV (xs.getD i .non) (us.getD i Value.none)
  rw [QkD, QkD, hu, Qks hi]
  exact ru
end
end L2
namespace L2
open PySem PySem.Spec PyProof.Rows PySem.W PySem.Calls
section
variable {prog : Program} {w : World} {A : Around} {E : Value->Shared->Prop} {s : Shared} {h₀ : Heap} {L a kS : Addr} {m : Str->Option Value} {news : List (Addr × Obj)} {vs ks : List Value}
end
end L2
namespace L2
open PySem PySem.Spec PyProof.Rows
section
variable {X : Cx} {k : Nat} {f : Addr} {fd : FuncData} {pn : Str} {sp : Sp}
def QaD {α : Type} (d : α) (xs : List α) (lt : Nat->Nat->Bool) : List α := if 2<=xs.length then (ordT xs.length lt).map (fun i => xs.getD i d) else xs
end
end L2
namespace L2
open PySem PySem.Spec PyProof.Rows
section
variable {X : Cx}
end
end L2
namespace L2
open PySem PySem.Spec PyProof.Rows
section
open PySem.SeqAt
open PySem.AutoSeq1 (wpAny_loadPart')
open PySem.MeetsSeq PySem.MeetsSeq2 PySem.MeetsSeq3
theorem lt_loopL (l b : Addr) (xs ys : Array Value) (n n2 : Nat) (dd dd2 : Option Addr) (sl sl2 : Array (Option Value)) (k : Nat) :
  ∀ i : Nat, xs.size - i = k->i<=xs.size->i<=ys.size->Meets (Builtin.«list.__eq__.loop» ⟨[.ref l, .ref b, rawInt i, rawInt 0], []⟩)
   (fun A R s => s.heap.get? l = some { cls := .type "list", dict := dd, data := .seq xs n, slots := sl }/\s.heap.get? b = some { cls := .type "list", dict := dd2, data := .seq ys n2, slots := sl2 } /\
    ∃ r, LtRun A.in1 s (xs.toList.drop i) (ys.toList.drop i) r/\R (.ok (.ret (.bool r))) s) := by
 induction k with
 | zero =>
  intro i hk h1 h2 prog w A R s h
  obtain ⟨hp, g, d, tk, os⟩ := s; obtain ⟨hl, hb, r, hrun, h⟩ := h
  wp_walk using wpAny_loadPart' hl, wpAny_loadPart' hb
  have e1 : xs[((i : Nat) : Int).toNat]? = none := by simp; omega
  have e2 : xs.toList.drop i = [] := by simp; omega
  rw [e2] at hrun
  rw [e1]
  wp_walk using wpAny_loadPart' hl, wpAny_loadPart' hb
  show R (.ok (.ret (.bool (decide (xs.size < ys.size))))) _
  have hv : r = decide (xs.size < ys.size) := by
   generalize e3 : ys.toList.drop i = zs at hrun
   have l3 := congrArg List.length e3
   rw [List.length_drop, Array.length_toList] at l3
   cases hrun with
   | nn => exact (decide_eq_false (by simp at l3; omega)).symm
   | nc => exact (decide_eq_true (by simp at l3; omega)).symm
  rw [<-hv]; exact h
 | succ k ih =>
  intro i hk h1 h2 prog w A R s h
  obtain ⟨hp, g, d, tk, os⟩ := s; obtain ⟨hl, hb, r, hrun, h⟩ := h
  wp_walk using wpAny_loadPart' hl, wpAny_loadPart' hb
  have lx : i < xs.size := by omega
  have e1 : xs[((i : Nat) : Int).toNat]? = some xs[i] := by simp [lx]
  have d1 : xs.toList.drop i = xs[i] :: xs.toList.drop (i + 1) := by rw [QkM (by simpa using lx)]; simp
  rw [d1] at hrun
  have hc : ((i : Int) + 1) = ((i + 1 : Nat) : Int) := by push_cast; rfl
  by_cases ly : i < ys.size
  ·have e2 : ys[((i : Nat) : Int).toNat]? = some ys[i] := by simp [ly]
   have d2 : ys.toList.drop i = ys[i] :: ys.toList.drop (i + 1) := by rw [QkM (by simpa using ly)]; simp
   rw [d2] at hrun
   rw [e1, e2]
   cases hrun with
   | eq he hr =>
    refine wpAny_bind (he prog w _ _ ?_)
    wp_walk
    rw [hc]
    exact ⟨plainId_quiet plain_eq_loop _, codeAny_builtin entry_eq_loop (by
     rw [Around.under_plainId plain_eq_loop _]
     exact ih (i + 1) (by omega) lx ly prog w A R _ ⟨hl, hb, r, hr, h⟩)⟩
   | ne he hr =>
    refine wpAny_bind (he prog w _ _ ?_)
    have hri := hr prog w
    wp_walk using wpAny_loadPart' hl, wpAny_loadPart' hb
    rw [e1, e2]
    wp_walk using hri
    exact h
  ·have e2 : ys[((i : Nat) : Int).toNat]? = none := by simp; omega
   have d2 : ys.toList.drop i = [] := by simp; omega
   rw [d2] at hrun
   rw [e1, e2]
   wp_walk using wpAny_loadPart' hl, wpAny_loadPart' hb
   show R (.ok (.ret (.bool (decide (xs.size < ys.size))))) _
   have hv : r = decide (xs.size < ys.size) := by
    cases hrun with
    | cn => exact (decide_eq_false (by omega)).symm
   rw [<-hv]; exact h
theorem list_ltL (l b : Addr) (xs ys : Array Value) (n n2 : Nat) (dd dd2 : Option Addr) (sl sl2 : Array (Option Value)) :
  Meets (Builtin.«list.__lt__» ⟨[.ref l, .ref b], []⟩)
   (fun A R s => s.heap.get? l = some { cls := .type "list", dict := dd, data := .seq xs n, slots := sl }/\s.heap.get? b = some { cls := .type "list", dict := dd2, data := .seq ys n2, slots := sl2 } /\
    ∃ r, LtRun A.in1 s xs.toList ys.toList r/\R (.ok (.ret (.bool r))) s) := by
 intro prog w A R s h
 obtain ⟨hp, g, d, tk, os⟩ := s; obtain ⟨hl, hb, r, hrun, h⟩ := h
 have f3 := AutoSeq1.sub_list_list
 wp_walk using wpAny_loadPart' hl, wpAny_loadPart' hb
 exact ⟨plainId_quiet plain_eq_loop _, codeAny_builtin entry_eq_loop (by
  rw [Around.under_plainId plain_eq_loop _]
  exact lt_loopL l b xs ys n n2 dd dd2 sl sl2 _ 0 rfl (Nat.zero_le _) (Nat.zero_le _) prog w A R _ ⟨hl, hb, r, by simpa using hrun, h⟩)⟩
end
theorem QiY {prog : Program} {w : World} {A : Around} {E : Value->Shared->Prop} {s : Shared} {l b : Addr} {xs ys : Array Value} {r : Bool} {Q : Value->Shared->Prop} (hl : s.heap.IsList l xs) (hb : s.heap.IsList b ys)
  (hr : LtRun A.in1 s xs.toList ys.toList r) (hu : A.units < cLine) (h : Q (.bool r) s) : wpAny (model prog w) A (richCompare .Lt (.ref l) (.ref b)) Q E s := by
 obtain ⟨⟨cls, dd, data, sl⟩, ho, hc, n, hd⟩ := id hl
 obtain ⟨⟨cls2, dd2, data2, sl2⟩, ho2, hc2, n2, hd2⟩ := id hb
 simp only at hc hd hc2 hd2
 subst hc hd hc2 hd2
 exact richCompare_meets_room (op := .Lt) ⟨_, ho, rfl⟩ ⟨_, ho2, rfl⟩ PySem.F.slot_list_lt PySem.F.entry_list_lt (PySem.F.args_list_lt_2 _ _) (list_ltL l b xs ys n n2 dd dd2 sl sl2)
  ⟨ho, ho2, r, hr, show Value.bool r ≠ Value.notImplemented/\Q (.bool r) s from ⟨(fun x => nomatch x), h⟩⟩ hu
section
variable {X : Cx} {H : Hp}
theorem LtV.flat {n : Nat} {x y : V} {b : Bool} (h : ltFlat x y b) : LtV X H n x y b := fun _ _ _ _ _ _ _ ru rv _ => QiZ h ru rv
theorem LtV.tup {n : Nat} {p q : Addr} {xs ys : List V} {b : Bool} (hp : SqT X.K H p xs) (hq : SqT X.K H q ys) (h : LtR (EqV X H n) (LtV X H n) xs ys b) : LtV X H (n + 1) (.ref p) (.ref q) b := by
 intro pins σ s u v A I ru rv hA
 cases ru
 cases rv
 obtain ⟨its, r1, t1, _⟩ := I.tuple hp
 obtain ⟨its2, r2, t2, _⟩ := I.tuple hq
 intro prog w E Q hQ
 exact QiX t1 t2 (Qep (A := A.in1) (fun x y b u v e ru rv => e _ _ _ _ _ _ I ru rv (by show A.units + 1 + n < cLine; omega)) (fun x y b u v e ru rv => e _ _ _ _ _ _ I ru rv (by show A.units + 1 + n < cLine; omega)) h r1 r2) (by omega) hQ
theorem LtV.lst {n : Nat} {p q : Addr} {xs ys : List V} {b : Bool} (hp : SqL X.K H p xs) (hq : SqL X.K H q ys) (h : LtR (EqV X H n) (LtV X H n) xs ys b) : LtV X H (n + 1) (.ref p) (.ref q) b := by
 intro pins σ s u v A I ru rv hA
 cases ru
 cases rv
 obtain ⟨its, r1, t1, _⟩ := I.list hp
 obtain ⟨its2, r2, t2, _⟩ := I.list hq
 intro prog w E Q hQ
 exact QiY t1.isList t2.isList (Qep (A := A.in1) (fun x y b u v e ru rv => e _ _ _ _ _ _ I ru rv (by show A.units + 1 + n < cLine; omega)) (fun x y b u v e ru rv => e _ _ _ _ _ _ I ru rv (by show A.units + 1 + n < cLine; omega)) h r1 r2) (by omega) hQ
end
end L2
namespace L2
open PySem PySem.Spec PyProof.Rows
section
variable {X : Cx} {pins : List (Addr × Obj)} {σ : List (Option V)} {H H' : Hp} {s : Shared} {h' : Heap}
end
end L2
namespace L2
open PySem PySem.Spec PyProof.Rows PySem.W
section
variable {n : Nat} {lt : Nat->Nat->Bool}
theorem Qbl {α β : Type} (f : α->KasT β) : ∀ t : KasT α, runT lt (t.bind f) = runT lt (f (runT lt t))
 | .ret _ => rfl
 | .ask i j k => Qbl f (k (lt i j))
structure Ord (n : Nat) (lt : Nat->Nat->Bool) : Prop where
 as : ∀ i j, i < n->j < n->lt i j = true->lt j i = true->False
 tr : ∀ i j k, i < n->j < n->k < n->lt i j = true->lt j k = true->lt i k = true
 tot : ∀ i j, i < n->j < n->i ≠ j->lt i j = true\/lt j i = true
abbrev gp (p : Array Nat) (i : Nat) : Nat := p.getD i 0
def Pm (n : Nat) (p : Array Nat) : Prop := p.toList.Perm (List.range n)
theorem Pm.size {p : Array Nat} (h : Pm n p) : p.size = n := by rw [<-Array.length_toList, h.length_eq, List.length_range]
theorem Pm.gd {p : Array Nat} (h : Pm n p) : Gd n p := ⟨h.size, fun x hx => by have := h.mem_iff.mp (Array.mem_toList_iff.mpr hx); simpa using this⟩
theorem Pm.get {p : Array Nat} (h : Pm n p) {i : Nat} (hi : i < n) : p.toList[i]? = some (gp p i) := by
 have : i < p.size := by rw [h.size]; exact hi
 rw [Array.getElem?_toList]; simp [gp, this]
theorem Pm.ne {p : Array Nat} (h : Pm n p) {i j : Nat} (hi : i < n) (hj : j < n) (hij : i ≠ j) : gp p i ≠ gp p j := by
 intro e
 have nd : p.toList.Nodup := h.nodup_iff.mpr List.nodup_range
 have a := h.get hi
 have b := h.get hj
 rw [e, <-b] at a
 exact hij ((List.getElem?_inj (by rw [h.length_eq, List.length_range]; exact hi) nd).mp a)
theorem Pm.bd {p : Array Nat} (h : Pm n p) {i : Nat} (hi : i < n) : gp p i < n := h.gd.get (by omega) i
theorem Pm.perm {p q : Array Nat} (h : Pm n p) (e : q.Perm p) : Pm n q := (Array.perm_iff_toList_perm.mp e).trans h
theorem gp_eq {p q : Array Nat} {i j : Nat} (h : p[i]? = q[j]?) : gp p i = gp q j := by simp [gp, Array.getD_eq_getD_getElem?, h]
theorem gp_rev {p : Array Nat} {m : Nat} (hm : m<=p.size) (k : Nat) : gp (kas_rev p 0 m) k = if k < m then gp p (m - 1 - k) else gp p k := by
 have e := getElem?_mirror_all (xs := p) (i := 0) (j := m) hm k
 unfold kas_rev
 by_cases h : k < m
 ·rw [if_pos ⟨Nat.zero_le _, h⟩] at e
  rw [if_pos h]; have := gp_eq e; rw [this]; congr 1; omega
 ·rw [if_neg (fun z => h z.2)] at e
  rw [if_neg h]; exact gp_eq e
theorem gp_bub {p : Array Nat} {k d : Nat} (hk : k < p.size) (hd : d<=k) (i : Nat) : gp (bubble p k d) i = if i = k - d then gp p k else if k - d < i/\i<=k then gp p (i - 1) else gp p i := by
 have e := getElem?_bubble hk d hd i
 split at e
 ·rename_i h; rw [if_pos h]; exact gp_eq e
 ·rename_i h; rw [if_neg h]
  split at e
  ·rename_i h2; rw [if_pos h2]; exact gp_eq e
  ·rename_i h2; rw [if_neg h2]; exact gp_eq e
def SPr (lt : Nat->Nat->Bool) (p : Array Nat) (k : Nat) : Prop := ∀ i j, i < j->j < k->lt (gp p i) (gp p j) = true
def SDr (lt : Nat->Nat->Bool) (p : Array Nat) (k : Nat) : Prop := ∀ i j, i < j->j < k->lt (gp p j) (gp p i) = true
variable (O : Ord n lt)
include O
theorem Ord.flip {p : Array Nat} (h : Pm n p) {i j : Nat} (hi : i < n) (hj : j < n) (hij : i ≠ j) (e : lt (gp p i) (gp p j) = false) : lt (gp p j) (gp p i) = true := by
 rcases O.tot _ _ (h.bd hi) (h.bd hj) (h.ne hi hj hij) with q | q
 ·rw [e] at q; cases q
 ·exact q
theorem sp_more {p : Array Nat} (h : Pm n p) {m : Nat} (h1 : 1<=m) (hm : m < n) (s : SPr lt p m) (e : lt (gp p (m - 1)) (gp p m) = true) : SPr lt p (m + 1) := by
 intro i j hij hj
 by_cases q : j = m
 ·subst q
  by_cases r : i = j - 1
  ·rw [r]; exact e
  ·exact O.tr _ _ _ (h.bd (by omega)) (h.bd (by omega)) (h.bd hm) (s i (j - 1) (by omega) (by omega)) e
 ·exact s i j hij (by omega)
theorem sd_more {p : Array Nat} (h : Pm n p) {m : Nat} (h1 : 1<=m) (hm : m < n) (s : SDr lt p m) (e : lt (gp p m) (gp p (m - 1)) = true) : SDr lt p (m + 1) := by
 intro i j hij hj
 by_cases q : j = m
 ·subst q
  by_cases r : i = j - 1
  ·rw [r]; exact e
  ·exact O.tr _ _ _ (h.bd hm) (h.bd (by omega)) (h.bd (by omega)) e (s i (j - 1) (by omega) (by omega))
 ·exact s i j hij (by omega)
theorem Qkj {p : Array Nat} (h : Pm n p) : ∀ f m, 1<=m->m + f<=n->SPr lt p m->m<=runT lt (kas_asc p f m)/\runT lt (kas_asc p f m)<=m + f/\SPr lt p (runT lt (kas_asc p f m)) /\
  (runT lt (kas_asc p f m) < m + f->lt (gp p (runT lt (kas_asc p f m))) (gp p (runT lt (kas_asc p f m) - 1)) = true)
 | 0, m, _, _, s => ⟨Qky _, Qky _, s, fun z => absurd z (QkL _)⟩
 | f + 1, m, h1, hf, s => by
  have e : runT lt (kas_asc p (f + 1) m) = runT lt (if lt (gp p m) (gp p (m - 1)) = true then KasT.ret m else kas_asc p f (m + 1)) := rfl
  cases c : lt (gp p m) (gp p (m - 1)) with
  | true =>
   rw [c, if_pos rfl] at e
   have e' : runT lt (kas_asc p (f + 1) m) = m := e
   rw [e']; exact ⟨Qky _, by omega, s, fun _ => c⟩
  | false =>
   rw [c, if_neg Qkr] at e
   rw [e]
   obtain ⟨a, b, d, g⟩ := Qkj h f (m + 1) (by omega) (by omega) (sp_more O h h1 (by omega) s (O.flip h (by omega) (by omega) (by omega) c))
   exact ⟨by omega, by omega, d, fun z => g (by omega)⟩
theorem QjQ {p : Array Nat} (h : Pm n p) : ∀ f m, 1<=m->m + f<=n->SDr lt p m->∃ r, runT lt (kas_desc f p m 0) = (p, r, 0)/\m<=r/\r<=m + f/\SDr lt p r
 | 0, m, _, _, s => ⟨m, rfl, Qky _, Qky _, s⟩
 | f + 1, m, h1, hf, s => by
  cases c : lt (gp p m) (gp p (m - 1)) with
  | true =>
   obtain ⟨r, a, b, d, g⟩ := QjQ h f (m + 1) (by omega) (by omega) (sd_more O h h1 (by omega) s c)
   refine ⟨r, ?_, by omega, by omega, g⟩
   rw [<-a]
   show runT lt (if lt (gp p m) (gp p (m - 1)) = true then _ else _) = _
   rw [c, if_pos rfl]; rfl
  | false =>
   refine ⟨m, ?_, Qky _, by omega, s⟩
   show runT lt (if lt (gp p m) (gp p (m - 1)) = true then _ else _) = _
   rw [c, if_neg Qkr]
   show runT lt (if lt (gp p (m - 1)) (gp p m) = true then KasT.ret (p, m, 0) else _) = _
   rw [O.flip h (by omega) (by omega) (by omega) c, if_pos rfl]; rfl
theorem sp_rev {p : Array Nat} (h : Pm n p) {m : Nat} (hm : m<=n) (s : SDr lt p m) : SPr lt (kas_rev p 0 m) m := by
 intro i j hij hj
 rw [gp_rev (by rw [h.size]; exact hm), gp_rev (by rw [h.size]; exact hm), if_pos (by omega), if_pos hj]
 exact s _ _ (by omega) (by omega)
theorem Pm.rev {p : Array Nat} (h : Pm n p) (m : Nat) : Pm n (kas_rev p 0 m) := h.perm (mirror_perm _ _ _ _)
theorem tail3_ok {p : Array Nat} (h : Pm n p) {k : Nat} (h1 : 1<=k) (hk : k<=n) (s : SDr lt p k) : Pm n (runT lt (kas_tail3 k n p)).2/\k<=(runT lt (kas_tail3 k n p)).1/\(runT lt (kas_tail3 k n p)).1<=n/\SPr lt (runT lt (kas_tail3 k n p)).2 (runT lt (kas_tail3 k n p)).1 := by
 unfold kas_tail3
 rw [Qbl]
 obtain ⟨a, b, d, _⟩ := Qkj O (Pm.rev O h k) (n - k) k h1 (by omega) (sp_rev O h hk s)
 exact ⟨Pm.rev O h k, a, by show runT lt _<=n; omega, d⟩
omit O in
def CntG (n : Nat) (lt : Nat->Nat->Bool) (r : Nat × Array Nat) : Prop := Pm n r.2/\r.1<=n/\1<=r.1/\SPr lt r.2 r.1
include O in
theorem count_ok {p : Array Nat} (h : Pm n p) (h0 : 1<=n) : CntG n lt (runT lt (kas_count n p)) := by
 unfold kas_count
 rw [Qbl]
 obtain ⟨a, b, d, g⟩ := Qkj O h (n - 1) 1 (Qky _) (by omega) (fun i j _ hj => absurd hj (by omega))
 generalize runT lt (kas_asc p (n - 1) 1) = m at a b d g
 by_cases e : m = n
 ·subst e
  rw [if_pos (by simp)]
  exact ⟨h, Qky _, by show 1<=m; omega, d⟩
 ·rw [if_neg (by simpa using e)]
  have hm : m < n := by omega
  have g' := g (by omega)
  by_cases q : m > 1
  ·rw [if_pos q]
   show CntG n lt (runT lt (if lt (gp p 0) (gp p (m - 1)) = true then KasT.ret (m, p) else _))
   rw [d 0 (m - 1) (by omega) (by omega), if_pos rfl]
   exact ⟨h, by show m<=n; omega, a, d⟩
  ·rw [if_neg q]
   have m1 : m = 1 := by omega
   subst m1
   unfold kas_descPart
   rw [Qbl]
   obtain ⟨r, er, r1, r2, r3⟩ := QjQ O h (n - 2) 2 (by omega) (by omega) (fun i j hij hj => by
    have i0 : i = 0 := by omega
    have j1 : j = 1 := by omega
    rw [i0, j1]; exact g')
   have er' : runT lt (kas_desc (n - (1 + 1)) p (1 + 1) 0) = (p, r, 0) := er
   rw [er', if_neg (by simp)]
   obtain ⟨t1, t2, t3, t4⟩ := tail3_ok O h (k := r) (by omega) (by omega) r3
   exact ⟨t1, t3, QkI (by omega) t2, t4⟩
theorem Qei {p : Array Nat} (h : Pm n p) {k : Nat} (hk : k < n) (s : SPr lt p k) : ∀ f l r, l<=r->r<=k->r - l<=f->(∀ i, i < l->lt (gp p i) (gp p k) = true)->(∀ i, r<=i->i < k->lt (gp p k) (gp p i) = true) ->
  runT lt (kas_place p k f l r)<=k/\(∀ i, i < runT lt (kas_place p k f l r)->lt (gp p i) (gp p k) = true)/\(∀ i, runT lt (kas_place p k f l r)<=i->i < k->lt (gp p k) (gp p i) = true)
 | 0, l, r, h1, h2, hf, a, b => by
  have : l = r := by omega
  subst this
  exact ⟨h2, a, b⟩
 | f + 1, l, r, h1, h2, hf, a, b => by
  unfold kas_place
  by_cases q : l ≥ r
  ·rw [if_pos q]
   have : l = r := by omega
   subst this
   exact ⟨h2, a, b⟩
  ·rw [if_neg q]
   have m1 : l<=(l + r) / 2 := by omega
   have m2 : (l + r) / 2 < r := by omega
   generalize (l + r) / 2 = m at m1 m2
   show runT lt (if lt (gp p k) (gp p m) = true then _ else _)<=k/\(∀ i, i < runT lt (if lt (gp p k) (gp p m) = true then _ else _)->_)/\(∀ i, runT lt (if lt (gp p k) (gp p m) = true then _ else _)<=i->_)
   cases c : lt (gp p k) (gp p m) with
   | true =>
    rw [if_pos rfl]
    refine Qei h hk s f l m m1 (by omega) (by omega) a fun i hi hik => ?_
    by_cases e : i = m
    ·rw [e]; exact c
    ·exact O.tr _ _ _ (h.bd hk) (h.bd (by omega)) (h.bd (by omega)) c (s m i (by omega) hik)
   | false =>
    rw [if_neg Qkr]
    have c' := O.flip h hk (by omega) (by omega) c
    refine Qei h hk s f (m + 1) r (by omega) h2 (by omega) (fun i hi => ?_) b
    by_cases e : i = m
    ·rw [e]; exact c'
    ·exact O.tr _ _ _ (h.bd (by omega)) (h.bd (by omega)) (h.bd hk) (s i m (by omega) (by omega)) c'
theorem bin_ok : ∀ f (p : Array Nat) k, Pm n p->k + f = n->SPr lt p k->Pm n (runT lt (kas_bin f p k))/\SPr lt (runT lt (kas_bin f p k)) n
 | 0, p, k, h, e, s => by
  have : k = n := by omega
  subst this; exact ⟨h, s⟩
 | f + 1, p, k, h, e, s => by
  unfold kas_bin
  rw [Qbl]
  have hk : k < n := by omega
  obtain ⟨a, b, c⟩ := Qei O h hk s k 0 k (Nat.zero_le _) (Qky _) (Qky _) (fun i hi => absurd hi (Nat.not_lt_zero _)) (fun i hi hik => absurd hik (by omega))
  generalize runT lt (kas_place p k k 0 k) = l at a b c
  refine bin_ok f _ _ (h.perm (bubble_perm _ _ _)) (by omega) fun i j hij hj => ?_
  have ks : k < p.size := by rw [h.size]; exact hk
  have el : k - (k - l) = l := by omega
  rw [gp_bub ks (by omega), gp_bub ks (by omega), el]
  by_cases i1 : i = l
  ·rw [if_pos i1, if_neg (by omega), if_pos (by omega)]
   exact c _ (by omega) (by omega)
  ·rw [if_neg i1]
   by_cases j1 : j = l
   ·rw [if_pos j1, if_neg (by omega)]
    exact b _ (by omega)
   ·rw [if_neg j1]
    by_cases i2 : l < i
    ·rw [if_pos (by omega), if_pos (by omega)]; exact s _ _ (by omega) (by omega)
    ·rw [if_neg (by omega)]
     by_cases j2 : l < j
     ·rw [if_pos (by omega)]; exact s _ _ (by omega) (by omega)
     ·rw [if_neg (by omega)]; exact s _ _ (by omega) (by omega)
theorem sort_ok (h0 : 1<=n) : Pm n (runT lt (kas_sort n))/\SPr lt (runT lt (kas_sort n)) n := by
 unfold kas_sort
 rw [Qbl]
 obtain ⟨a, b, c, d⟩ := count_ok O (p := (List.range n).toArray) (show List.Perm _ _ by simp) h0
 generalize runT lt (kas_count n (List.range n).toArray) = r at a b c d
 by_cases e : r.1 < n
 ·rw [if_pos e]
  have m1 : max r.1 1 = r.1 := by omega
  rw [m1]
  exact bin_ok O _ _ _ a (by omega) d
 ·rw [if_neg e]
  have : r.1 = n := by omega
  rw [this] at d
  exact ⟨a, d⟩
theorem QhE (h0 : 1<=n) : (ordT n lt).Perm (List.range n)/\(ordT n lt).Pairwise fun i j => lt i j = true := by
 obtain ⟨a, b⟩ := sort_ok O h0
 refine ⟨a, ?_⟩
 unfold ordT
 rw [List.pairwise_iff_getElem]
 intro i j hi hj hij
 have li : i < n := by rw [a.length_eq, List.length_range] at hi; exact hi
 have lj : j < n := by rw [a.length_eq, List.length_range] at hj; exact hj
 have gi := a.get li
 have gj := a.get lj
 rw [Qks hi] at gi
 rw [Qks hj] at gj
 rw [Option.some.inj gi, Option.some.inj gj]
 exact b i j hij lj
end
section
variable {α : Type}
theorem QeJ {r : α->α->Prop} (as : ∀ a b, r a b->r b a->False) : ∀ {xs ys : List α}, xs.Perm ys->xs.Pairwise r->ys.Pairwise r->xs = ys
 | [], ys, p, _, _ => (List.Perm.nil_eq p)
 | x :: xs, [], p, _, _ => by have := p.length_eq; simp at this
 | x :: xs, y :: ys, p, h1, h2 => by
  rw [List.pairwise_cons] at h1 h2
  have e : x = y := by
   have mx : x ∈ y :: ys := p.mem_iff.mp Qkv
   have my : y ∈ x :: xs := p.mem_iff.mpr Qkv
   rcases List.mem_cons.mp mx with e | mx
   ·exact e
   ·rcases List.mem_cons.mp my with e | my
    ·exact e.symm
    ·exact (as _ _ (h1.1 y my) (h2.1 x mx)).elim
  subst e
  rw [QeJ as (List.Perm.cons_inv p) h1.2 h2.2]
theorem Qhr {d : α} {xs : List α} {lt : Nat->Nat->Bool} {r : α->α->Prop} (tr : ∀ a b c, a ∈ xs->b ∈ xs->c ∈ xs->r a b->r b c->r a c) (as : ∀ a b, r a b->r b a->False) (tot : ∀ a b, a ∈ xs->b ∈ xs->a ≠ b->r a b\/r b a) (nd : xs.Nodup)
  (e : ∀ (i j : Nat) (a b : α), xs[i]? = some a->xs[j]? = some b->(lt i j = true ↔ r a b)) : (QaD d xs lt).Perm xs/\(QaD d xs lt).Pairwise r := by
 unfold QaD
 split
 ·rename_i h2
  have at_ : ∀ i, i < xs.length->∃ a, xs[i]? = some a/\a ∈ xs := fun i hi => ⟨xs[i], Qks hi, List.getElem_mem hi⟩
  have O : Ord xs.length lt := by
   refine ⟨fun i j hi hj h h' => ?_, fun i j k hi hj hk h h' => ?_, fun i j hi hj hij => ?_⟩
   ·obtain ⟨a, ha, _⟩ := at_ i hi
    obtain ⟨b, hb, _⟩ := at_ j hj
    exact as a b ((e i j a b ha hb).mp h) ((e j i b a hb ha).mp h')
   ·obtain ⟨a, ha, ma⟩ := at_ i hi
    obtain ⟨b, hb, mb⟩ := at_ j hj
    obtain ⟨c, hc, mc⟩ := at_ k hk
    exact (e i k a c ha hc).mpr (tr a b c ma mb mc ((e i j a b ha hb).mp h) ((e j k b c hb hc).mp h'))
   ·obtain ⟨a, ha, ma⟩ := at_ i hi
    obtain ⟨b, hb, mb⟩ := at_ j hj
    have ne : a ≠ b := fun z => by
     subst z
     exact hij ((List.getElem?_inj hi nd).mp (ha.trans hb.symm))
    rcases tot a b ma mb ne with q | q
    ·exact .inl ((e i j a b ha hb).mpr q)
    ·exact .inr ((e j i b a hb ha).mpr q)
  obtain ⟨p, w⟩ := QhE O (by omega)
  have em : (List.range xs.length).map (fun i => xs.getD i d) = xs := by
   refine List.ext_getElem? fun i => ?_
   rw [QkG]
   by_cases hi : i < xs.length
   ·rw [List.getElem?_range hi]; simp [hi]
   ·rw [List.getElem?_eq_none (by simpa using hi), List.getElem?_eq_none (by omega)]; rfl
  refine ⟨?_, ?_⟩
  ·have := p.map (fun i => xs.getD i d)
   rwa [em] at this
  ·rw [List.pairwise_map]
   refine List.Pairwise.imp_of_mem (fun {i j} hi hj h => ?_) w
   have li : i < xs.length := by simpa using p.mem_iff.mp hi
   have lj : j < xs.length := by simpa using p.mem_iff.mp hj
   have gi : xs.getD i d = xs[i] := by simp [li]
   have gj : xs.getD j d = xs[j] := by simp [lj]
   rw [gi, gj]
   exact (e i j _ _ (Qks li) (Qks lj)).mp h
 ·rename_i h2
  refine ⟨.refl _, ?_⟩
  cases xs with
  | nil => exact .nil
  | cons x t => cases t with
   | nil => exact List.pairwise_singleton _ _
   | cons y t => simp at h2
end
end L2
namespace L2
open PySem PySem.Spec PyProof.Rows
namespace ST
open PySem.SetTable
def st0 (mask : Nat) (h : Int) : Probe := { j := bits h % (mask + 1), more := runEnd mask (bits h % (mask + 1)) - bits h % (mask + 1), i := bits h % (mask + 1), perturb := bits h, dummy := none }
def adv (mask : Nat) (p : Probe) : Probe :=
 if p.more > 0 then { p with j := p.j + 1, more := p.more - 1 } else
 { p with j := (leap mask p.i p.perturb).1, more := runEnd mask (leap mask p.i p.perturb).1 - (leap mask p.i p.perturb).1, i := (leap mask p.i p.perturb).1, perturb := (leap mask p.i p.perturb).2 }
def pr (mask : Nat) (h : Int) : Nat->Probe
 | 0 => st0 mask h
 | k + 1 => adv mask (pr mask h k)
theorem Qef (mask : Nat) (h : Int) : ∀ k, (pr mask h k).dummy = none
 | 0 => rfl
 | k + 1 => by
  show (adv mask (pr mask h k)).dummy = none
  unfold adv
  split
  ·exact Qef mask h k
  ·exact Qef mask h k
def lp (mask : Nat) (h : Int) : Nat->Nat × Nat
 | 0 => (bits h % (mask + 1), bits h)
 | k + 1 => leap mask (lp mask h k).1 (lp mask h k).2
def atL (mask : Nat) (q : Nat × Nat) : Probe := { j := q.1, more := runEnd mask q.1 - q.1, i := q.1, perturb := q.2, dummy := none }
theorem run9 (mask i : Nat) : runEnd mask i - i<=9 := by unfold runEnd; split <;> omega
theorem QfN (mask : Nat) (h : Int) (q : Nat × Nat) (k : Nat) (e : pr mask h k = atL mask q) : ∀ d, d<=runEnd mask q.1 - q.1->pr mask h (k + d) = { j := q.1 + d, more := runEnd mask q.1 - q.1 - d, i := q.1, perturb := q.2, dummy := none }
 | 0, _ => by rw [Nat.add_zero, e]; rfl
 | d + 1, hd => by
  have ih := QfN mask h q k e d (by omega)
  show adv mask (pr mask h (k + d)) = _
  rw [ih]; unfold adv
  rw [if_pos (show runEnd mask q.1 - q.1 - d > 0 by omega)]
  congr 1
theorem Qiz (mask : Nat) (h : Int) (q : Nat × Nat) (k : Nat) (e : pr mask h k = atL mask q) : pr mask h (k + (runEnd mask q.1 - q.1) + 1) = atL mask (leap mask q.1 q.2) := by
 have z := QfN mask h q k e _ (Qky _)
 show adv mask (pr mask h (k + (runEnd mask q.1 - q.1))) = _
 rw [z]; unfold adv
 rw [if_neg (show ¬ runEnd mask q.1 - q.1 - (runEnd mask q.1 - q.1) > 0 by omega)]; rfl
theorem lp_at (mask : Nat) (h : Int) : ∀ k, ∃ m, m<=10 * k/\pr mask h m = atL mask (lp mask h k)
 | 0 => ⟨0, Qky _, rfl⟩
 | k + 1 => by
  obtain ⟨m, hm, e⟩ := lp_at mask h k
  have := run9 mask (lp mask h k).1
  exact ⟨_, by omega, Qiz mask h _ m e⟩
theorem Qja (mask : Nat) (h : Int) : ∀ k, (lp mask h k).2 = bits h / 32 ^ k
 | 0 => by show bits h = _; rw [Nat.pow_zero, Nat.div_one]
 | k + 1 => by
  show (lp mask h k).2 / 32 = _
  rw [Qja mask h k, Nat.div_div_eq_div_mul, Nat.pow_succ]
theorem bits_lt (h : Int) : bits h < 2 ^ 64 := by unfold bits; omega
def ft (M i : Nat) : Nat := (i * 5 + 1) % M
theorem lp_late (mask : Nat) (h : Int) (k : Nat) (hk : 12<=k) : (lp mask h (k + 1)).1 = ft (mask + 1) (lp mask h k).1 := by
 show ((lp mask h k).1 * 5 + 1 + (lp mask h k).2 / 32) % (mask + 1) = _
 have e : (lp mask h k).2 / 32 = 0 := by
  rw [Qja, Nat.div_div_eq_div_mul, <-Nat.pow_succ]
  apply Nat.div_eq_of_lt
  refine QkC (bits_lt h) ?_
  refine QkI (show 2 ^ 64<=32 ^ 13 by decide) (Nat.pow_le_pow_right (by decide) (by omega))
 rw [e]; rfl
theorem lp_lt (mask : Nat) (h : Int) : ∀ k, (lp mask h k).1 < mask + 1
 | 0 => Nat.mod_lt _ (Nat.succ_pos _)
 | k + 1 => Nat.mod_lt _ (Nat.succ_pos _)
def itf (M : Nat) : Nat->Nat->Nat
 | 0, i => i
 | k + 1, i => itf M k (ft M i)
theorem Qes (M : Nat) : ∀ a b i, itf M (a + b) i = itf M b (itf M a i)
 | 0, b, i => by rw [Nat.zero_add]; rfl
 | a + 1, b, i => by rw [Nat.succ_add]; exact Qes M a b (ft M i)
theorem lp_itf (mask : Nat) (h : Int) : ∀ d k, 12<=k->(lp mask h (k + d)).1 = itf (mask + 1) d (lp mask h k).1
 | 0, k, _ => rfl
 | d + 1, k, hk => by
  have e := lp_itf mask h d (k + 1) (by omega)
  rw [show k + 1 + d = k + (d + 1) by omega, lp_late mask h k hk] at e
  exact e
def orb (M : Nat) : Nat->Nat->List Nat
 | 0, _ => []
 | n + 1, i => i :: orb M n (ft M i)
theorem QiL (M : Nat) : ∀ n i j, j ∈ orb M n i->∃ k, k < n/\itf M k i = j
 | 0, _, _, h => by cases h
 | n + 1, i, j, h => by
  rcases List.mem_cons.mp h with e | h
  ·exact ⟨0, Nat.succ_pos _, e.symm⟩
  ·obtain ⟨k, hk, e⟩ := QiL M n _ j h
   exact ⟨k + 1, by omega, e⟩
def full (M : Nat) : Bool := (List.range M).all (fun j => (orb M M 0).contains j) && decide (itf M M 0 = 0)
theorem cover {M : Nat} (hf : full M = true) {i j : Nat} (hi : i < M) (hj : j < M) : ∃ k, k < M/\itf M k i = j := by
 unfold full at hf
 rw [QkK, List.all_eq_true, decide_eq_true_eq] at hf
 obtain ⟨h1, h2⟩ := hf
 have at_ : ∀ x, x < M->∃ k, k < M/\itf M k 0 = x := fun x hx => QiL M M 0 x (by have := h1 x (List.mem_range.mpr hx); simpa using this)
 obtain ⟨a, ha, ea⟩ := at_ i hi
 obtain ⟨b, hb, eb⟩ := at_ j hj
 by_cases q : a<=b
 ·refine ⟨b - a, by omega, ?_⟩
  rw [<-ea, <-Qes, show a + (b - a) = b by omega, eb]
 ·refine ⟨M - a + b, by omega, ?_⟩
  rw [<-ea, <-Qes, show a + (M - a + b) = M + b by omega, Qes, h2, eb]
def okM (mask : Nat) : Prop := mask = 7\/mask = 31\/mask = 127
theorem okM.full {mask : Nat} (h : okM mask) : full (mask + 1) = true := by
 rcases h with h | h | h <;> subst h <;> decide +kernel
theorem QgS {mask : Nat} (ok : okM mask) (h : Int) {j : Nat} (hj : j<=mask) : ∃ k, k < mask + 13/\(lp mask h k).1 = j := by
 obtain ⟨k, hk, e⟩ := cover ok.full (lp_lt mask h 12) (show j < mask + 1 by omega)
 exact ⟨12 + k, by omega, by rw [lp_itf mask h k 12 (Qky _)]; exact e⟩
theorem pr_cover {mask : Nat} (ok : okM mask) (h : Int) {j : Nat} (hj : j<=mask) : ∃ m, m < 10 * (mask + 15)/\(pr mask h m).j = j := by
 obtain ⟨k, hk, e⟩ := QgS ok h hj
 obtain ⟨m, hm, q⟩ := lp_at mask h k
 exact ⟨m, by omega, by rw [q]; exact e⟩
theorem Qhz (mask : Nat) (h : Int) : ∀ k, (pr mask h k).j<=mask/\(pr mask h k).j + (pr mask h k).more<=mask
 | 0 => by
  have hm : bits h % (mask + 1) < mask + 1 := Nat.mod_lt _ (Nat.succ_pos mask)
  have q : (st0 mask h).j = bits h % (mask + 1) := rfl
  have r : (st0 mask h).more = runEnd mask (bits h % (mask + 1)) - bits h % (mask + 1) := rfl
  show (st0 mask h).j<=mask/\(st0 mask h).j + (st0 mask h).more<=mask
  rw [q, r]
  generalize bits h % (mask + 1) = b at hm
  unfold runEnd; split <;> omega
 | k + 1 => by
  have ih := Qhz mask h k
  show (adv mask (pr mask h k)).j<=mask/\(adv mask (pr mask h k)).j + (adv mask (pr mask h k)).more<=mask
  unfold adv
  split
  ·show (pr mask h k).j + 1<=mask/\(pr mask h k).j + 1 + ((pr mask h k).more - 1)<=mask
   omega
  ·have hm : ((pr mask h k).i * 5 + 1 + (pr mask h k).perturb / 32) % (mask + 1) < mask + 1 := Nat.mod_lt _ (Nat.succ_pos mask)
   show (leap mask (pr mask h k).i (pr mask h k).perturb).1<=mask/\(leap mask (pr mask h k).i (pr mask h k).perturb).1 + (runEnd mask (leap mask (pr mask h k).i (pr mask h k).perturb).1 - (leap mask (pr mask h k).i (pr mask h k).perturb).1)<=mask
   have q : (leap mask (pr mask h k).i (pr mask h k).perturb).1<=mask := Nat.lt_succ_iff.mp hm
   generalize (leap mask (pr mask h k).i (pr mask h k).perturb).1 = i at q
   unfold runEnd; split <;> omega
def Ris (xs : Array Nat) : Prop := xs.toList.Pairwise (· < ·)
theorem Ris.at {xs : Array Nat} (h : Ris xs) {i j a b : Nat} (hi : xs[i]? = some a) (hj : xs[j]? = some b) (hij : i < j) : a < b := by
 obtain ⟨li, ei⟩ := Array.getElem?_eq_some_iff.mp hi
 obtain ⟨lj, ej⟩ := Array.getElem?_eq_some_iff.mp hj
 have := List.pairwise_iff_getElem.mp h i j (by simpa using li) (by simpa using lj) hij
 simpa [ei, ej] using this
theorem go_ok {xs : Array Nat} (hr : Ris xs) (j : Nat) : ∀ f lo hi, lo<=hi->hi<=xs.size->hi - lo<=f->(∀ k a, xs[k]? = some a->k < lo->a < j)->(∀ k a, xs[k]? = some a->hi<=k->j<=a) ->
  below.go xs j f lo hi<=xs.size/\(∀ k a, xs[k]? = some a->k < below.go xs j f lo hi->a < j)/\(∀ k a, xs[k]? = some a->below.go xs j f lo hi<=k->j<=a)
 | 0, lo, hi, h1, h2, hf, a, b => by
  have : lo = hi := by omega
  subst this; exact ⟨h2, a, b⟩
 | f + 1, lo, hi, h1, h2, hf, a, b => by
  unfold below.go
  by_cases q : lo < hi
  ·rw [if_pos q]
   have m1 : lo<=(lo + hi) / 2 := by omega
   have m2 : (lo + hi) / 2 < hi := by omega
   dsimp only
   generalize (lo + hi) / 2 = m at m1 m2
   have hm : m < xs.size := by omega
   have em : xs[m]? = some xs[m] := Array.getElem?_eq_getElem hm
   have eg : xs.getD m j = xs[m] := by simp [hm]
   rw [eg]
   by_cases c : xs[m] < j
   ·rw [if_pos c]
    refine go_ok hr j f (m + 1) hi (by omega) h2 (by omega) (fun k x hk hl => ?_) b
    by_cases e : k = m
    ·subst e; rw [em] at hk; cases hk; exact c
    ·exact Nat.lt_trans (hr.at hk em (by omega)) c
   ·rw [if_neg c]
    refine go_ok hr j f lo m m1 (by omega) (by omega) a fun k x hk hl => ?_
    by_cases e : k = m
    ·subst e; rw [em] at hk; cases hk; omega
    ·have := hr.at em hk (by omega); omega
  ·rw [if_neg q]
   have : lo = hi := by omega
   subst this; exact ⟨h2, a, b⟩
theorem QcX {xs : Array Nat} (hr : Ris xs) (j : Nat) : below xs j<=xs.size/\(∀ k a, xs[k]? = some a->k < below xs j->a < j)/\(∀ k a, xs[k]? = some a->below xs j<=k->j<=a) :=
 go_ok hr j _ 0 xs.size (Nat.zero_le _) (Qky _) (by omega) (fun k a _ h => absurd h (Nat.not_lt_zero _)) (fun k a h hk => by
  have := (Array.getElem?_eq_some_iff.mp h).1; omega)
theorem below_at {xs : Array Nat} (hr : Ris xs) {i j : Nat} (h : xs[i]? = some j) : below xs j = i := by
 obtain ⟨b1, b2, b3⟩ := QcX hr j
 by_cases q : i < below xs j
 ·exact absurd (b2 i j h q) (QkL _)
 ·by_cases r : below xs j < i
  ·have hb : below xs j < xs.size := by have := (Array.getElem?_eq_some_iff.mp h).1; omega
   have e := Array.getElem?_eq_getElem hb
   have := b3 _ _ e (Qky _)
   have := hr.at e h r
   omega
  ·omega
theorem Qih {t : SetTable} (hr : Ris t.place) {i j : Nat} (h : t.place[i]? = some j) : t.slot j = .live i := by
 unfold SetTable.slot
 dsimp only
 rw [below_at hr h, h]; simp
theorem Qjz (j : Nat) : has #[] j = false := rfl
theorem slot_out {t : SetTable} (hd : t.dummies = #[]) {j : Nat} (h : j ∉ t.place.toList) : t.slot j = .empty := by
 unfold SetTable.slot
 dsimp only
 rw [hd, Qjz]
 rw [if_neg, if_neg Qkr]
 intro z
 have z' : t.place[below t.place j]? = some j := by simpa using z
 exact h (Array.mem_toList_iff.mpr (Array.mem_of_getElem? z'))
theorem QiW {t : SetTable} {j : Nat} (h : j ∈ t.place.toList) : ∃ i : Nat, t.place[i]? = some j := by
 obtain ⟨i, hi, e⟩ := List.getElem_of_mem h
 exact ⟨i, by rw [<-Array.getElem?_toList, Qks hi, e]⟩
theorem look_ok {t : SetTable} (hr : Ris t.place) (hd : t.dummies = #[]) (hA : Nat->Int) (h : Int) (N : Nat) (hN : (pr t.mask h N).j ∉ t.place.toList) : ∀ f k, k<=N->N < k + f->(∀ m, k<=m->m < N->(pr t.mask h m).j ∈ t.place.toList) ->
  (∃ (m i : Nat), k<=m/\m < N/\t.place[i]? = some (pr t.mask h m).j/\hA i = h/\probe.go t hA h f (pr t.mask h k) = some (.candidate (pr t.mask h m).j i (pr t.mask h (m + 1)))/\∀ m', k<=m'->m' < m->∃ i' : Nat, t.place[i']? = some (pr t.mask h m').j/\hA i' ≠ h) ∨
  (probe.go t hA h f (pr t.mask h k) = some (.empty (pr t.mask h N).j none)/\∀ m', k<=m'->m' < N->∃ i' : Nat, t.place[i']? = some (pr t.mask h m').j/\hA i' ≠ h)
 | 0, k, h1, h2, _ => by omega
 | f + 1, k, h1, h2, hm => by
  by_cases e : k = N
  ·subst e
   refine .inr ⟨?_, fun m' a b => by omega⟩
   unfold probe.go
   rw [slot_out hd hN]
   dsimp only
   rw [Qef]
  ·obtain ⟨i, hi⟩ := QiW (hm k (Qky _) (by omega))
   have es : probe.go t hA h (f + 1) (pr t.mask h k) = if hA i == h then some (.candidate (pr t.mask h k).j i (pr t.mask h (k + 1))) else probe.go t hA h f (pr t.mask h (k + 1)) := by
    show (match t.slot (pr t.mask h k).j with | .empty => _ | .dummy => _ | .live i => _) = _
    rw [Qih hr hi]; rfl
   by_cases c : hA i = h
   ·refine .inl ⟨k, i, Qky _, by omega, hi, c, ?_, fun m' a b => by omega⟩
    rw [es, if_pos (by simp [c])]
   ·rw [es, if_neg (by simp [c])]
    rcases look_ok hr hd hA h N hN f (k + 1) (by omega) (by omega) (fun m a b => hm m (by omega) b) with ⟨m, i2, a1, a2, a3, a4, a5, a6⟩ | ⟨a1, a2⟩
    ·refine .inl ⟨m, i2, by omega, a2, a3, a4, a5, fun m' b1 b2 => ?_⟩
     by_cases q : m' = k
     ·subst q; exact ⟨i, hi, c⟩
     ·exact a6 m' (by omega) b2
    ·refine .inr ⟨a1, fun m' b1 b2 => ?_⟩
     by_cases q : m' = k
     ·subst q; exact ⟨i, hi, c⟩
     ·exact a2 m' (by omega) b2
theorem QdU {mask : Nat} (ok : okM mask) (h : Int) {S : List Nat} (hS : S.length<=mask) (nd : S.Nodup) : ∃ N, N < 10 * (mask + 15)/\(pr mask h N).j ∉ S/\∀ m, m < N->(pr mask h m).j ∈ S := by
 have ex : ∃ j, j<=mask/\j ∉ S := by
  refine Classical.byContradiction fun no => ?_
  have all : ∀ j, j ∈ List.range (mask + 1)->j ∈ S := fun j hj => Classical.byContradiction fun q => no ⟨j, by have := List.mem_range.mp hj; omega, q⟩
  have := List.Nodup.length_le_of_subset (List.nodup_range (n := mask + 1)) all
  rw [List.length_range] at this; omega
 obtain ⟨j, hj, hn⟩ := ex
 obtain ⟨m, hm, e⟩ := pr_cover ok h hj
 have ex2 : ∃ m, (pr mask h m).j ∉ S := ⟨m, by rw [e]; exact hn⟩
 have P : ∀ m0, (pr mask h m0).j ∉ S->∃ N, N<=m0/\(pr mask h N).j ∉ S/\∀ m, m < N->(pr mask h m).j ∈ S := by
  intro m0
  induction m0 using Nat.strongRecOn with
  | _ m0 ih =>
   intro hm0
   by_cases q : ∀ m, m < m0->(pr mask h m).j ∈ S
   ·exact ⟨m0, Qky _, hm0, q⟩
   ·obtain ⟨m1, q⟩ := Classical.not_forall.mp q
    obtain ⟨l1, q⟩ := Classical.not_imp.mp q
    obtain ⟨N, a, b, c⟩ := ih m1 l1 q
    exact ⟨N, by omega, b, c⟩
 obtain ⟨N, a, b, c⟩ := P m (by rw [e]; exact hn)
 exact ⟨N, by omega, b, c⟩
end ST
end L2
namespace L2
open PySem PySem.Spec PyProof.Rows
namespace ST
open PySem.SetTable
section
variable {α : Type}
structure Tab (hs : α->Int) (t : SetTable) (L : List (Nat × α)) : Prop where
 ok : okM t.mask
 dm : t.dummies = #[]
 pl : t.place = (L.map (·.1)).toArray
 ri : (L.map (·.1)).Pairwise (· < ·)
 rc : ∀ e ∈ L, ∃ n, (pr t.mask (hs e.2) n).j = e.1/\∀ m, m < n->(pr t.mask (hs e.2) m).j ∈ L.map (·.1)
theorem Tab.ris {hs : α->Int} {t : SetTable} {L : List (Nat × α)} (T : Tab hs t L) : Ris t.place := by unfold Ris; rw [T.pl]; exact T.ri
theorem Tab.nodup {hs : α->Int} {t : SetTable} {L : List (Nat × α)} (T : Tab hs t L) : (L.map (·.1)).Nodup := T.ri.imp fun h => QkF h
theorem Tab.pll {hs : α->Int} {t : SetTable} {L : List (Nat × α)} (T : Tab hs t L) : t.place.toList = L.map (·.1) := by rw [T.pl]
theorem Tab.fill {hs : α->Int} {t : SetTable} {L : List (Nat × α)} (T : Tab hs t L) : t.fill = L.length := by
 unfold SetTable.fill; rw [T.pl, T.dm]; simp
theorem Qdr {β : Type} (xs : Array β) (p : Nat) (x : β) : (insertAt xs p x).toList = xs.toList.take p ++ x :: xs.toList.drop p := by
 unfold insertAt
 simp
 exact List.take_of_length_le (by simp)
def ins (L : List (Nat × α)) (p j : Nat) (x : α) : List (Nat × α) := L.take p ++ (j, x) :: L.drop p
theorem Qjr {β : Type} (g : Nat × α->β) (L : List (Nat × α)) (p j : Nat) (x : α) : (ins L p j x).map g = (L.map g).take p ++ g (j, x) :: (L.map g).drop p := by
 unfold ins; rw [List.map_append, List.map_cons, List.map_take, List.map_drop]
theorem ins_perm (L : List (Nat × α)) (p j : Nat) (x : α) : (ins L p j x).Perm ((j, x) :: L) := by
 unfold ins
 refine List.perm_middle.trans ?_
 rw [List.take_append_drop]
theorem Qjs {β : Type} (g : Nat × α->β) (L : List (Nat × α)) (p j : Nat) (x : α) : insertAt (L.map g).toArray p (g (j, x)) = ((ins L p j x).map g).toArray := by
 apply Array.toList_inj.mp
 rw [Qdr, Qjr]
theorem Tab.put {hs : α->Int} {t t' : SetTable} {L : List (Nat × α)} (T : Tab hs t L) {x : α} {N : Nat} (hN : (pr t.mask (hs x) N).j ∉ L.map (·.1)) (hm : ∀ m, m < N->(pr t.mask (hs x) m).j ∈ L.map (·.1))
  (e1 : t'.mask = t.mask) (e2 : t'.dummies = (t.put (pr t.mask (hs x) N).j).1.dummies) (e3 : t'.place = (t.put (pr t.mask (hs x) N).j).1.place) : Tab hs t' (ins L (t.put (pr t.mask (hs x) N).j).2 (pr t.mask (hs x) N).j x) := by
 generalize ej : (pr t.mask (hs x) N).j = j at hN e2 e3 ⊢
 have ep : (t.put j).2 = below t.place j := rfl
 have epl : (t.put j).1.place = insertAt t.place (below t.place j) j := rfl
 have edm : (t.put j).1.dummies = if has t.dummies j then eraseAt t.dummies (below t.dummies j) else t.dummies := rfl
 rw [T.dm, Qjz, if_neg Qkr] at edm
 obtain ⟨b1, b2, b3⟩ := QcX T.ris j
 rw [ep]
 generalize below t.place j = p at epl b1 b2 b3
 have mem : ∀ y, y ∈ (ins L p j x).map (·.1) ↔ y = j\/y ∈ L.map (·.1) := fun y => by
  rw [((ins_perm L p j x).map _).mem_iff, List.map_cons, List.mem_cons]
 refine ⟨by rw [e1]; exact T.ok, by rw [e2, edm], ?_, ?_, ?_⟩
 ·rw [e3, epl, T.pl]; exact Qjs (·.1) L p j x
 ·rw [Qjr]
  have split : (L.map (·.1)) = (L.map (·.1)).take p ++ (L.map (·.1)).drop p := (List.take_append_drop _ _).symm
  have ri := T.ri
  rw [split, List.pairwise_append] at ri
  obtain ⟨r1, r2, r3⟩ := ri
  have lo : ∀ y ∈ (L.map (·.1)).take p, y < j := fun y hy => by
   obtain ⟨i, hi, e⟩ := List.getElem_of_mem hy
   have hi' : i < p := by rw [List.length_take] at hi; omega
   refine b2 i y ?_ hi'
   rw [List.getElem_take] at e
   rw [T.pl, List.getElem?_toArray, Qks (by rw [List.length_take] at hi; omega), e]
  have hi : ∀ y ∈ (L.map (·.1)).drop p, j < y := fun y hy => by
   obtain ⟨i, hi, e⟩ := List.getElem_of_mem hy
   rw [List.getElem_drop] at e
   have q : j<=y := b3 (p + i) y (by rw [T.pl, List.getElem?_toArray, Qks (by rw [List.length_drop] at hi; omega), e]) (by omega)
   have ne : y ≠ j := fun z => hN (z ▸ List.mem_of_mem_drop hy)
   omega
  rw [List.pairwise_append]
  refine ⟨r1, List.pairwise_cons.mpr ⟨hi, r2⟩, fun a ha b hb => ?_⟩
  rcases List.mem_cons.mp hb with e | hb
  ·rw [e]; exact lo a ha
  ·exact r3 a ha b hb
 ·intro e he
  rw [e1]
  rcases List.mem_cons.mp ((ins_perm L p j x).mem_iff.mp he) with z | he
  ·subst z
   exact ⟨N, ej, fun m h => (mem _).mpr (.inr (hm m h))⟩
  ·obtain ⟨n, h1, h2⟩ := T.rc e he
   exact ⟨n, h1, fun m h => (mem _).mpr (.inr (h2 m h))⟩
def bk (mask : Nat) (h : Int) : Nat->Nat
 | 0 => 0
 | k + 1 => bk mask h k + (runEnd mask (lp mask h k).1 - (lp mask h k).1) + 1
theorem bk_at (mask : Nat) (h : Int) : ∀ k, pr mask h (bk mask h k) = atL mask (lp mask h k)
 | 0 => rfl
 | k + 1 => Qiz mask h _ _ (bk_at mask h k)
theorem Qke (mask : Nat) (h : Int) (a : Nat) : ∀ d, bk mask h a<=bk mask h (a + d)
 | 0 => Qky _
 | d + 1 => QkI (Qke mask h a d) (by show _<=bk mask h (a + d) + _ + 1; omega)
theorem Qit (mask i : Nat) : i<=runEnd mask i := by unfold runEnd; split <;> omega
theorem QjA {mask : Nat} {owner : Array (Option Nat)} {S : List Nat} (hO : ∀ j, j<=mask->((owner.getD j (some 0)).isNone = true ↔ j ∉ S)) (h : Int) {N : Nat} (hN : (pr mask h N).j ∉ S) (hm : ∀ m, m < N->(pr mask h m).j ∈ S) :
  ∀ f k, bk mask h k<=N->N<=bk mask h (k + f)->layClean.free mask owner (f + 1) (lp mask h k).1 (lp mask h k).2 = some (pr mask h N).j
 | f, k, h1, h2 => by
  have at_ : ∀ d, d<=runEnd mask (lp mask h k).1 - (lp mask h k).1->(pr mask h (bk mask h k + d)).j = (lp mask h k).1 + d := fun d hd => by rw [QfN mask h _ _ (bk_at mask h k) d hd]
  have ge := Qit mask (lp mask h k).1
  unfold layClean.free
  by_cases q : N<=bk mask h k + (runEnd mask (lp mask h k).1 - (lp mask h k).1)
  ·have e : (List.range (runEnd mask (lp mask h k).1 + 1 - (lp mask h k).1)).find? (fun d => (owner.getD ((lp mask h k).1 + d) (some 0)).isNone) = some (N - bk mask h k) := by
    rw [List.find?_range_eq_some]
    have eN := at_ (N - bk mask h k) (by omega)
    rw [show bk mask h k + (N - bk mask h k) = N by omega] at eN
    refine ⟨?_, List.mem_range.mpr (by omega), fun d hd => ?_⟩
    ·rw [<-eN, hO _ (Qhz mask h N).1]; exact hN
    ·have ed := at_ d (by omega)
     have := hm (bk mask h k + d) (by omega)
     rw [ed] at this
     cases c : (owner.getD ((lp mask h k).1 + d) (some 0)).isNone with
     | false => rfl
     | true => exact absurd this ((hO _ (by rw [<-ed]; exact (Qhz mask h _).1)).mp c)
   rw [e]
   have eN := at_ (N - bk mask h k) (by omega)
   rw [show bk mask h k + (N - bk mask h k) = N by omega] at eN
   dsimp only
   rw [eN]
  ·have e : (List.range (runEnd mask (lp mask h k).1 + 1 - (lp mask h k).1)).find? (fun d => (owner.getD ((lp mask h k).1 + d) (some 0)).isNone) = none := by
    rw [List.find?_eq_none]
    intro d hd
    have hd' := List.mem_range.mp hd
    have ed := at_ d (by omega)
    have := hm (bk mask h k + d) (by omega)
    rw [ed] at this
    intro c
    exact absurd this ((hO _ (by rw [<-ed]; exact (Qhz mask h _).1)).mp c)
   rw [e]
   dsimp only
   cases f with
   | zero => have : bk mask h (k + 0) = bk mask h k := rfl; omega
   | succ f =>
    have := QjA hO h hN hm f (k + 1) (by show bk mask h k + _ + 1<=N; omega) (by rw [show k + 1 + f = k + (f + 1) by omega]; exact h2)
    exact this
structure Own (mask : Nat) (owner : Array (Option Nat)) (sl : List Nat) : Prop where
 sz : owner.size = mask + 1
 nd : sl.Nodup
 has : ∀ i j : Nat, sl[i]? = some j->owner[j]? = some (some i)
 no : ∀ j, j<=mask->j ∉ sl->owner[j]? = some none
theorem Own.free {mask : Nat} {owner : Array (Option Nat)} {sl : List Nat} (O : Own mask owner sl) (j : Nat) (hj : j<=mask) : (owner.getD j (some 0)).isNone = true ↔ j ∉ sl := by
 rw [Array.getD_eq_getD_getElem?]
 by_cases q : j ∈ sl
 ·obtain ⟨i, hi, e⟩ := List.getElem_of_mem q
  rw [O.has i j (by rw [Qks hi, e])]
  simp [q]
 ·rw [O.no j hj q]; simp [q]
abbrev Qcn (mask : Nat) : Option (Array (Option Nat) × Nat)->Int->Option (Array (Option Nat) × Nat) := fun acc h => do
  let (owner, k) <-acc
  let j <-layClean.free mask owner (turns mask) (bits h % (mask + 1)) (bits h)
  pure (owner.setIfInBounds j (some k), k + 1)
def Rch (mask : Nat) (hl : List Int) (sl : List Nat) : Prop := ∀ (i j : Nat) (h : Int), sl[i]? = some j->hl[i]? = some h->∃ n, (pr mask h n).j = j/\∀ m, m < n->(pr mask h m).j ∈ sl
theorem Qhd {mask : Nat} (ok : okM mask) : ∀ (rest done : List Int) (owner : Array (Option Nat)) (sl : List Nat), sl.length = done.length->done.length + rest.length<=mask->Own mask owner sl->Rch mask done sl ->
  ∃ owner' sl', rest.foldl (Qcn mask) (some (owner, sl.length)) = some (owner', sl'.length)/\sl'.length = (done ++ rest).length/\Own mask owner' sl'/\Rch mask (done ++ rest) sl'
 | [], done, owner, sl, hl, _, O, R => ⟨owner, sl, rfl, by rw [List.append_nil]; exact hl, O, by rw [List.append_nil]; exact R⟩
 | h :: rest, done, owner, sl, hl, hb, O, R => by
  rw [QkH] at hb
  obtain ⟨N, nb, hN, hm⟩ := QdU ok h (S := sl) (by omega) O.nd
  have nle : N<=bk mask h (mask + 14) := by
   have ex : ∃ j, j<=mask/\j ∉ sl := ⟨(pr mask h N).j, (Qhz mask h N).1, hN⟩
   obtain ⟨j, hj, hn⟩ := ex
   obtain ⟨k, hk, e⟩ := QgS ok h hj
   have q : (pr mask h (bk mask h k)).j ∉ sl := by rw [bk_at]; show (lp mask h k).1 ∉ sl; rw [e]; exact hn
   have : N<=bk mask h k := Classical.byContradiction fun z => q (hm _ (by omega))
   have mo := Qke mask h k (mask + 14 - k)
   rw [show k + (mask + 14 - k) = mask + 14 by omega] at mo
   omega
  have fr := QjA O.free h hN hm (mask + 14) 0 (Nat.zero_le _) (by rw [Nat.zero_add]; exact nle)
  have jle := (Qhz mask h N).1
  generalize ej : (pr mask h N).j = j at hN fr jle
  have step : Qcn mask (some (owner, sl.length)) h = some (owner.setIfInBounds j (some sl.length), sl.length + 1) := by
   show (do let j <-layClean.free mask owner (mask + 14 + 1) (lp mask h 0).1 (lp mask h 0).2; pure (owner.setIfInBounds j (some sl.length), sl.length + 1)) = _
   rw [fr]; rfl
  have ln : (sl ++ [j]).length = sl.length + 1 := by simp
  obtain ⟨o', sl', a, b, c, d⟩ := Qhd ok rest (done ++ [h]) (owner.setIfInBounds j (some sl.length)) (sl ++ [j]) (by simp [hl]) (by simp; omega)
   ⟨by simp [O.sz], by
    rw [List.nodup_append]
    exact ⟨O.nd, by simp, fun a ha b hb z => by rw [List.mem_singleton.mp hb] at z; exact hN (z ▸ ha)⟩, fun i y hy => by
    rw [Array.getElem?_setIfInBounds]
    by_cases hi : i < sl.length
    ·rw [List.getElem?_append_left hi] at hy
     have ne : j ≠ y := fun z => hN (z ▸ List.mem_of_getElem? hy)
     rw [if_neg ne]; exact O.has i y hy
    ·rw [List.getElem?_append_right (by omega)] at hy
     have e0 : i - sl.length = 0 := by
      have := (List.getElem?_eq_some_iff.mp hy).1
      simp at this; omega
     rw [e0] at hy
     have ey : j = y := by simpa using hy
     have ei : i = sl.length := by omega
     subst ey; subst ei
     rw [if_pos rfl, if_pos (by rw [O.sz]; omega)], fun y hy hn => by
    rw [Array.getElem?_setIfInBounds]
    have ne : j ≠ y := fun z => hn (by rw [z]; simp)
    rw [if_neg ne]
    exact O.no y hy fun z => hn (List.mem_append_left _ z)⟩
   (fun i y g hy hg => by
    by_cases hi : i < sl.length
    ·rw [List.getElem?_append_left hi] at hy
     rw [List.getElem?_append_left (by omega)] at hg
     obtain ⟨n, e1, e2⟩ := R i y g hy hg
     exact ⟨n, e1, fun m hm => List.mem_append_left _ (e2 m hm)⟩
    ·rw [List.getElem?_append_right (by omega)] at hy
     rw [List.getElem?_append_right (by omega)] at hg
     have e0 : i - sl.length = 0 := by
      have := (List.getElem?_eq_some_iff.mp hy).1
      simp at this; omega
     rw [e0] at hy
     rw [show i - done.length = 0 by omega] at hg
     have ey : j = y := by simpa using hy
     have eg : h = g := by simpa using hg
     subst ey; subst eg
     exact ⟨N, ej, fun m hm' => List.mem_append_left _ (hm m hm')⟩)
  refine ⟨o', sl', ?_, ?_, c, ?_⟩
  ·rw [List.foldl_cons, step, <-ln]; exact a
  ·rw [b]; simp
  ·have ea : done ++ [h] ++ rest = done ++ h :: rest := by simp
   rw [ea] at d; exact d
theorem QfZ {mask : Nat} (ok : okM mask) (hl : List Int) (hb : hl.length<=mask) : ∃ owner sl, layClean mask hl.toArray = some owner/\sl.length = hl.length/\Own mask owner sl/\Rch mask hl sl := by
 obtain ⟨o, sl, a, b, c, d⟩ := Qhd ok hl [] (Array.replicate (mask + 1) none) [] rfl (by simpa using hb) ⟨by simp, .nil, fun i j h => by simp at h, fun j hj _ => by
  rw [Array.getElem?_replicate, if_pos (by omega)]⟩ (fun i j h hi => by simp at hi)
 refine ⟨o, sl, ?_, by simpa using b, c, by simpa using d⟩
 unfold layClean
 have e : (List.foldl (Qcn mask) (some (Array.replicate (mask + 1) none, 0)) hl).map (·.1) = some o := by
  have a' : List.foldl (Qcn mask) (some (Array.replicate (mask + 1) none, 0)) hl = some (o, sl.length) := a
  rw [a']; rfl
 rw [<-e, <-List.foldl_toArray]
theorem laid_ok {hs : α->Int} {L : List (Nat × α)} {mask : Nat} (ok : okM mask) (hb : L.length<=mask) (fi mv : Nat) (led pl : Bool) :
  ∃ t order L', laid mask fi mv led pl (L.map fun e => hs e.2).toArray = some (t, order)/\t.mask = mask/\t.led = led/\t.moves = mv/\Tab hs t L'/\(L'.map (·.2)).Perm (L.map (·.2)) /\
   ∀ {β : Type} (g : α->β), order.filterMap ((L.map fun e => g e.2).toArray[·]?) = (L'.map fun e => g e.2).toArray := by
 obtain ⟨owner, sl, e1, e2, O, R⟩ := QfZ ok (L.map fun e => hs e.2) (by simpa using hb)
 rw [Qkz] at e2
 have od : ∀ j : Nat, owner.getD j none = (owner[j]?).getD none := fun j => Array.getD_eq_getD_getElem? ..
 let f : Nat->Option (Nat × Nat) := fun j => (owner.getD j none).map (j, ·)
 let live := (List.range (mask + 1)).filterMap f
 have lm : ∀ j k : Nat, f j = some (j, k) ↔ sl[k]? = some j := fun j k => by
  show (owner.getD j none).map (j, ·) = some (j, k) ↔ _
  rw [od]
  constructor
  ·intro h
   by_cases q : j ∈ sl
   ·obtain ⟨i, hi, e⟩ := List.getElem_of_mem q
    have ei : sl[i]? = some j := by rw [Qks hi, e]
    rw [O.has i j ei] at h
    have : i = k := by simpa using h
    rw [<-this]; exact ei
   ·by_cases hj : j<=mask
    ·rw [O.no j hj q] at h; simp at h
    ·rw [Array.getElem?_eq_none (by rw [O.sz]; omega)] at h; simp at h
  ·intro h; rw [O.has k j h]; rfl
 have ff : ∀ j q, f j = some q->q.1 = j := fun j q h => by
  have h' : (owner.getD j none).map (j, ·) = some q := h
  cases c : owner.getD j none with
  | none => rw [c] at h'; cases h'
  | some k => rw [c] at h'; cases h'; rfl
 have mem : ∀ j k, (j, k) ∈ live ↔ sl[k]? = some j := fun j k => by
  show (j, k) ∈ (List.range (mask + 1)).filterMap f ↔ _
  rw [List.mem_filterMap]
  constructor
  ·rintro ⟨a, _, h⟩
   have := ff a _ h
   have ea : j = a := this
   subst ea
   exact (lm j k).mp h
  ·intro h
   refine ⟨j, List.mem_range.mpr ?_, (lm j k).mpr h⟩
   have := O.has k j h
   have := (Array.getElem?_eq_some_iff.mp this).1
   rw [O.sz] at this; exact this
 have klt : ∀ q ∈ live, q.2 < L.length := fun q hq => by
  have := (mem q.1 q.2).mp hq
  have := (List.getElem?_eq_some_iff.mp this).1
  omega
 have ri : live.Pairwise fun a b => a.1 < b.1 := by
  show ((List.range (mask + 1)).filterMap f).Pairwise _
  rw [List.pairwise_filterMap]
  refine List.Pairwise.imp (fun {a b} h x hx y hy => ?_) List.pairwise_lt_range
  rw [ff a x hx, ff b y hy]; exact h
 have nd : (live.map (·.2)).Nodup := by
  unfold List.Nodup
  rw [List.pairwise_map]
  refine List.Pairwise.imp_of_mem (fun {a b} ha hb h e => ?_) ri
  have a1 := (mem a.1 a.2).mp ha
  have b1 := (mem b.1 b.2).mp hb
  rw [e, b1] at a1
  have := Option.some.inj a1
  omega
 have pm : (live.map (·.2)).Perm (List.range L.length) := by
  rw [List.perm_ext_iff_of_nodup nd List.nodup_range]
  intro k
  rw [List.mem_map, List.mem_range]
  constructor
  ·rintro ⟨q, hq, rfl⟩; exact klt q hq
  ·intro hk
   have hk' : k < sl.length := by omega
   exact ⟨(sl[k], k), (mem _ _).mpr (Qks hk'), rfl⟩
 let pick : Nat × Nat->Option (Nat × α) := fun q => (L[q.2]?).map fun e => (q.1, e.2)
 have pk : ∀ q ∈ live, ∃ e, L[q.2]? = some e/\pick q = some (q.1, e.2) := fun q hq => by
  have h := Qks (klt q hq)
  exact ⟨_, h, by show (L[q.2]?).map _ = _; rw [h]; rfl⟩
 have fst : ∀ l : List (Nat × Nat), (∀ q ∈ l, ∃ e, L[q.2]? = some e/\pick q = some (q.1, e.2))->(l.filterMap pick).map (·.1) = l.map (·.1) := by
  intro l
  induction l with
  | nil => intro _; rfl
  | cons q l ih =>
   intro h
   obtain ⟨e, _, he⟩ := h q Qkv
   rw [List.filterMap_cons, he, List.map_cons, List.map_cons, ih fun q hq => h q (QkA _ hq)]
 have snd : ∀ {β : Type} (g : α->β) (l : List (Nat × Nat)), (∀ q ∈ l, ∃ e, L[q.2]? = some e/\pick q = some (q.1, e.2))->(l.filterMap pick).map (fun e => g e.2) = (l.map (·.2)).filterMap fun k => (L.map fun e => g e.2)[k]? := by
  intro β g l
  induction l with
  | nil => intro _; rfl
  | cons q l ih =>
   intro h
   obtain ⟨e, h1, he⟩ := h q Qkv
   have h2 : (L.map fun e => g e.2)[q.2]? = some (g e.2) := by rw [QkG, h1]; rfl
   rw [List.filterMap_cons, he, List.map_cons, List.map_cons, List.filterMap_cons, h2, ih fun q hq => h q (QkA _ hq)]
 refine ⟨{ mask, place := (live.map (·.1)).toArray, dummies := #[], finger := fi, led, moves := mv, plain := pl }, (live.map (·.2)).toArray, live.filterMap pick, ?_, rfl, rfl, rfl, ⟨ok, rfl, ?_, ?_, ?_⟩, ?_, ?_⟩
 ·unfold laid
  rw [e1]; rfl
 ·show (live.map (·.1)).toArray = _; rw [fst live pk]
 ·rw [fst live pk, List.pairwise_map]; exact ri
 ·intro e he
  rw [fst live pk]
  obtain ⟨q, hq, hp⟩ := List.mem_filterMap.mp he
  obtain ⟨e0, h0, hp'⟩ := pk q hq
  rw [hp'] at hp
  have ee : (q.1, e0.2) = e := Option.some.inj hp
  subst ee
  obtain ⟨n, h1, h2⟩ := R q.2 q.1 (hs e0.2) ((mem _ _).mp hq) (by rw [QkG, h0]; rfl)
  refine ⟨n, h1, fun m hm => ?_⟩
  obtain ⟨i, hi, ei⟩ := List.getElem_of_mem (h2 m hm)
  exact List.mem_map.mpr ⟨(_, i), (mem _ i).mpr (by rw [Qks hi, ei]), rfl⟩
 ·have s := snd (fun x => x) live pk
  have p2 := pm.filterMap fun k => (L.map fun e => e.2)[k]?
  have id' : (List.range L.length).filterMap (fun k => (L.map fun e => e.2)[k]?) = L.map (·.2) := by
   have gen : ∀ (l : List α), (List.range l.length).filterMap (fun k => l[k]?) = l := by
    intro l
    induction l with
    | nil => rfl
    | cons x l ih =>
     rw [QkH, List.range_succ_eq_map, List.filterMap_cons]
     show x :: ((List.range l.length).map Nat.succ).filterMap (fun k => (x :: l)[k]?) = x :: l
     rw [List.filterMap_map]
     have e : ((fun k => (x :: l)[k]?) ∘ Nat.succ) = fun k => l[k]? := by funext k; show (x :: l)[k + 1]? = _; exact List.getElem?_cons_succ
     rw [e, ih]
   have := gen (L.map (·.2))
   rwa [Qkz] at this
  rw [id'] at p2
  rw [s]; exact p2
 ·intro β g
  apply Array.toList_inj.mp
  rw [Array.toList_filterMap, snd g live pk]
  have e : (fun k : Nat => (L.map fun e => g e.2).toArray[k]?) = fun k : Nat => (L.map fun e => g e.2)[k]? := by funext k; rw [List.getElem?_toArray]
  rw [e]
end
end ST
end L2
namespace L2
open PySem PySem.Spec PyProof.Rows
namespace ST
open PySem.SetTable
section
variable {P : Program} {w : World} {A : Around} {E : Value->Shared->Prop} {s : Shared}
abbrev tk (P : Program) (w : World) : HeapKind P w (List Key) := tupleKind (QaA P w)
abbrev El := List Key × Addr
def hsh (P : Program) (w : World) (e : El) : Int := (tk P w).hash e.1
structure SetL (P : Program) (w : World) (h : Heap) (a : Addr) (L : List (Nat × El)) (o : Obj) (es : Array (Int × Value)) (ep : Nat) (t : SetTable) : Prop where
 ho : h.get? a = some o
 ex : o.ExactSet
 da : o.data = .set es ep t
 en : es = (L.map fun e => (hsh P w e.2, Value.ref e.2.2)).toArray
 tb : Tab (hsh P w) t L
 led : t.led = !w.params.followText "set-order"
 nd : (L.map fun e => e.2.1).Nodup
 is : ∀ e ∈ L, (tk P w).is h e.2.1 e.2.2
variable {a : Addr} {L : List (Nat × El)} {o : Obj} {es : Array (Int × Value)} {ep : Nat} {t : SetTable}
theorem SetL.size (S : SetL P w s.heap a L o es ep t) : es.size = L.length := by rw [S.en]; simp
theorem SetL.fits (S : SetL P w s.heap a L o es ep t) (hl : L.length<=t.mask) : t.fits es.size = true := by
 unfold SetTable.fits
 rw [S.tb.fill, S.size, S.tb.pl]; simp [hl]
theorem SetL.odd (S : SetL P w s.heap a L o es ep t) : t.gaveWay = false := by
 unfold SetTable.gaveWay
 rcases S.tb.ok with h | h | h <;> rw [h] <;> rfl
theorem SetL.at (S : SetL P w s.heap a L o es ep t) {i j : Nat} (h : t.place[i]? = some j) : ∃ e, L[i]? = some e/\e.1 = j/\es[i]? = some (hsh P w e.2, Value.ref e.2.2) := by
 rw [S.tb.pl, List.getElem?_toArray, QkG] at h
 cases q : L[i]? with
 | none => rw [q] at h; cases h
 | some e => rw [q] at h; exact ⟨e, rfl, Option.some.inj h, by rw [S.en, List.getElem?_toArray, QkG, q]; rfl⟩
theorem Qhe {ks : List Key} {b : Addr} {Q : Bool->Shared->Prop} (hk : (tk P w).is s.heap ks b) (h : Q false s) : wpAny (model P w) A (ofAClassStatement 8 (.ref b)) Q E s := by
 have hk' : IsTupleKey (QaA P w) s.heap ks b := hk
 have hT := hk'.typeIs
 obtain ⟨o, items, n, ho, _, hd, hi⟩ := hk'
 unfold ofAClassStatement
 refine wpAny_bind (wpAny_typeOf hT ?_)
 dsimp only
 rw [if_pos (by decide)]
 refine wpAny_bind (wpAny_pure ?_)
 rw [if_neg (by decide)]
 refine wpAny_bind (wpAny_seqItems ho hd ?_)
 dsimp only
 refine wpAny_bind ?_
 rw [<-Array.forIn_toList]
 refine wpAny_forIn_list _ (fun rest r s' => r.1 = none/\s' = s/\∀ v ∈ rest, carriedByValue v = true) _ ?_ ?_ _ _ ⟨rfl, rfl, hi.byValue⟩
 ·rintro v rest r s' ⟨hr, rfl, hall⟩
  have ev : ofAClassStatement 7 v = pure false := by
   have := hall v Qkv
   cases v <;> first | (cases this; done) | rfl
  rw [ev]
  refine wpAny_bind (wpAny_pure ?_)
  rw [if_neg (by decide)]
  exact wpAny_pure ⟨rfl, rfl, fun u hu' => hall u (QkA _ hu')⟩
 ·rintro ⟨r1, r2⟩ s' ⟨hr, rfl, _⟩
  simp only at hr
  subst hr
  exact wpAny_pure h
theorem seen_ok {ks : List Key} {b : Addr} {l : List Value} {Q : Bool->Shared->Prop} (hk : (tk P w).is s.heap ks b) (hl : ∀ y ∈ l, ∃ k c, y = Value.ref c/\(tk P w).is s.heap k c) (h : Q false s) : wpAny (model P w) A (searchCouldBeSeen (.ref b) l) Q E s := by
 unfold searchCouldBeSeen
 refine wpAny_bind ?_
 refine wpAny_forIn_list _ (fun rest r s' => r.1 = none/\s' = s/\∀ y ∈ rest, ∃ k c, y = Value.ref c/\(tk P w).is s.heap k c) _ ?_ ?_ _ _ ⟨rfl, rfl, hl⟩
 ·rintro v rest r s' ⟨hr, rfl, hall⟩
  obtain ⟨k, c, rfl, hc⟩ := hall v Qkv
  have nx : ∀ u ∈ rest, ∃ k c, u = Value.ref c/\(tk P w).is s'.heap k c := fun u hu => hall u (QkA _ hu)
  dsimp only
  refine wpAny_ite_split (fun _ => wpAny_pure ⟨rfl, rfl, nx⟩) fun _ => ?_
  refine wpAny_bind ((tk P w).quiet hk ?_)
  rw [if_neg (by decide)]
  refine wpAny_bind ((tk P w).quiet hc ?_)
  rw [if_neg (by decide)]
  refine wpAny_bind (Qhe hk ?_)
  rw [if_neg (by decide)]
  refine wpAny_bind (Qhe hc ?_)
  rw [if_neg (by decide)]
  exact wpAny_pure ⟨rfl, rfl, nx⟩
 ·rintro ⟨r1, r2⟩ s' ⟨hr, rfl, _⟩
  simp only at hr
  subst hr
  exact wpAny_pure h
theorem QeO {x : List Key} {b : Addr} (S : SetL P w s.heap a L o es ep t) (hl : L.length<=t.mask) (hu : (tk P w).room A) (hx : (tk P w).is s.heap x b) {N : Nat} (hb : N < 10 * (t.mask + 15))
  (hN : (pr t.mask (hsh P w (x, b)) N).j ∉ L.map (·.1)) (hm : ∀ m, m < N->(pr t.mask (hsh P w (x, b)) m).j ∈ L.map (·.1)) {Q : SetFound->Shared->Prop}
  (q1 : (∃ e ∈ L, e.2.1 = x)->Q (.there none) s) (q2 : (∀ e ∈ L, e.2.1 ≠ x)->Q (.free (pr t.mask (hsh P w (x, b)) N).j false) s) :
  ∀ f k (st : Option Probe), st.getD (t.probeStart (hsh P w (x, b))) = pr t.mask (hsh P w (x, b)) k->k<=N->N < k + f->(∀ e ∈ L, e.2.1 = x->∃ n, k<=n/\n < N/\(pr t.mask (hsh P w (x, b)) n).j = e.1) ->
   wpAny (model P w) A (setSearchFrom a (.ref b) (hsh P w (x, b)) true f st) Q E s
 | 0, k, _, _, h1, h2, _ => by omega
 | f + 1, k, st, est, h1, h2, hk => by
  have hf := S.fits hl
  unfold setSearchFrom
  refine wpAny_bind (wpAny_setState_of S.ho S.da hf ?_)
  dsimp only
  rw [S.odd, if_neg Qkr, est]
  have hpl : ∀ j, j ∈ t.place.toList ↔ j ∈ L.map (·.1) := fun j => by rw [S.tb.pll]
  have lk : ∀ (hA : Nat->Int) (met : Option Met), (∀ i e, es[i]? = some e->hA i = e.1)->probe.go t hA (hsh P w (x, b)) (10 * turns t.mask) (pr t.mask (hsh P w (x, b)) k) = met ->
    (∃ (m i : Nat) (e : Nat × El), k<=m/\m < N/\L[i]? = some e/\e.1 = (pr t.mask (hsh P w (x, b)) m).j/\es[i]? = some (hsh P w e.2, Value.ref e.2.2)/\t.slot e.1 = .live i/\met = some (.candidate e.1 i (pr t.mask (hsh P w (x, b)) (m + 1))) /\
     (e.2.1 ≠ x->∀ e' ∈ L, e'.2.1 = x->∃ n, m + 1<=n/\n < N/\(pr t.mask (hsh P w (x, b)) n).j = e'.1)) ∨
    (met = some (.empty (pr t.mask (hsh P w (x, b)) N).j none)/\∀ e ∈ L, e.2.1 ≠ x) := by
   intro hA met hh he
   have lo : ∀ e' ∈ L, e'.2.1 = x->∀ n, (pr t.mask (hsh P w (x, b)) n).j = e'.1->(∃ i' : Nat, t.place[i']? = some (pr t.mask (hsh P w (x, b)) n).j/\hA i' ≠ hsh P w (x, b))->False := by
    intro e' me ex n en ⟨i', hi', hne⟩
    obtain ⟨e2, g1, g2, g3⟩ := S.at hi'
    have : e2 = e' := by
     have nd := S.tb.nodup
     obtain ⟨i2, hi2, ei2⟩ := List.getElem_of_mem me
     have l1 : i' < L.length := (List.getElem?_eq_some_iff.mp g1).1
     have q : i' = i2 := (List.getElem?_inj (by rw [Qkz]; exact l1) nd).mp (by rw [QkG, QkG, g1, Qks hi2, ei2]; show some e2.1 = some e'.1; rw [g2, en])
     subst q
     rw [Qks hi2, ei2] at g1
     exact (Option.some.inj g1).symm
    subst this
    refine hne ?_
    rw [hh i' _ g3]
    show hsh P w e2.2 = hsh P w (x, b)
    unfold hsh; rw [ex]
   rcases look_ok (t := t) S.tb.ris S.tb.dm hA (hsh P w (x, b)) N (fun z => hN ((hpl _).mp z)) (10 * turns t.mask) k h1 (by show N < k + 10 * (t.mask + 15); omega) (fun m _ hm' => (hpl _).mpr (hm m hm')) with ⟨m, i, a1, a2, a3, a4, a5, a6⟩ | ⟨a1, a2⟩
   ·obtain ⟨e, g1, g2, g3⟩ := S.at a3
    refine .inl ⟨m, i, e, a1, a2, g1, g2, g3, by rw [g2]; exact Qih S.tb.ris a3, by rw [<-he, a5, g2], fun hne e' me ex => ?_⟩
    obtain ⟨n, n1, n2, n3⟩ := hk e' me ex
    refine ⟨n, ?_, n2, n3⟩
    refine Classical.byContradiction fun q => ?_
    by_cases z : n = m
    ·subst z
     have nd := S.tb.nodup
     obtain ⟨i2, hi2, ei2⟩ := List.getElem_of_mem me
     have l1 : i < L.length := (List.getElem?_eq_some_iff.mp g1).1
     have q : i = i2 := (List.getElem?_inj (by rw [Qkz]; exact l1) nd).mp (by rw [QkG, QkG, g1, Qks hi2, ei2]; show some e.1 = some e'.1; rw [g2, n3])
     subst q
     rw [Qks hi2, ei2] at g1
     rw [<-Option.some.inj g1] at hne
     exact hne ex
    ·exact lo e' me ex n n3 (a6 n n1 (by omega))
   ·refine .inr ⟨by rw [<-he, a1], fun e me ex => ?_⟩
    obtain ⟨n, n1, n2, n3⟩ := hk e me ex
    exact lo e me ex n n3 (a2 n n1 n2)
  unfold SetTable.probe
  generalize hq : probe.go t _ (hsh P w (x, b)) (10 * turns t.mask) (pr t.mask (hsh P w (x, b)) k) = met
  have r := lk _ met (fun i e he => by show (es[i]?.map (·.1)).getD 0 = e.1; rw [he]; rfl) hq
  clear hq lk
  rcases r with ⟨m, i, e, a1, a2, g1, g2, g3, g4, rfl, nx⟩ | ⟨rfl, no⟩
  ·dsimp only
   have me : e ∈ L := List.mem_of_getElem? g1
   have go : wpAny (model P w) A (do
     let equal <-holding [Value.ref e.2.2] (eqBool (Value.ref e.2.2) (Value.ref b))
     let (es', _, t') <-setState a
     if true && equal then return SetFound.there none
     let some same := t'.sameMemory t.moves t.mask | unsupported "set.changed-during-lookup:is-the-new-block-at-the-old-address"
     let still <-match (if same then t'.slot e.1 else .empty) with
      | .live i' => match es'[i']? with
       | some (_, y') => do pure (if <-isSame y' (Value.ref e.2.2) then some i' else none)
       | none => pure none
      | _ => pure none
     match still with
     | none => rule "set.search.anew"; setSearchFrom a (.ref b) (hsh P w (x, b)) true f none
     | some i' => if equal then return .there (some i') else setSearchFrom a (.ref b) (hsh P w (x, b)) true f (some (pr t.mask (hsh P w (x, b)) (m + 1)))) Q E s := by
    refine wpAny_bind (wpAny_holding ((tk P w).eqBool hu (S.is e me) hx ?_))
    refine wpAny_bind (wpAny_setState_of S.ho S.da hf ?_)
    dsimp only
    by_cases ex : e.2.1 = x
    ·rw [decide_eq_true ex]
     rw [if_pos (by decide)]
     exact wpAny_pure (q1 ⟨e, me, ex⟩)
    ·rw [decide_eq_false ex, if_neg (by decide)]
     have sm : t.sameMemory t.moves t.mask = some true := by unfold SetTable.sameMemory; simp
     rw [sm]
     dsimp only
     rw [if_pos rfl, g4]
     dsimp only
     rw [g3]
     dsimp only
     refine wpAny_bind (wpAny_isSame_ref_self ?_)
     refine wpAny_bind (wpAny_pure ?_)
     rw [if_pos rfl]
     dsimp only
     rw [if_neg Qkr]
     exact QeO S hl hu hx hb hN hm q1 q2 f (m + 1) _ rfl (by omega) (by omega) (nx ex)
   rw [g3]
   cases hled : t.led with
   | true =>
    rw [if_neg (by decide)]
    exact go
   | false =>
    rw [if_pos (by decide)]
    refine wpAny_bind (seen_ok hx (fun y hy => ?_) ?_)
    ·obtain ⟨p, hp, rfl⟩ := List.mem_map.mp hy
     rw [Array.toList_filter, List.mem_filter, S.en] at hp
     obtain ⟨e0, h0, rfl⟩ := List.mem_map.mp hp.1
     exact ⟨_, _, rfl, S.is e0 h0⟩
    ·rw [if_neg (by decide)]
     exact go
  ·exact wpAny_pure (q2 no)
end
end ST
end L2
namespace L2
open PySem PySem.Spec PyProof.Rows
namespace ST
open PySem.SetTable
section
variable {P : Program} {w : World} {A : Around} {E : Value->Shared->Prop} {s : Shared}
variable {a : Addr} {L : List (Nat × El)} {o : Obj} {es : Array (Int × Value)} {ep : Nat} {t : SetTable}
theorem Qjy {ks : List Key} {b : Addr} {Q : Bool->Shared->Prop} (hk : (tk P w).is s.heap ks b) (h : ∀ r, Q r s) : wpAny (model P w) A (hashByValue 8 (.ref b)) Q E s := by
 have hk' : IsTupleKey (QaA P w) s.heap ks b := hk
 have hT := hk'.typeIs
 obtain ⟨o, items, n, ho, _, hd, hi⟩ := hk'
 unfold hashByValue
 refine wpAny_bind (wpAny_specialOf hT PySem.F.slot_tuple_hash.lookup ?_)
 show wpAny _ _ (seqItems? (.ref b) >>= _) _ _ s
 refine wpAny_bind (wpAny_seqItems ho hd ?_)
 refine wpAny_bind ?_
 show wpAny _ _ (forIn items _ _) _ _ s
 rw [<-Array.forIn_toList]
 refine wpAny_forIn_list _ (fun rest r s' => r.1 = none/\s' = s/\∀ v ∈ rest, carriedByValue v = true) _ ?_ ?_ _ _ ⟨rfl, rfl, hi.byValue⟩
 ·rintro v rest r s' ⟨hr, rfl, hall⟩
  have ev : ∃ c, hashByValue 7 v = pure c := by
   have := hall v Qkv
   cases v <;> first | (cases this; done) | exact ⟨_, rfl⟩
  obtain ⟨c, ev⟩ := ev
  rw [ev]
  refine wpAny_bind (wpAny_pure ?_)
  cases c with
  | false => rw [if_pos (by decide)]; exact wpAny_pure (wpAny_pure (h _))
  | true => rw [if_neg (by decide)]; exact wpAny_pure ⟨rfl, rfl, fun u hu' => hall u (QkA _ hu')⟩
 ·rintro ⟨r1, r2⟩ s' ⟨hr, rfl, _⟩
  simp only at hr
  subst hr
  exact wpAny_pure (h _)
def SzOk (mask n : Nat) : Prop := (mask = 7/\n < 5)\/(mask = 31/\n < 19)\/(mask = 127/\n < 77)
theorem SzOk.le {mask n : Nat} (h : SzOk mask n) : n + 1<=mask := by unfold SzOk at h; omega
theorem is_keep {h h' : Heap} {ks : List Key} {c : Addr} (hk : (tk P w).is h ks c) (ho : h.get? a = some o) (hc : o.cls = .type "set") (sb : Heap.SameBut a h h') : (tk P w).is h' ks c := by
 have hk' : IsTupleKey (QaA P w) h ks c := hk
 obtain ⟨o', items, n, h1, h2, h3, h4⟩ := hk'
 have ne : c ≠ a := fun z => by
  subst z
  rw [ho] at h1; cases h1
  rw [hc] at h2
  exact absurd h2 (by decide)
 exact ⟨o', items, n, by rw [sb.2 c ne]; exact h1, h2, h3, h4⟩
theorem SetL.store (S : SetL P w s.heap a L o es ep t) {L' : List (Nat × El)} {t' : SetTable} (T' : Tab (hsh P w) t' L') (hled : t'.led = t.led) (nd : (L'.map fun e => e.2.1).Nodup) (hi : ∀ e ∈ L', (tk P w).is s.heap e.2.1 e.2.2) :
  SetL P w (s.heap.update a (Obj.putSet (L'.map fun e => (hsh P w e.2, Value.ref e.2.2)).toArray t')) a L' { o with data := .set (L'.map fun e => (hsh P w e.2, Value.ref e.2.2)).toArray (ep + 1) t' } (L'.map fun e => (hsh P w e.2, Value.ref e.2.2)).toArray (ep + 1) t' := by
 have g : (s.heap.update a (Obj.putSet (L'.map fun e => (hsh P w e.2, Value.ref e.2.2)).toArray t')).get? a = some { o with data := .set (L'.map fun e => (hsh P w e.2, Value.ref e.2.2)).toArray (ep + 1) t' } := by
  have := Heap.get?_update_self (Obj.putSet (L'.map fun e => (hsh P w e.2, Value.ref e.2.2)).toArray t') S.ho (by rw [putSet_of _ t' S.da]; rfl)
  rw [putSet_of _ t' S.da] at this; exact this
 exact ⟨g, S.ex, rfl, rfl, T', by rw [hled]; exact S.led, nd, fun e he => is_keep (hi e he) S.ho S.ex.1 (Heap.SameBut.update ..)⟩
theorem relay_ok (S : SetL P w s.heap a L o es ep t) (hl : L.length<=t.mask) {wanted mask : Nat} (hw : sizeAbove wanted = mask + 1) (ok : okM mask) (hz : SzOk mask L.length) {Q : Unit->Shared->Prop}
  (q : ∀ h' L' o' es' ep' t', Heap.SameBut a s.heap h'->SetL P w h' a L' o' es' ep' t'->SzOk t'.mask L'.length->(L'.map (·.2)).Perm (L.map (·.2))->Q () { s with heap := h' }) : wpAny (model P w) A (setRelay a wanted) Q E s := by
 have hf := S.fits hl
 unfold setRelay
 refine wpAny_bind (wpAny_setState_of S.ho S.da hf ?_)
 dsimp only
 have small : ¬ sizeAbove wanted > sizeLine := by
  rw [hw, sizeLine_eq]
  rcases ok with h | h | h <;> rw [h] <;> omega
 rw [if_neg small]
 obtain ⟨t', order, L', e1, e2, e3, e4, T', pm, fm⟩ := laid_ok (hs := hsh P w) (L := L) ok (by have := hz.le; omega) t.finger (t.movedTo mask) t.led t.plain
 have er : t.relaid (es.map (·.1)) wanted = some (t', order) := by
  unfold SetTable.relaid
  rw [hw, Nat.add_sub_cancel, <-e1, S.en]
  congr 1
  simp
 rw [er]
 have ef : order.filterMap (es[·]?) = (L'.map fun e => (hsh P w e.2, Value.ref e.2.2)).toArray := by
  rw [S.en]; exact fm (fun x => (hsh P w x, Value.ref x.2))
 have ln : L'.length = L.length := by have := pm.length_eq; simpa using this
 have es2 : (L'.map fun e => (hsh P w e.2, Value.ref e.2.2)).toArray.size = es.size := by rw [S.size]; simp [ln]
 have fin : wpAny (model P w) A (storeSet a (L'.map fun e => (hsh P w e.2, Value.ref e.2.2)).toArray t') Q E s := by
  have lz := hz.le
  refine wpAny_storeSet_of S.ho S.da ?_ (by rw [sizeLine_eq, es2, S.size]; unfold SzOk at hz; omega)
  refine q _ L' _ _ _ t' (Heap.SameBut.update ..) (S.store T' e3 ?_ ?_) (by rw [e2, ln]; exact hz) pm
  ·have := (pm.map (·.1)).nodup_iff.mpr (by rw [List.map_map]; exact S.nd)
   rw [List.map_map] at this; exact this
  ·intro e he
   obtain ⟨e0, h0, eq⟩ := List.mem_map.mp (pm.mem_iff.mp (List.mem_map_of_mem he))
   rw [<-eq]; exact S.is e0 h0
 refine wpAny_bind (m := (do
  if (order.filterMap (es[·]?)).size != es.size then unsupported "internal:set-table-lost-an-element"
  pure (order.filterMap (es[·]?), t'))) ?_
 rw [ef, es2, if_neg (by simp)]
 exact wpAny_pure fin
theorem add_ok {x : List Key} {b : Addr} (S : SetL P w s.heap a L o es ep t) (hz : SzOk t.mask L.length) (hn : L.length < 70) (hu : (tk P w).room A) (hx : (tk P w).is s.heap x b) {Q : Bool->Shared->Prop}
  (q : ∀ r h' tok L' o' es' ep' t', s.toks<=tok->Heap.SameBut a s.heap h'->SetL P w h' a L' o' es' ep' t'->SzOk t'.mask L'.length->((x ∈ L.map (fun e => e.2.1)/\L' = L)\/(x ∉ L.map (fun e => e.2.1)/\(L'.map (·.2)).Perm ((x, b) :: L.map (·.2))))->Q r { s with heap := h', toks := tok }) :
  wpAny (model P w) A (setAdd a (.ref b)) Q E s := by
 have hl := hz.le
 unfold setAdd
 refine wpAny_holding (wpAny_bind ((tk P w).pyHash hu hx ?_))
 have hf := S.fits (by omega)
 obtain ⟨N, nb, hN, hm⟩ := QdU S.tb.ok (hsh P w (x, b)) (S := L.map (·.1)) (by rw [Qkz]; omega) S.tb.nodup
 show wpAny _ _ (setAddHashed a (.ref b) (hsh P w (x, b))) _ _ _
 generalize hs : ({ s with toks := s.toks + (tk P w).draws x } : Shared) = s1
 have h1 : s1.heap = s.heap := by rw [<-hs]
 have S1 : SetL P w s1.heap a L o es ep t := by rw [h1]; exact S
 have hx1 : (tk P w).is s1.heap x b := by rw [h1]; exact hx
 have q' : ∀ r h' L' o' es' ep' t', Heap.SameBut a s1.heap h'->SetL P w h' a L' o' es' ep' t'->SzOk t'.mask L'.length->((x ∈ L.map (fun e => e.2.1)/\L' = L)\/(x ∉ L.map (fun e => e.2.1)/\(L'.map (·.2)).Perm ((x, b) :: L.map (·.2))))->Q r { s1 with heap := h' } := by
  intro r h' L' o' es' ep' t' c1 c2 c3 c4
  rw [<-hs]
  exact q r h' _ L' o' es' ep' t' (Nat.le_add_right _ _) (by rw [<-h1]; exact c1) c2 c3 c4
 clear hs
 unfold setAddHashed setAddHashedIn
 refine wpAny_holding (wpAny_bind (wpAny_setState_of S1.ho S1.da hf ?_))
 dsimp only
 rw [if_neg (show ¬ byScan (Value.ref b) es = true from Qkr)]
 refine wpAny_bind ?_
 unfold setSearch
 refine QeO S1 (by omega) hu hx1 nb hN hm (fun hin => ?_) (fun hno => ?_) 100000 0 none rfl (Nat.zero_le _) ?_ ?_
 ·obtain ⟨e, me, ex⟩ := hin
  refine wpAny_pure ?_
  have e1 : s1 = { s1 with heap := s1.heap } := by cases s1; rfl
  rw [e1]
  exact q' _ s1.heap L o es ep t (Heap.SameBut.refl ..) S1 hz (.inl ⟨List.mem_map.mpr ⟨e, me, ex⟩, rfl⟩)
 ·have nin : x ∉ L.map (fun e => e.2.1) := fun z => by obtain ⟨e, me, ex⟩ := List.mem_map.mp z; exact hno e me ex
  refine wpAny_bind (wpAny_setState_of S1.ho S1.da hf ?_)
  dsimp only
  have tail : ∀ pl : Bool, wpAny (model P w) A (do
    storeSet a (SetTable.insertAt es (t.put (pr t.mask (hsh P w (x, b)) N).j).2 (hsh P w (x, b), Value.ref b)) (if pl then (t.put (pr t.mask (hsh P w (x, b)) N).j).1 else { (t.put (pr t.mask (hsh P w (x, b)) N).j).1 with plain := false })
    if !false && (if pl then (t.put (pr t.mask (hsh P w (x, b)) N).j).1 else { (t.put (pr t.mask (hsh P w (x, b)) N).j).1 with plain := false }).tooFull then setRelay a (SetTable.grown (es.size + 1))
    return true) Q E s1 := by
   intro pl
   generalize ht : (if pl then (t.put (pr t.mask (hsh P w (x, b)) N).j).1 else { (t.put (pr t.mask (hsh P w (x, b)) N).j).1 with plain := false }) = t1
   have m1 : t1.mask = t.mask := by rw [<-ht]; cases pl <;> rfl
   have d1 : t1.dummies = (t.put (pr t.mask (hsh P w (x, b)) N).j).1.dummies := by rw [<-ht]; cases pl <;> rfl
   have p1 : t1.place = (t.put (pr t.mask (hsh P w (x, b)) N).j).1.place := by rw [<-ht]; cases pl <;> rfl
   have l1 : t1.led = t.led := by rw [<-ht]; cases pl <;> rfl
   have T1 := S1.tb.put (x := (x, b)) hN hm m1 d1 p1
   have ia : SetTable.insertAt es (t.put (pr t.mask (hsh P w (x, b)) N).j).2 (hsh P w (x, b), Value.ref b) = ((ins L (t.put (pr t.mask (hsh P w (x, b)) N).j).2 (pr t.mask (hsh P w (x, b)) N).j (x, b)).map fun e => (hsh P w e.2, Value.ref e.2.2)).toArray := by
    rw [S1.en]; exact Qjs (fun e : Nat × El => (hsh P w e.2, Value.ref e.2.2)) L _ _ (x, b)
   have pm := ins_perm L (t.put (pr t.mask (hsh P w (x, b)) N).j).2 (pr t.mask (hsh P w (x, b)) N).j (x, b)
   rw [ia]
   generalize ins L (t.put (pr t.mask (hsh P w (x, b)) N).j).2 (pr t.mask (hsh P w (x, b)) N).j (x, b) = L1 at T1 pm
   have ln : L1.length = L.length + 1 := by rw [pm.length_eq, QkH]
   have pm2 : (L1.map (·.2)).Perm ((x, b) :: L.map (·.2)) := by have := pm.map (·.2); rwa [List.map_cons] at this
   have nd1 : (L1.map fun e => e.2.1).Nodup := by
    have := (pm.map fun e => e.2.1).nodup_iff.mpr (by rw [List.map_cons]; exact List.nodup_cons.mpr ⟨nin, S1.nd⟩)
    exact this
   have is1 : ∀ e ∈ L1, (tk P w).is s1.heap e.2.1 e.2.2 := fun e he => by
    rcases List.mem_cons.mp (pm.mem_iff.mp he) with z | z
    ·rw [z]; exact hx1
    ·exact S1.is e z
   have S2 := S1.store T1 l1 nd1 is1
   refine wpAny_bind (wpAny_storeSet_of S1.ho S1.da ?_ (by rw [sizeLine_eq]; simp [ln]; omega))
   have sb := Heap.SameBut.update s1.heap a (Obj.putSet (L1.map fun e => (hsh P w e.2, Value.ref e.2.2)).toArray t1)
   have ef : t1.fill = L.length + 1 := by rw [T1.fill, ln]
   by_cases full : t1.tooFull = true
   ·rw [full, if_pos (by decide)]
    unfold SetTable.tooFull at full
    rw [ef, m1] at full
    have fl : (L.length + 1) * 5 ≥ t.mask * 3 := by simpa using full
    have key : ∃ mask, sizeAbove (SetTable.grown (es.size + 1)) = mask + 1/\okM mask/\SzOk mask (L.length + 1) := by
     rw [S1.size]
     rcases hz with ⟨z1, z2⟩ | ⟨z1, z2⟩ | ⟨z1, z2⟩
     ·have : L.length = 4 := by omega
      rw [this]; exact ⟨31, by decide, .inr (.inl rfl), .inr (.inl ⟨rfl, by decide⟩)⟩
     ·have : L.length = 18 := by omega
      rw [this]; exact ⟨127, by decide, .inr (.inr rfl), .inr (.inr ⟨rfl, by decide⟩)⟩
     ·omega
    obtain ⟨mask, k1, k2, k3⟩ := key
    refine wpAny_bind (relay_ok (s := { s1 with heap := s1.heap.update a (Obj.putSet (L1.map fun e => (hsh P w e.2, Value.ref e.2.2)).toArray t1) }) S2 (by rw [ln, m1]; omega) k1 k2 (by rw [ln]; exact k3) fun h' L' o' es' ep' t' c1 c2 c3 c4 => ?_)
    exact wpAny_pure (q' _ h' L' o' es' ep' t' (sb.trans c1) c2 c3 (.inr ⟨nin, c4.trans pm2⟩))
   ·have ff : t1.tooFull = false := by simpa using full
    rw [ff, if_neg (by decide)]
    unfold SetTable.tooFull at ff
    rw [ef, m1] at ff
    have fl : (L.length + 1) * 5 < t.mask * 3 := by simpa using ff
    refine wpAny_pure (q' _ _ L1 _ _ _ t1 sb S2 ?_ (.inr ⟨nin, pm2⟩))
    rw [m1, ln]
    rcases hz with ⟨z1, z2⟩ | ⟨z1, z2⟩ | ⟨z1, z2⟩
    ·exact .inl ⟨z1, by omega⟩
    ·exact .inr (.inl ⟨z1, by omega⟩)
    ·exact .inr (.inr ⟨z1, by omega⟩)
  refine wpAny_ite_split (fun _ => wpAny_bind (Qjy hx1 fun r => ?_)) (fun _ => wpAny_bind (wpAny_pure ?_))
  ·exact tail r
  ·exact tail true
 ·have : t.mask<=127 := by rcases S.tb.ok with h | h | h <;> omega
  omega
 ·intro e me ex
  obtain ⟨n, e1, e2⟩ := S1.tb.rc e me
  have eh : hsh P w e.2 = hsh P w (x, b) := by unfold hsh; rw [ex]
  rw [eh] at e1 e2
  refine ⟨n, Nat.zero_le _, ?_, e1⟩
  have mem : (pr t.mask (hsh P w (x, b)) n).j ∈ L.map (·.1) := by rw [e1]; exact List.mem_map_of_mem me
  refine Classical.byContradiction fun z => ?_
  by_cases y : n = N
  ·subst y; exact hN mem
  ·exact hN (e2 N (by omega))
end
end ST
end L2
namespace L2
open PySem PySem.Spec PyProof.Rows
namespace ST
open PySem.SetTable
section
variable {P : Program} {w : World}
def QfB (P : Program) (w : World) (h : Heap) (S : Addr) (ks : List (List Key)) (bs : List Addr) : Prop := ∃ L o es ep t, SetL P w h S L o es ep t/\SzOk t.mask L.length/\L.length<=ks.length/\(∀ k, k ∈ L.map (fun e => e.2.1) ↔ k ∈ ks)/\∀ e ∈ L, ∃ i : Nat, ks[i]? = some e.2.1/\bs[i]? = some e.2.2
theorem SetL.mv {h h' : Heap} {a : Addr} {L : List (Nat × El)} {o : Obj} {es : Array (Int × Value)} {ep : Nat} {t : SetTable} (S : SetL P w h a L o es ep t) (e : h'.get? a = some o) (i : ∀ e ∈ L, (tk P w).is h' e.2.1 e.2.2) : SetL P w h' a L o es ep t :=
 ⟨e, S.ex, S.da, S.en, S.tb, S.led, S.nd, i⟩
theorem is_of {h0 h : Heap} {k : List Key} {b : Addr} (hk : (tk P w).is h0 k b) (kp : ∀ b o, h0.get? b = some o->h.get? b = some o) : (tk P w).is h k b := by
 obtain ⟨o', items, n, h1, h2, h3, h4⟩ := (show IsTupleKey (QaA P w) h0 k b from hk)
 exact ⟨o', items, n, kp _ _ h1, h2, h3, h4⟩
section
variable {A : Around} {R : Result->Shared->Prop} {I : Addr} {fp wr : List Addr} {G : Array GenState->Array GenState->Prop} {n : Nat} {Pv : Nat->Value->Prop} {St : Nat->Shared->Prop}
theorem loop_ok (W : WalksS P w A.in1 I fp wr G n Pv St) (S : Addr) (hSf : S ∉ fp) {h0 : Heap} (hS0 : h0.objs.size<=S) (hw : ∀ b ∈ wr, h0.objs.size<=b) {ks : List (List Key)} {bs : List Addr} (hn : ks.length = n) (hv : ∀ i v, Pv i v->∃ b, bs[i]? = some b/\v = Value.ref b)
  (hk : ∀ (i : Nat) k b, ks[i]? = some k->bs[i]? = some b->(tk P w).is h0 k b) (h70 : n < 70) (hu : A.units + 1 < cLine) :
  ∀ (m i : Nat) (s : Shared), n - i = m->i<=n->St i s->QfB P w s.heap S (ks.take i) bs->(∀ b o, h0.get? b = some o->s.heap.get? b = some o) ->
   (∀ s', Moved (S :: wr) G s s'->QfB P w s'.heap S ks bs->R (.ok (.ret .none)) s')->codeAny (model P w) A (.builtin "set.update.loop" ⟨[.ref S, .ref I], []⟩) R s := by
 have hSw : S ∉ wr := fun h => hSf (W.sub _ h)
 have hsub : ∀ b ∈ wr, b ∈ S :: wr := fun b hb => QkA _ hb
 have tr : ∀ {s s' : Shared} {i : Nat}, Moved wr G s s'->QfB P w s.heap S (ks.take i) bs->(∀ b o, h0.get? b = some o->s.heap.get? b = some o)->QfB P w s'.heap S (ks.take i) bs/\∀ b o, h0.get? b = some o->s'.heap.get? b = some o := by
  intro s s' i hm hS kp
  have kp' : ∀ b o, h0.get? b = some o->s'.heap.get? b = some o := fun b o e => hm.heap b o (fun z => absurd (Qkw e) (Nat.not_lt.mpr (hw b z))) (kp b o e)
  obtain ⟨L, o, es, ep, t, c1, c2, c3, c4, c5⟩ := hS
  refine ⟨⟨L, o, es, ep, t, c1.mv (hm.heap S _ hSw c1.ho) fun e he => ?_, c2, c3, c4, c5⟩, kp'⟩
  obtain ⟨j, j1, j2⟩ := c5 e he
  have j1' : ks[j]? = some e.2.1 := by
   rw [List.getElem?_take] at j1
   split at j1
   ·exact j1
   ·cases j1
  exact is_of (hk j _ _ j1' j2) kp'
 intro m
 induction m with
 | zero =>
  intro i s hk0 hi hst hS kp hR
  have hin : i = n := by omega
  subst hin
  refine codeAny_builtin PyProof.Rows.F.entry_set_update_loop ?_
  rw [Around.under_plainId PyProof.Rows.F.plain_set_update_loop _]
  show wpAny _ A.in1 (pyNext (.ref I) >>= _) _ _ s
  refine wpAny_bind (W.done s _ _ hst fun s' hm => ?_)
  show wpAny _ A.in1 (ret Value.none) _ _ s'
  refine wpAny_pure (hR s' (hm.mono hsub) ?_)
  have := (tr hm hS kp).1
  rwa [<-hn, List.take_length] at this
 | succ m ih =>
  intro i s hk0 hi hst hS kp hR
  have hlt : i < n := by omega
  refine codeAny_builtin PyProof.Rows.F.entry_set_update_loop ?_
  rw [Around.under_plainId PyProof.Rows.F.plain_set_update_loop _]
  show wpAny _ A.in1 (pyNext (.ref I) >>= _) _ _ s
  refine wpAny_bind (W.item i s _ _ hlt hst fun v s' hP hst' hm => ?_)
  obtain ⟨b, hb, rfl⟩ := hv i v hP
  obtain ⟨hS', kp'⟩ := tr hm hS kp
  show wpAny _ A.in1 (holding [Value.ref b] (setAdd S (.ref b)) >>= _) _ _ s'
  refine wpAny_bind (wpAny_holding ?_)
  have ei : ks[i]? = some ks[i] := Qks (by omega)
  obtain ⟨L, o, es, ep, t, c1, c2, c3, c4, c5⟩ := hS'
  have lt : (ks.take i).length<=i := by rw [List.length_take]; omega
  refine add_ok c1 c2 (by omega) (show A.in1.units < cLine from hu) (is_of (hk i _ b ei hb) kp') fun r h' tok L' o' es' ep' t' ht hsb hS2 hz2 hor => ?_
  have kp2 : ∀ b o, h0.get? b = some o->h'.get? b = some o := fun b o e => by
   rw [hsb.2 b (fun z => absurd (Qkw e) (Nat.not_lt.mpr (z ▸ hS0)))]; exact kp' b o e
  have tk1 : ks.take (i + 1) = ks.take i ++ [ks[i]] := by rw [List.take_succ, ei]; rfl
  have nx : QfB P w h' S (ks.take (i + 1)) bs := by
   refine ⟨L', o', es', ep', t', hS2, hz2, ?_, ?_, ?_⟩
   ·rcases hor with ⟨_, rfl⟩ | ⟨_, pm⟩
    ·rw [tk1, QkB]; omega
    ·have := pm.length_eq
     rw [Qkz, QkH, Qkz] at this
     rw [tk1, QkB, this]; simp; omega
   ·intro k
    rw [tk1, List.mem_append, List.mem_singleton, <-c4]
    rcases hor with ⟨hin, rfl⟩ | ⟨_, pm⟩
    ·exact ⟨.inl, fun z => z.elim id fun z => z ▸ hin⟩
    ·have p1 := pm.map (fun e : El => e.1)
     rw [List.map_map, List.map_cons, List.map_map] at p1
     have : k ∈ L'.map (fun e => e.2.1) ↔ k ∈ ks[i] :: L.map (fun e => e.2.1) := p1.mem_iff
     rw [this, List.mem_cons]; exact or_comm
   ·intro e he
    rcases hor with ⟨hin, rfl⟩ | ⟨_, pm⟩
    ·obtain ⟨j, j1, j2⟩ := c5 e he
     have jl : j < (ks.take i).length := (List.getElem?_eq_some_iff.mp j1).1
     exact ⟨j, by rw [tk1, List.getElem?_append_left jl]; exact j1, j2⟩
    ·rcases List.mem_cons.mp (pm.mem_iff.mp (List.mem_map_of_mem (f := (·.2)) he)) with z | z
     ·refine ⟨i, ?_, ?_⟩
      ·rw [show e.2.1 = ks[i] by rw [z], List.getElem?_take, if_pos (Nat.lt_succ_self i), ei]
      ·rw [show e.2.2 = b by rw [z]]; exact hb
     ·obtain ⟨e0, h0', eq⟩ := List.mem_map.mp z
      obtain ⟨j, j1, j2⟩ := c5 e0 h0'
      have jl : j < (ks.take i).length := (List.getElem?_eq_some_iff.mp j1).1
      rw [<-eq]
      exact ⟨j, by rw [tk1, List.getElem?_append_left jl]; exact j1, j2⟩
  refine wpAny_pure ⟨plainId_quiet PyProof.Rows.F.plain_set_update_loop _, ih (i + 1) _ (by omega) hlt (W.frame _ s' h' tok hst' ht fun b hb o e => ?_) nx kp2 fun s'' hm'' hS'' => ?_⟩
  ·rw [hsb.2 b (fun h : b = S => hSf (by rw [<-h]; exact hb))]; exact e
  ·refine hR s'' (Moved.trans W.gtrans ((hm.mono hsub).then_heap ht fun b o hb e => ?_) hm'') hS''
   rw [hsb.2 b (fun h : b = S => hb (by rw [h]; exact Qkv))]; exact e
end
section
variable {A : Around} {E : Value->Shared->Prop} {s : Shared}
abbrev QaW (w : World) : Obj := { cls := .type "set", dict := none, data := .set #[] 0 (.fresh 0 0 (!w.params.followText "set-order")) }
theorem Qkb (a : Value) {Q₁ : Value->Shared->Prop} (h : Q₁ (.ref s.heap.objs.size) { s with heap := s.heap.push (QaW w) }) : codeAny (model P w) A (.call (.builtin "set.__new__") ⟨[.type "set", a], []⟩) (wants Q₁ E) s := by
 refine codeAny_of_tree ?_
 show wpAny _ A.in1 (do checkBuiltinCall "set.__new__" ⟨[.type "set", a], []⟩; again (.builtin "set.__new__" ⟨[.type "set", a], []⟩)) _ _ s
 refine wpAny_bind (wpAny_of_eq (PySem.F.newCall_set_1 a) (wpAny_pure ⟨plainId_quiet PySem.F.plain_set_new _, codeAny_builtin PySem.F.entry_set_new ?_⟩))
 rw [Around.under_plainId PySem.F.plain_set_new _]
 unfold Builtin.«set.__new__» Builtin.Frozenset.newClass
 have hsub := sub_set_self
 obtain ⟨hp, g, d, tk, os⟩ := s
 dsimp only
 wp_walk
 refine wpAny_askSetting (wpAny_pure ?_)
 dsimp only
 simp only [newObj]
 refine wpAny_bind (wpAny_alloc (wpAny_pure ?_))
 exact wpAny_pure h
theorem fresh_ok {h : Heap} {a : Addr} (e : h.get? a = some (QaW w)) (bs : List Addr) : QfB P w h a [] bs :=
 ⟨[], QaW w, #[], 0, .fresh 0 0 (!w.params.followText "set-order"), ⟨e, ⟨rfl, rfl, rfl⟩, rfl, rfl, ⟨.inl rfl, rfl, rfl, .nil, fun e he => by cases he⟩, rfl, .nil, fun e he => by cases he⟩, .inl ⟨rfl, by decide⟩, Qky _, fun k => by simp, fun e he => by cases he⟩
set_option maxRecDepth 100000 in
set_option maxHeartbeats 3200000 in
theorem set_list {l : Addr} {ks : List (List Key)} {bs : List Addr} {Q : Value->Shared->Prop} (hh : A.handled = none) (hl : s.heap.IsList l (bs.map Value.ref).toArray) (hn : ks.length = bs.length) (h70 : ks.length < 70) (hu : A.units + 9 < cLine)
  (hk : ∀ (i : Nat) k b, ks[i]? = some k->bs[i]? = some b->(tk P w).is s.heap k b)
  (h : ∀ (h' : Heap) (tok : Nat), QfB P w h' s.heap.objs.size ks bs->(∀ b o, s.heap.get? b = some o->h'.get? b = some o)->Q (.ref s.heap.objs.size) { s with heap := h', toks := tok }) :
  wpAny (model P w) A (call (.type "set") [.ref l]) Q E s := by
 obtain ⟨c, tl, hmro⟩ := PySem.F.called_set.mro
 have hmade := PySem.F.called_set.made
 have hsub := PySem.F.called_set.sub
 refine wpAny_call (codeAny_of_tree ?_)
 show wpAny _ _ (callAny (.type "set") _) _ _ _
 refine wpAny_pure ⟨Code.quiet_builtin _ (by decide +kernel), codeAny_builtin PySem.F.entry_type_call ?_⟩
 rw [Around.under_plain (weight_type_call_type "set" [.ref l] []) rfl]
 have h1 := PySem.F.called_set.notType
 have h2 := PySem.F.called_set.canCreate
 have hct := PySem.F.typeCall_set_1 (.ref l)
 repeat (any_goals (first | assumption | wp_step))
 refine codeAny_mono (Qkb (.ref l) (E := E) (Q₁ := fun obj s₁ => obj = .ref s.heap.objs.size/\s₁ = { s with heap := s.heap.push (QaW w) }) ⟨rfl, rfl⟩) fun r s₁ hr => ?_
 cases r with
 | error e => exact hr
 | ok fl =>
  cases fl with
  | ret obj =>
   obtain ⟨rfl, rfl⟩ := hr
   have hS : (s.heap.push (QaW w)).get? s.heap.objs.size = some (QaW w) := QkE _ rfl
   have hT : Shared.TypeIs { s with heap := s.heap.push (QaW w) } (.ref s.heap.objs.size) "set" := ⟨_, hS, rfl⟩
   have hli := PySem.F.called_set.init.lookup
   have hbi := PySem.F.called_set.init.bind (.ref s.heap.objs.size)
   repeat (any_goals (first | assumption | wp_step))
   refine codeAny_mono (codeAny_call_builtin (R := wants (fun r s₂ => r = .none/\∃ h' tok, s₂ = { s with heap := h', toks := tok }/\QfB P w h' s.heap.objs.size ks bs /\
     (∀ b o, s.heap.get? b = some o->h'.get? b = some o)) E) PySem.F.called_set.init.plain PySem.F.entry_set_init (check_set_init_1 hT ?_)) fun r₂ s₂ hr₂ => ?_
   ·obtain ⟨ol, hol, hcl, nl, hdl⟩ := hl
    obtain ⟨ocls, odict, odata, oslots⟩ := ol
    simp only at hcl hdl
    subst hcl; subst hdl
    have hol' : (s.heap.push (QaW w)).get? l = some { cls := .type "list", dict := odict, data := .seq (bs.map Value.ref).toArray nl, slots := oslots } := Qkt _ hol
    have hsls := PySem.F.sub_list_set
    have hslf := PySem.F.sub_list_frozenset
    have hne : (Value.type "list" == Value.type "dict") = false := by decide
    have hl1 : (s.heap.push (QaW w)).IsList l (bs.map Value.ref).toArray := ⟨_, hol', rfl, nl, rfl⟩
    unfold Builtin.«set.__init__» noKeywords Builtin.Frozenset.updateFrom
    generalize hPI : pyIter = PI
    wp_walk
    subst hPI
    refine wpAny_pyIter_list hl1 ?_
    refine wpAny_bind (wpAny_runValue ?_)
    have hlS : l < s.heap.objs.size := Qkw hol
    have hh3 : A.in1.in1.in1.handled = none := by simp [hh]
    have hneI : l ≠ (s.heap.push (QaW w)).objs.size := by
     rw [Heap.size_push]; exact QkF (Nat.lt_succ_of_lt hlS)
    have hSf : s.heap.objs.size ∉ [(s.heap.push (QaW w)).objs.size, l] := by
     rw [Heap.size_push]; simp only [List.mem_cons, List.mem_singleton, List.not_mem_nil, or_false, not_or]
     exact ⟨QkF (Nat.lt_succ_self _), Nat.ne_of_gt hlS⟩
    have hval : ∀ (i : Nat) (v : Value), (bs.map Value.ref).toArray[i]? = some v->∃ b, bs[i]? = some b/\v = Value.ref b := fun i v hv => by
     rw [List.getElem?_toArray, QkG] at hv
     cases q : bs[i]? with
     | none => rw [q] at hv; cases hv
     | some b => rw [q] at hv; exact ⟨b, rfl, (Option.some.inj hv).symm⟩
    have hsz : (bs.map Value.ref).toArray.size = ks.length := by simp [hn]
    refine loop_ok ((Walks.list hh3 _ l hneI (bs.map Value.ref).toArray).toS) s.heap.objs.size
     hSf (h0 := s.heap) (Qky _) (fun b hb => by rw [List.mem_singleton.mp hb, Heap.size_push]; exact Nat.le_succ _) hsz.symm hval hk (by rw [hsz]; exact h70) (by show A.units + 1 + 1 + 1 < cLine; omega) ((bs.map Value.ref).toArray.size - 0) 0 _ (by omega) (Nat.zero_le _)
     ⟨⟨_, QkE _ rfl, rfl, rfl⟩, (hl1.push _)⟩ ?hS0 ?hkp ?hR
    case hS0 => exact fresh_ok (Qkt _ hS) bs
    case hkp => exact fun b o e => Qkt _ (Qkt _ e)
    case hR =>
     intro s' hm hS'
     obtain ⟨h', g', d', tk', os'⟩ := s'
     have eg : g' = s.gens := hm.gens
     have ed : d' = s.drawn := hm.drawn
     have eo : os' = s.os := hm.os
     subst eg; subst ed; subst eo
     show wpAny _ _ _ _ _ _
     refine wpAny_pure ?_
     show wpAny _ _ (ret Value.none) _ _ _
     refine wpAny_pure ⟨rfl, h', tk', rfl, hS', fun b o e => ?_⟩
     have hb := Qkw e
     have hb1 : b ≠ s.heap.objs.size := QkF hb
     have hb2 : b ≠ (s.heap.push (QaW w)).objs.size := by
      rw [Heap.size_push]; exact QkF (Nat.lt_succ_of_lt hb)
     exact hm.heap b o (by simp only [List.mem_cons, List.mem_singleton, List.not_mem_nil, or_false, not_or]; exact ⟨hb1, hb2⟩) (Qkt _ (Qkt _ e))
   ·cases r₂ with
    | error e => exact hr₂
    | ok fl₂ =>
     cases fl₂ with
     | ret r =>
      obtain ⟨rfl, h', tok, rfl, hS', hk'⟩ := hr₂
      repeat (any_goals (first | assumption | wp_step))
      exact h _ _ hS' hk'
     | _ => exact hr₂.elim
  | _ => exact hr.elim
end
end
end ST
end L2
namespace L2
open PySem PySem.Spec PyProof.Rows
namespace ST
open PySem.SetTable
section
set_option maxRecDepth 100000
theorem Qam : Slot "set_iterator" "__next__" "set_iterator.__next__" :=
 .of (owner := "set_iterator") (n := "__next__") (by rw [typeLookup_type, builtinLookup_eq_fast]; kernel_rfl) (by decide +kernel) (by decide +kernel) (by decide +kernel) (by first | exact .inl (by decide +kernel) | exact .inr (by decide +kernel)) (by rw [isSubtype_type]; kernel_rfl)
theorem QaG : entryFor table "set_iterator.__next__" = some Builtin.«set_iterator.__next__» := entryFor_of_tree (by kernel_rfl)
theorem QaO (a : Value) : argsOk "set_iterator.__next__" ⟨[a], []⟩ := by unfold argsOk; kernel_rfl
theorem Qbw : Slot "set_iterator" "__iter__" "set_iterator.__iter__" :=
 .of (owner := "set_iterator") (n := "__iter__") (by rw [typeLookup_type, builtinLookup_eq_fast]; kernel_rfl) (by decide +kernel) (by decide +kernel) (by decide +kernel) (by first | exact .inl (by decide +kernel) | exact .inr (by decide +kernel)) (by rw [isSubtype_type]; kernel_rfl)
theorem QdK : entryFor table "set.__iter__" = some Builtin.«frozenset.__iter__» := entryFor_alias (id' := "frozenset.__iter__") (by kernel_rfl) rfl (by decide +kernel) (by kernel_rfl)
end
section
variable {P : Program} {w : World} {A : Around} {E : Value->Shared->Prop} {s : Shared} {it S : Addr} {es : Array (Int × Value)} {ep : Nat} {t : SetTable} {f : Value} {i : Nat}
def RawS (h : Heap) (S : Addr) (es : Array (Int × Value)) (ep : Nat) (t : SetTable) : Prop := ∃ o, h.get? S = some o/\o.data = .set es ep t
def SIt (h : Heap) (it S : Addr) (f : Value) (i n ep : Nat) : Prop := h.get? it = some { cls := .type "set_iterator", data := .fields #[f, .int i 0, .ref S, .int n 0, .int ep 0] }
theorem SIt.type (h : SIt s.heap it S f i es.size ep) : s.TypeIs (.ref it) "set_iterator" := ⟨_, h, rfl⟩
theorem QgQ {slot nx : Nat} {x : Value} {Q : Option Value->Shared->Prop} (hit : SIt s.heap it S (.int slot 0) i es.size ep) (r : RawS s.heap S es ep t) (hf : t.fits es.size = true)
  (hn : ∀ (A : Around) (E : Value->Shared->Prop) (Q : Option (Value × Nat)->Shared->Prop), Q (some (x, nx)) s->wpAny (model P w) A (setNext S slot i ep) Q E s)
  (hQ : ∀ h', SIt h' it S (.int nx 0) (i + 1) es.size ep->Heap.SameBut it s.heap h'->Q (some x) { s with heap := h' }) : wpAny (model P w) A (pyNext (.ref it)) Q E s := by
 obtain ⟨o, ho, hd⟩ := id r
 unfold pyNext
 refine wpAny_bind (wpAny_attempt (wpAny_callSpecial?_slot (name := Str.ofString "__next__") hit.type Qam (wpAny_call_entry Qam hit.type QaG ?_ (QaO _))))
 refine wpAny_bind (wpAny_pure ?_)
 refine wpAny_bind (wpAny_fieldsOf hit rfl ?_)
 show wpAny _ _ (setEntries S >>= _) _ _ s
 refine wpAny_bind (wpAny_setEntries_of ho hd hf ?_)
 dsimp only
 rw [if_neg (by simp)]
 show wpAny _ _ (setNext S slot i ep >>= _) _ _ s
 refine wpAny_bind (hn _ _ _ ?_)
 dsimp only
 refine wpAny_bind (wpAny_setField_rec hit (by simp) fun h1 g1 sb1 => ?_)
 refine wpAny_bind (wpAny_setField_rec (s := { s with heap := h1 }) g1 (by simp) fun h2 g2 sb2 => ?_)
 refine wpAny_pure ⟨_, rfl, wpAny_pure (hQ h2 ?_ (sb1.trans sb2))⟩
 exact g2
theorem Qid {Q : Option Value->Shared->Prop} (hh : A.handled = none) (hQ : ∀ h', (∀ b o, s.heap.get? b = some o->h'.get? b = some o)->Q none { s with heap := h' }) :
  wpAny (model P w) A.in1 (newExc (.type "StopIteration") [] >>= fun e => (raiseNew e : Sem PySem.Fin)) (fun _ _ => False) (fun e s' => wpAny (model P w) A (do let b <-isInstance e (Value.type "StopIteration"); if b = true then pure none else throw e) Q E s') s := by
 refine wpAny_bind ?_
 simp only [newExc, newTuple]
 refine wpAny_bind (wpAny_newObj_type ?_ (by size_fits))
 refine wpAny_bind (m := firstArgMember _ _) (wpAny_of_eq (a := Value.none) (by first | (simp only [firstArgMember]; rfl) | rfl) ?_)
 refine wpAny_newObj_type ?_ (by size_fits)
 simp only [raiseNew]
 refine wpAny_bind (wpAny_handled ?_)
 rw [show A.in1.handled = none from hh]
 refine wpAny_bind (wpAny_pure (wpAny_throw ?_))
 refine wpAny_bind (wpAny_isInstance (T := "StopIteration") (b := true) ⟨_, QkE _ rfl, rfl⟩ isSubtype_stop (wpAny_pure (hQ _ fun b o e => Qkt _ (Qkt _ e))))
theorem QjO {slot : Nat} {Q : Option Value->Shared->Prop} (hh : A.handled = none) (hit : SIt s.heap it S (.int slot 0) i es.size ep) (r : RawS s.heap S es ep t) (hf : t.fits es.size = true)
  (hn : ∀ (A : Around) (E : Value->Shared->Prop) (Q : Option (Value × Nat)->Shared->Prop), Q none s->wpAny (model P w) A (setNext S slot i ep) Q E s)
  (hQ : ∀ h', (∀ b o, b ≠ it->s.heap.get? b = some o->h'.get? b = some o)->Q none { s with heap := h' }) : wpAny (model P w) A (pyNext (.ref it)) Q E s := by
 obtain ⟨o, ho, hd⟩ := id r
 unfold pyNext
 refine wpAny_bind (wpAny_attempt (wpAny_callSpecial?_slot (name := Str.ofString "__next__") hit.type Qam (wpAny_call_entry Qam hit.type QaG ?_ (QaO _))))
 refine wpAny_bind (wpAny_pure ?_)
 refine wpAny_bind (wpAny_fieldsOf hit rfl ?_)
 show wpAny _ _ (setEntries S >>= _) _ _ s
 refine wpAny_bind (wpAny_setEntries_of ho hd hf ?_)
 dsimp only
 rw [if_neg (by simp)]
 show wpAny _ _ (setNext S slot i ep >>= _) _ _ s
 refine wpAny_bind (hn _ _ _ ?_)
 dsimp only
 refine wpAny_bind (wpAny_setField_rec hit (by simp) fun h1 g1 sb1 => ?_)
 refine wpAny_mono (Qid (E := E) (s := { s with heap := h1 }) hh fun h' k => hQ h' fun b o hb e => k b o (by rw [sb1.2 b hb]; exact e)) (fun _ _ no => no.elim) fun _ _ z => z
def TupI (h : Heap) (T : Addr) (pl : List Nat) : Prop := ∃ o n, h.get? T = some o/\o.data = .seq (pl.map fun p => Value.int (p : Nat) 0).toArray n
theorem next_ref {T : Addr} {pl : List Nat} {p : Nat} {x : Int × Value} {Q : Option Value->Shared->Prop} (hit : SIt s.heap it S (.ref T) i es.size ep) (r : RawS s.heap S es ep t) (hf : t.fits es.size = true) (hT : TupI s.heap T pl) (hp : pl[i]? = some p) (hx : es[p]? = some x)
  (hQ : ∀ h', SIt h' it S (.ref T) (i + 1) es.size ep->Heap.SameBut it s.heap h'->Q (some x.2) { s with heap := h' }) : wpAny (model P w) A (pyNext (.ref it)) Q E s := by
 obtain ⟨o, ho, hd⟩ := id r
 obtain ⟨oT, nT, hoT, hdT⟩ := id hT
 unfold pyNext
 refine wpAny_bind (wpAny_attempt (wpAny_callSpecial?_slot (name := Str.ofString "__next__") hit.type Qam (wpAny_call_entry Qam hit.type QaG ?_ (QaO _))))
 refine wpAny_bind (wpAny_pure ?_)
 refine wpAny_bind (wpAny_fieldsOf hit rfl ?_)
 show wpAny _ _ (setEntries S >>= _) _ _ s
 refine wpAny_bind (wpAny_setEntries_of ho hd hf ?_)
 dsimp only
 rw [if_neg (by simp)]
 show wpAny _ _ (seqItems? (.ref T) >>= _) _ _ s
 refine wpAny_bind (wpAny_seqItems hoT hdT ?_)
 have e : (pl.map fun p => Value.int (p : Nat) 0).toArray[i]? = some (Value.int p 0) := by rw [List.getElem?_toArray, QkG, hp]; rfl
 have e' : (pl.map fun p => Value.int (p : Nat) 0).toArray[(i : Int).toNat]? = some (Value.int p 0) := e
 dsimp only
 rw [e']
 dsimp only
 refine wpAny_bind ?_
 unfold setNextDrawn
 refine wpAny_bind (wpAny_setState_of ho hd hf ?_)
 dsimp only
 rw [if_neg (by simp)]
 show wpAny _ _ (match es[p]? with | some (_, x) => _ | _ => _) _ _ _
 rw [hx]
 refine wpAny_pure ?_
 refine wpAny_bind (wpAny_setField_rec hit (by simp) fun h1 g1 sb1 => ?_)
 exact wpAny_pure ⟨_, rfl, wpAny_pure (hQ h1 g1 sb1)⟩
theorem end_ref {T : Addr} {pl : List Nat} {Q : Option Value->Shared->Prop} (hh : A.handled = none) (hit : SIt s.heap it S (.ref T) i es.size ep) (r : RawS s.heap S es ep t) (hf : t.fits es.size = true) (hT : TupI s.heap T pl) (hp : pl.length<=i)
  (hQ : ∀ h', (∀ b o, b ≠ it->s.heap.get? b = some o->h'.get? b = some o)->Q none { s with heap := h' }) : wpAny (model P w) A (pyNext (.ref it)) Q E s := by
 obtain ⟨o, ho, hd⟩ := id r
 obtain ⟨oT, nT, hoT, hdT⟩ := id hT
 unfold pyNext
 refine wpAny_bind (wpAny_attempt (wpAny_callSpecial?_slot (name := Str.ofString "__next__") hit.type Qam (wpAny_call_entry Qam hit.type QaG ?_ (QaO _))))
 refine wpAny_bind (wpAny_pure ?_)
 refine wpAny_bind (wpAny_fieldsOf hit rfl ?_)
 show wpAny _ _ (setEntries S >>= _) _ _ s
 refine wpAny_bind (wpAny_setEntries_of ho hd hf ?_)
 dsimp only
 rw [if_neg (by simp)]
 show wpAny _ _ (seqItems? (.ref T) >>= _) _ _ s
 refine wpAny_bind (wpAny_seqItems hoT hdT ?_)
 have e' : (pl.map fun p => Value.int (p : Nat) 0).toArray[(i : Int).toNat]? = none := by
  show (pl.map fun p => Value.int (p : Nat) 0).toArray[i]? = none
  rw [List.getElem?_toArray, List.getElem?_eq_none (by simpa using hp)]
 dsimp only
 rw [e']
 dsimp only
 refine wpAny_bind (wpAny_setField_rec hit (by simp) fun h1 g1 sb1 => ?_)
 refine wpAny_bind (wpAny_setField_rec (s := { s with heap := h1 }) g1 (by simp) fun h2 g2 sb2 => ?_)
 refine wpAny_mono (Qid (E := E) (s := { s with heap := h2 }) hh fun h' k => hQ h' fun b o hb e => k b o (by rw [(sb1.trans sb2).2 b hb]; exact e)) (fun _ _ no => no.elim) fun _ _ z => z
theorem QeN {slot : Nat} {x : Int × Value} (bt : w.params.followText "set-order" = true) (r : RawS s.heap S es ep t) (hf : t.fits es.size = true) (hx : (pickOrder (w.params.setOrder S ep) es)[i]? = some x) {A : Around} {E : Value->Shared->Prop} {Q : Option (Value × Nat)->Shared->Prop} (q : Q (some (x.2, slot)) s) : wpAny (model P w) A (setNext S slot i ep) Q E s := by
 obtain ⟨o, ho, hd⟩ := r
 unfold setNext setsByText
 refine wpAny_bind (wpAny_setState_of ho hd hf ?_)
 dsimp only
 refine wpAny_bind (wpAny_bind (wpAny_askSetting (wpAny_pure ?_)))
 rw [if_pos (show (⟨(model P w).prog, (model P w).w.params⟩ : Setting).params.followText "set-order" = true from bt), if_neg (by simp)]
 refine wpAny_bind ?_
 unfold setWalk setsByText
 refine wpAny_bind (wpAny_setState_of ho hd hf ?_)
 dsimp only
 refine wpAny_bind (wpAny_bind (wpAny_askSetting (wpAny_pure ?_)))
 rw [if_pos (show (⟨(model P w).prog, (model P w).w.params⟩ : Setting).params.followText "set-order" = true from bt)]
 refine wpAny_bind (wpAny_askSetting (wpAny_pure (wpAny_pure ?_)))
 show Q (((pickOrder (w.params.setOrder S ep) es)[i]?).map _) s
 rw [hx]; exact q
theorem Qde {slot : Nat} (bt : w.params.followText "set-order" = true) (r : RawS s.heap S es ep t) (hf : t.fits es.size = true) (hx : (pickOrder (w.params.setOrder S ep) es)[i]? = none) {A : Around} {E : Value->Shared->Prop} {Q : Option (Value × Nat)->Shared->Prop} (q : Q none s) : wpAny (model P w) A (setNext S slot i ep) Q E s := by
 obtain ⟨o, ho, hd⟩ := r
 unfold setNext setsByText
 refine wpAny_bind (wpAny_setState_of ho hd hf ?_)
 dsimp only
 refine wpAny_bind (wpAny_bind (wpAny_askSetting (wpAny_pure ?_)))
 rw [if_pos (show (⟨(model P w).prog, (model P w).w.params⟩ : Setting).params.followText "set-order" = true from bt), if_neg (by simp)]
 refine wpAny_bind ?_
 unfold setWalk setsByText
 refine wpAny_bind (wpAny_setState_of ho hd hf ?_)
 dsimp only
 refine wpAny_bind (wpAny_bind (wpAny_askSetting (wpAny_pure ?_)))
 rw [if_pos (show (⟨(model P w).prog, (model P w).w.params⟩ : Setting).params.followText "set-order" = true from bt)]
 refine wpAny_bind (wpAny_askSetting (wpAny_pure (wpAny_pure ?_)))
 show Q (((pickOrder (w.params.setOrder S ep) es)[i]?).map _) s
 rw [hx]; exact q
theorem Qee {slot : Nat} {x : Int × Value} {j : Nat} (h1 : es[below t.place slot]? = some x) (h2 : t.place[below t.place slot]? = some j) {A : Around} {E : Value->Shared->Prop} {Q : Option (Value × Nat)->Shared->Prop} (bt : w.params.followText "set-order" = false) (led : t.led = true) (dr : (!t.plain && decide (es.size > 1)) = false) (r : RawS s.heap S es ep t) (hf : t.fits es.size = true) (q : Q (some (x.2, j + 1)) s) : wpAny (model P w) A (setNext S slot i ep) Q E s := by
 obtain ⟨o, ho, hd⟩ := r
 unfold setNext setsByText
 refine wpAny_bind (wpAny_setState_of ho hd hf ?_)
 dsimp only
 refine wpAny_bind (wpAny_bind (wpAny_askSetting (wpAny_pure ?_)))
 rw [if_neg (show ¬ (⟨(model P w).prog, (model P w).w.params⟩ : Setting).params.followText "set-order" = true by show ¬ w.params.followText "set-order" = true; rw [bt]; decide)]
 show wpAny _ _ (if (!t.plain && decide (es.size > 1)) = true then _ else _) _ _ _
 rw [dr, if_neg Qkr]
 refine wpAny_bind (m := (if (!t.led && !es.isEmpty) = true then unsupported "set:maker-not-led" else pure ())) ?_
 rw [led, if_neg (by simp)]
 refine wpAny_pure (wpAny_pure ?_)
 rw [h1, h2]; exact q
theorem QcI {slot : Nat} (h1 : es[below t.place slot]? = none) {A : Around} {E : Value->Shared->Prop} {Q : Option (Value × Nat)->Shared->Prop} (bt : w.params.followText "set-order" = false) (led : t.led = true) (dr : (!t.plain && decide (es.size > 1)) = false) (r : RawS s.heap S es ep t) (hf : t.fits es.size = true) (q : Q none s) : wpAny (model P w) A (setNext S slot i ep) Q E s := by
 obtain ⟨o, ho, hd⟩ := r
 unfold setNext setsByText
 refine wpAny_bind (wpAny_setState_of ho hd hf ?_)
 dsimp only
 refine wpAny_bind (wpAny_bind (wpAny_askSetting (wpAny_pure ?_)))
 rw [if_neg (show ¬ (⟨(model P w).prog, (model P w).w.params⟩ : Setting).params.followText "set-order" = true by show ¬ w.params.followText "set-order" = true; rw [bt]; decide)]
 show wpAny _ _ (if (!t.plain && decide (es.size > 1)) = true then _ else _) _ _ _
 rw [dr, if_neg Qkr]
 refine wpAny_bind (m := (if (!t.led && !es.isEmpty) = true then unsupported "set:maker-not-led" else pure ())) ?_
 rw [led, if_neg (by simp)]
 refine wpAny_pure (wpAny_pure ?_)
 rw [h1]; exact q
end
end ST
end L2
namespace L2
open PySem PySem.Spec PyProof.Rows
namespace ST
open PySem.SetTable
section
variable {M : Model} {A : Around} {E : Value->Shared->Prop}
theorem Qcy {α : Type} : ∀ (xs : List α) (i : Nat) (h : i < xs.length), (xs[i] :: xs.eraseIdx i).Perm xs
 | x :: xs, 0, _ => .refl _
 | x :: xs, i + 1, h => by
  show (xs[i]'(Nat.lt_of_succ_lt_succ h) :: x :: xs.eraseIdx i).Perm (x :: xs)
  exact (List.Perm.swap _ _ _).trans (List.Perm.cons x (Qcy xs i (Nat.lt_of_succ_lt_succ h)))
theorem Qkd {src : Source} {n : Nat} {s : Shared} {Q : Nat->Shared->Prop} (hn : n ≠ 0) (h : ∀ i d, i < n->Q i { s with drawn := d }) : wpAny M A (choose src n) Q E s := fun Γ p hΓ => by
 show Sem.wp M Γ (.choose src n .pure) _ _ p s
 rw [Sem.wp_choose]
 exact ⟨hn, h _ _ (Nat.mod_lt _ (Nat.pos_of_ne_zero hn))⟩
theorem QjP {α : Type} : ∀ (n : Nat) (xs : List α) (s : Shared) (Q : List α->Shared->Prop), xs.length = n->(∀ ys d, ys.Perm xs->Q ys { s with drawn := d })->wpAny M A (drawOrder n xs) Q E s
 | 0, xs, s, Q, hl, h => by
  have : xs = [] := List.length_eq_zero_iff.mp hl
  subst this
  exact wpAny_pure (h [] s.drawn (.refl _))
 | n + 1, [], s, Q, hl, h => by simp at hl
 | n + 1, x :: xs, s, Q, hl, h => by
  unfold drawOrder
  refine wpAny_bind (Qkd (by simp) fun i d hi => ?_)
  have hi' : (x :: xs)[i]? = some (x :: xs)[i] := Qks hi
  rw [hi']
  refine wpAny_bind (QjP n _ _ _ (by rw [List.length_eraseIdx, if_pos hi, hl]; rfl) fun ys d' pm => ?_)
  refine wpAny_pure (h _ d' ?_)
  exact (List.Perm.cons _ pm).trans (Qcy _ _ hi)
theorem QiD {α : Type} (next : Nat->Nat) : ∀ (f k : Nat) (left : List α) (out : Array α), left.length = f->(pickOrder.go next f k left out).toList.Perm (out.toList ++ left)
 | 0, k, left, out, h => by
  have : left = [] := List.length_eq_zero_iff.mp h
  subst this
  unfold pickOrder.go; rw [List.append_nil]
 | f + 1, k, left, out, h => by
  unfold pickOrder.go
  have hi : next k % left.length < left.length := Nat.mod_lt _ (by omega)
  rw [Qks hi]
  dsimp only
  refine (QiD next f (k + 1) _ _ (by rw [List.length_eraseIdx, if_pos hi, h]; rfl)).trans ?_
  rw [Array.toList_push, List.append_assoc]
  refine List.Perm.append_left _ ?_
  exact Qcy _ _ hi
theorem Qdi {α : Type} (next : Nat->Nat) (xs : Array α) : (pickOrder next xs).toList.Perm xs.toList := by
 have := QiD next xs.size 0 xs.toList #[] (by simp)
 simpa [pickOrder] using this
end
section
set_option maxRecDepth 100000
theorem QcM : entryFor table "set_iterator.__iter__" = some Builtin.«dict_keyiterator.__iter__» := entryFor_alias (id' := "dict_keyiterator.__iter__") (by kernel_rfl) rfl (by decide +kernel) (by kernel_rfl)
theorem QdB (a : Value) : argsOk "set_iterator.__iter__" ⟨[a], []⟩ := by unfold argsOk; kernel_rfl
end
section
variable {P : Program} {w : World} {A : Around} {E : Value->Shared->Prop} {s : Shared} {it S : Addr} {es : Array (Int × Value)} {ep : Nat} {t : SetTable} {f : Value} {i : Nat}
theorem QfH {Q : Value->Shared->Prop} (hit : SIt s.heap it S f i es.size ep) (h : Q (.ref it) s) : wpAny (model P w) A (pyIter (.ref it)) Q E s := by
 refine wpAny_pyIter_slot hit.type Qbw (wpAny_call_entry Qbw hit.type QcM ?_ (QdB _))
 show wpAny _ _ (ret (.ref it)) _ _ s
 exact wpAny_pure ⟨_, rfl, "set_iterator", _, hit.type, Qam.lookup, h⟩
theorem RawS.at {h h' : Heap} (r : RawS h S es ep t) (k : ∀ o, h.get? S = some o->h'.get? S = some o) : RawS h' S es ep t := let ⟨o, a, b⟩ := r; ⟨o, k o a, b⟩
theorem SIt.at {h h' : Heap} {n : Nat} (r : SIt h it S f i n ep) (k : ∀ o, h.get? it = some o->h'.get? it = some o) : SIt h' it S f i n ep := k _ r
theorem wk_text (hh : A.handled = none) (bt : w.params.followText "set-order" = true) (hf : t.fits es.size = true) (hne : S ≠ it) :
  Walks P w A it [it, S] [it] es.size (fun i v => ∃ x, (pickOrder (w.params.setOrder S ep) es).toList[i]? = some x/\v = x.2) (fun i h => SIt h it S (.int 0 0) i es.size ep/\RawS h S es ep t) where
 sub := fun b hb => by simp at hb; simp [hb]
 frame := fun _ _ _ st hk => ⟨st.1.at fun o e => hk it (by simp) o e, st.2.at fun o e => hk S (by simp) o e⟩
 item := fun i s Q E hi st hQ => by
  have lz : (pickOrder (w.params.setOrder S ep) es).size = es.size := by have := (Qdi (w.params.setOrder S ep) es).length_eq; simpa using this
  have hx : (pickOrder (w.params.setOrder S ep) es)[i]? = some (pickOrder (w.params.setOrder S ep) es)[i] := Array.getElem?_eq_getElem (by omega)
  refine QgQ (slot := 0) (nx := 0) st.1 st.2 hf (fun A E Q q => QeN bt st.2 hf hx q) fun h' g sb => hQ _ h' s.toks ⟨_, by rw [Array.getElem?_toList]; exact hx, rfl⟩ ⟨g, st.2.at fun o e => by rw [sb.2 S hne]; exact e⟩ fun b o hb e => by rw [sb.2 b (by simpa using hb)]; exact e
 done := fun s Q E st hQ => by
  have lz : (pickOrder (w.params.setOrder S ep) es).size = es.size := by have := (Qdi (w.params.setOrder S ep) es).length_eq; simpa using this
  refine QjO (slot := 0) hh st.1 st.2 hf (fun A E Q q => Qde bt st.2 hf (Array.getElem?_eq_none (by omega)) q) fun h' k => hQ h' s.toks fun b o hb e => k b o (by simpa using hb) e
 self := fun _ _ _ _ st hQ => QfH st.1 hQ
theorem QhU {xs : Array Nat} (hr : Ris xs) {i j : Nat} (h : xs[i]? = some j) : below xs (j + 1) = i + 1 := by
 obtain ⟨b1, b2, b3⟩ := QcX hr (j + 1)
 have li := (Array.getElem?_eq_some_iff.mp h).1
 by_cases q : below xs (j + 1)<=i
 ·have := b3 i j h q; omega
 ·by_cases r : i + 1 < below xs (j + 1)
  ·have hb : i + 1 < xs.size := by omega
   have e := Array.getElem?_eq_getElem hb
   have := b2 _ _ e r
   have := hr.at h e (Nat.lt_succ_self i)
   omega
  ·omega
theorem wk_place (hh : A.handled = none) (bt : w.params.followText "set-order" = false) (led : t.led = true) (dr : (!t.plain && decide (es.size > 1)) = false) (hf : t.fits es.size = true) (hr : Ris t.place) (hz : t.place.size = es.size) (hne : S ≠ it) :
  Walks P w A it [it, S] [it] es.size (fun i v => ∃ x, es.toList[i]? = some x/\v = x.2) (fun i h => ∃ slot : Nat, SIt h it S (.int slot 0) i es.size ep/\below t.place slot = i/\RawS h S es ep t) where
 sub := fun b hb => by simp at hb; simp [hb]
 frame := fun _ _ _ st hk => let ⟨sl, a, b, c⟩ := st; ⟨sl, a.at fun o e => hk it (by simp) o e, b, c.at fun o e => hk S (by simp) o e⟩
 item := fun i s Q E hi st hQ => by
  obtain ⟨sl, a, b, c⟩ := st
  have h1 : es[below t.place sl]? = some es[i] := by rw [b]; exact Array.getElem?_eq_getElem hi
  have hip : i < t.place.size := by omega
  have h2 : t.place[below t.place sl]? = some t.place[i] := by rw [b]; exact Array.getElem?_eq_getElem hip
  refine QgQ a c hf (fun A E Q q => Qee h1 h2 bt led dr c hf q) fun h' g sb => hQ _ h' s.toks ⟨es[i], by rw [Array.getElem?_toList]; exact Array.getElem?_eq_getElem hi, rfl⟩ ⟨_, g, QhU hr (Array.getElem?_eq_getElem hip), c.at fun o e => by rw [sb.2 S hne]; exact e⟩ fun b o hb e => by rw [sb.2 b (by simpa using hb)]; exact e
 done := fun s Q E st hQ => by
  obtain ⟨sl, a, b, c⟩ := st
  refine QjO hh a c hf (fun A E Q q => QcI (Array.getElem?_eq_none (by omega)) bt led dr c hf q) fun h' k => hQ h' s.toks fun b o hb e => k b o (by simpa using hb) e
 self := fun _ _ _ _ st hQ => let ⟨_, a, _, _⟩ := st; QfH a hQ
theorem TupI.at {h h' : Heap} {T : Addr} {pl : List Nat} (r : TupI h T pl) (k : ∀ o, h.get? T = some o->h'.get? T = some o) : TupI h' T pl := let ⟨o, n, a, b⟩ := r; ⟨o, n, k o a, b⟩
theorem wk_drawn {T : Addr} {pl : List Nat} (hh : A.handled = none) (hf : t.fits es.size = true) (hne : S ≠ it) (hnT : T ≠ it) (hp : pl.length = es.size) (hb : ∀ p ∈ pl, p < es.size) :
  Walks P w A it [it, S, T] [it] es.size (fun i v => ∃ x, (pl.filterMap fun p => es[p]?)[i]? = some x/\v = x.2) (fun i h => SIt h it S (.ref T) i es.size ep/\RawS h S es ep t/\TupI h T pl) where
 sub := fun b hb => by simp at hb; simp [hb]
 frame := fun _ _ _ st hk => ⟨st.1.at fun o e => hk it (by simp) o e, st.2.1.at fun o e => hk S (by simp) o e, st.2.2.at fun o e => hk T (by simp) o e⟩
 item := fun i s Q E hi st hQ => by
  have hpi : i < pl.length := by omega
  have h1 : pl[i]? = some pl[i] := Qks hpi
  have lt := hb _ (List.getElem_mem hpi)
  have h2 : es[pl[i]]? = some es[pl[i]] := Array.getElem?_eq_getElem lt
  have h3 : (pl.filterMap fun p => es[p]?)[i]? = some es[pl[i]] := by
   have gen : ∀ (l : List Nat) (i p : Nat) (x : Int × Value), (∀ p ∈ l, p < es.size)->l[i]? = some p->es[p]? = some x->(l.filterMap fun p => es[p]?)[i]? = some x := by
    intro l
    induction l with
    | nil => intro i p x _ h; simp at h
    | cons q l ih =>
     intro i p x hl hi hx
     rw [List.filterMap_cons, Array.getElem?_eq_getElem (hl q Qkv)]
     cases i with
     | zero =>
      have : q = p := by simpa using hi
      subst this
      rw [Array.getElem?_eq_getElem (hl q Qkv)] at hx
      exact hx
     | succ i => exact ih i p x (fun p hp => hl p (QkA _ hp)) (by simpa using hi) hx
   exact gen pl i _ _ hb h1 h2
  refine next_ref st.1 st.2.1 hf st.2.2 h1 h2 fun h' g sb => hQ _ h' s.toks ⟨_, h3, rfl⟩ ⟨g, st.2.1.at fun o e => by rw [sb.2 S hne]; exact e, st.2.2.at fun o e => by rw [sb.2 T hnT]; exact e⟩ fun b o hb e => by rw [sb.2 b (by simpa using hb)]; exact e
 done := fun s Q E st hQ => by
  refine end_ref hh st.1 st.2.1 hf st.2.2 (by omega) fun h' k => hQ h' s.toks fun b o hb e => k b o (by simpa using hb) e
 self := fun _ _ _ _ st hQ => QfH st.1 hQ
theorem Qhx (es : Array (Int × Value)) : (List.range es.size).filterMap (fun p => es[p]?) = es.toList := by
 have gen : ∀ (l : List (Int × Value)), (List.range l.length).filterMap (fun k => l[k]?) = l := by
  intro l
  induction l with
  | nil => rfl
  | cons x l ih =>
   rw [QkH, List.range_succ_eq_map, List.filterMap_cons]
   show x :: ((List.range l.length).map Nat.succ).filterMap (fun k => (x :: l)[k]?) = x :: l
   rw [List.filterMap_map]
   have e : ((fun k => (x :: l)[k]?) ∘ Nat.succ) = fun k => l[k]? := by funext k; show (x :: l)[k + 1]? = _; exact List.getElem?_cons_succ
   rw [e, ih]
 have := gen es.toList
 rw [Array.length_toList] at this
 simpa using this
theorem iter_set {o : Obj} (hh : A.handled = none) (ho : s.heap.get? S = some o) (ex : o.ExactSet) (hd : o.data = .set es ep t) (hf : t.fits es.size = true) (hr : Ris t.place) (hz : t.place.size = es.size) (led : t.led = !w.params.followText "set-order") (hs : es.size<=1000) {Q : Value->Shared->Prop}
  (h : ∀ (it : Addr) (h1 : Heap) d (vals : List (Int × Value)) (fp : List Addr) (St : Nat->Heap->Prop), s.heap.objs.size<=it->(∀ b o, s.heap.get? b = some o->h1.get? b = some o)->(∀ b ∈ fp, b = S\/s.heap.objs.size<=b)->h1.objs.size<=it + 1->(∀ b ∈ fp, b < h1.objs.size)->vals.Perm es.toList->Walks P w A it fp [it] es.size (fun i v => ∃ x, vals[i]? = some x/\v = x.2) St->St 0 h1->Q (.ref it) { s with heap := h1, drawn := d }) :
  wpAny (model P w) A (pyIter (.ref S)) Q E s := by
 have hT : s.TypeIs (.ref S) "set" := ⟨o, ho, ex.1⟩
 have hS : S < s.heap.objs.size := Qkw ho
 refine wpAny_pyIter_slot hT PySem.F.slot_set_iter (wpAny_call_entry PySem.F.slot_set_iter hT QdK ?_ (PySem.F.args_set_iter_1 _))
 unfold Builtin.«frozenset.__iter__»
 refine wpAny_bind (m := Builtin.Frozenset.slot0 _ _) (wpAny_pure (a := S) ?_)
 unfold Builtin.Frozenset.sizeOf
 refine wpAny_bind (wpAny_bind (wpAny_setEntries_of ho hd hf (wpAny_pure ?_)))
 unfold setDrawn setsByText
 refine wpAny_bind (wpAny_bind (wpAny_setState_of ho hd hf ?_))
 dsimp only
 refine wpAny_bind (wpAny_bind (wpAny_askSetting (wpAny_pure (wpAny_pure ?_))))
 show wpAny _ _ (if (!w.params.followText "set-order" && (!t.plain && decide (es.size > 1))) = true then _ else _) _ _ s
 have fin : ∀ (first : Value) (s1 : Shared), s1.heap.get? S = some o->(s1.gens = s.gens/\s1.toks = s.toks/\s1.os = s.os)->(∀ b o, s.heap.get? b = some o->s1.heap.get? b = some o)->s.heap.objs.size<=s1.heap.objs.size ->
   (∀ it h1, it = s1.heap.objs.size->(∀ b o, s1.heap.get? b = some o->h1.get? b = some o)->h1.objs.size = it + 1->SIt h1 it S first 0 es.size ep->RawS h1 S es ep t->∃ (vals : List (Int × Value)) (fp : List Addr) (St : Nat->Heap->Prop), (∀ b ∈ fp, b = S\/s.heap.objs.size<=b)/\(∀ b ∈ fp, b < h1.objs.size)/\vals.Perm es.toList/\Walks P w A it fp [it] es.size (fun i v => ∃ x, vals[i]? = some x/\v = x.2) St/\St 0 h1) ->
   wpAny (model P w) A.in1 (do ret (<-newFields "set_iterator" [first, rawInt 0, .ref S, rawInt es.size, rawInt (<-setEpoch S)])) (fun fin s' => ∃ v, fin = Fin.done (Flow.ret v)/\∃ T' r, s'.TypeIs v T'/\typeLookup (.type T') "__next__" = pure (some r)/\Q v s') E s1 := by
  intro first s1 h1 hg hk hsz hw
  refine wpAny_bind (wpAny_setEpoch_of h1 hd hf ?_)
  refine wpAny_bind (wpAny_newObj_type (wpAny_pure ⟨_, rfl, "set_iterator", _, ⟨_, QkE _ rfl, rfl⟩, Qam.lookup, ?_⟩))
  obtain ⟨vals, fp, St, c1, c2, c3, c4, c5⟩ := hw s1.heap.objs.size (s1.heap.push { cls := .type "set_iterator", data := .fields [first, rawInt 0, .ref S, rawInt es.size, rawInt ep].toArray }) rfl (fun b o e => Qkt _ e) (Heap.size_push ..) (QkE _ rfl) ⟨o, Qkt _ h1, hd⟩
  have := h _ _ s1.drawn vals fp St hsz (fun b o e => Qkt _ (hk b o e)) c1 (by rw [Heap.size_push]; exact Qky _) c2 c3 c4 c5
  obtain ⟨hp1, g1, d1, tk1, os1⟩ := s1
  obtain ⟨e1, e2, e3⟩ := hg
  simp only at e1 e2 e3
  subst e1; subst e2; subst e3
  exact this
 by_cases c : (!w.params.followText "set-order" && (!t.plain && decide (es.size > 1))) = true
 ·rw [if_pos c]
  refine wpAny_bind (QjP _ _ _ _ (by simp) fun ys d pm => ?_)
  refine wpAny_bind (wpAny_newTuple ?_ (by rw [Qkz, pm.length_eq, List.length_range, sizeLine_eq]; omega))
  refine fin _ _ (Qkt _ ho) ⟨rfl, rfl, rfl⟩ (fun b o e => Qkt _ e) (by show s.heap.objs.size<=(s.heap.push _).objs.size; rw [Heap.size_push]; exact Nat.le_succ _) fun it h1 eit kp hsz g r => ?_
  have zT : it = s.heap.objs.size + 1 := by rw [eit]; exact Heap.size_push ..
  have ge : s.heap.objs.size<=it := by rw [zT]; exact Nat.le_succ _
  have neS : S ≠ it := QkF (QkC hS ge)
  have neT : s.heap.objs.size ≠ it := by rw [zT]; exact QkF (Nat.lt_succ_self _)
  have l1 : it < h1.objs.size := by rw [hsz]; exact Nat.lt_succ_self _
  have l2 : S < h1.objs.size := Nat.lt_trans (QkC hS ge) l1
  refine ⟨ys.filterMap (fun p => es[p]?), [it, S, s.heap.objs.size], _, fun b hb => ?_, fun b hb => ?_, ?_, wk_drawn (pl := ys) hh hf neS neT (by rw [pm.length_eq, List.length_range]) (fun p hp => by simpa using pm.mem_iff.mp hp), g, r, ?_⟩
  ·simp only [List.mem_cons, List.not_mem_nil, or_false] at hb
   rcases hb with e | e | e
   ·exact .inr (by rw [e]; exact ge)
   ·exact .inl e
   ·exact .inr (by rw [e]; exact Qky _)
  ·simp only [List.mem_cons, List.not_mem_nil, or_false] at hb
   rcases hb with e | e | e
   ·rw [e]; exact l1
   ·rw [e]; exact l2
   ·rw [e]; exact QkN ge l1
  ·have := pm.filterMap (fun p => es[p]?)
   rwa [Qhx] at this
  ·exact ⟨_, _, kp _ _ (QkE _ rfl), rfl⟩
 ·rw [if_neg c]
  refine wpAny_bind (wpAny_pure ?_)
  have e0 : s = { s with drawn := s.drawn } := by cases s; rfl
  refine fin _ _ ho ⟨rfl, rfl, rfl⟩ (fun b o e => e) (Qky _) fun it h1 eit kp hsz g r => ?_
  have ge : s.heap.objs.size<=it := by rw [eit]; exact Qky _
  have neS : S ≠ it := QkF (QkC hS ge)
  have l1 : it < h1.objs.size := by rw [hsz]; exact Nat.lt_succ_self _
  have l2 : S < h1.objs.size := Nat.lt_trans (QkC hS ge) l1
  have mem : ∀ b ∈ [it, S], (b = S\/s.heap.objs.size<=b)/\b < h1.objs.size := fun b hb => by
   simp only [List.mem_cons, List.not_mem_nil, or_false] at hb
   rcases hb with e | e
   ·exact ⟨.inr (by rw [e]; exact ge), by rw [e]; exact l1⟩
   ·exact ⟨.inl e, by rw [e]; exact l2⟩
  cases bt : w.params.followText "set-order" with
  | true => exact ⟨_, [it, S], _, fun b hb => (mem b hb).1, fun b hb => (mem b hb).2, Qdi _ _, wk_text hh bt hf neS, g, r⟩
  | false =>
   rw [bt] at led c
   exact ⟨_, [it, S], _, fun b hb => (mem b hb).1, fun b hb => (mem b hb).2, .refl _, wk_place hh bt led (by simpa using c) hf hr hz neS, 0, g, by
    obtain ⟨b1, b2, b3⟩ := QcX hr 0
    refine Classical.byContradiction fun q => ?_
    have h0 : 0 < t.place.size := by omega
    exact absurd (b2 0 _ (Array.getElem?_eq_getElem h0) (by omega)) (Nat.not_lt_zero _), r⟩
end
end ST
end L2
namespace L2
open PySem PySem.Spec PyProof.Rows
namespace ST
open PySem.SetTable
section
variable {P : Program} {w : World} {A : Around} {E : Value->Shared->Prop} {s : Shared} {it S : Addr} {es : Array (Int × Value)} {ep : Nat} {t : SetTable} {f : Value} {i : Nat}
theorem hint_set (hT : s.TypeIs (.ref S) "set") {Q : Bool->Shared->Prop} (h : Q false s) : wpAny (model P w) A (Builtin.List.listLengthHint (.ref S)) Q E s := by
 unfold Builtin.List.listLengthHint
 refine wpAny_bind (wpAny_specialOf hT PySem.F.slot_set_len.lookup ?_)
 generalize hid : ("set.__len__" : String) = id0
 wp_delta
 rw [show splitId id0 = some ("set", "__len__") from by subst hid; decide +kernel]
 subst hid
 refine wpAny_bind (wpAny_isInstance (T := "set") (b := true) hT (by rw [isSubtype_type]; kernel_rfl) ?_)
 refine wpAny_ite_split (fun hab => absurd hab (by decide)) (fun _ => ?_)
 refine wpAny_ite_split (fun _ => ?_) (fun hab => absurd (by decide +kernel) hab)
 exact wpAny_bind (wpAny_typeOf hT (wpAny_pure h))
theorem collect_set {o : Obj} (hh : A.handled = none) (ho : s.heap.get? S = some o) (ex : o.ExactSet) (hd : o.data = .set es ep t) (hf : t.fits es.size = true) (hr : Ris t.place) (hz : t.place.size = es.size) (led : t.led = !w.params.followText "set-order") (hs : es.size<=1000) {R : List Value->Shared->Prop}
  (h : ∀ (h' : Heap) (tk : Nat) d (vals : List (Int × Value)), (∀ b o, s.heap.get? b = some o->h'.get? b = some o)->vals.Perm es.toList->R (vals.map (·.2)) { s with heap := h', toks := tk, drawn := d }) :
  wpAny (model P w) A (collect (.ref S)) R E s := by
 have hlt : S < s.heap.objs.size := Qkw ho
 have sl : es.size<=sizeLine := by rw [sizeLine_eq]; omega
 unfold collect
 refine wpAny_bind (wpAny_runValue (codeAny_builtin entry_proto_collect' ?_))
 rw [Around.under_plainId PySem.F.plain_proto_collect _]
 show wpAny _ A.in1 (newList [] >>= fun l => again (.builtin "list.__iadd__" ⟨[l, .ref S], []⟩)) _ _ s
 refine wpAny_bind (wpAny_newObj_type ?_)
 refine wpAny_pure ⟨plainId_quiet PySem.F.plain_list_iadd _, codeAny_builtin entry_list_iadd' ?_⟩
 rw [Around.under_plainId PySem.F.plain_list_iadd _]
 have g0 : (s.heap.push { cls := .type "list", data := .seq ([] : List Value).toArray }).get? s.heap.objs.size = some { cls := .type "list", data := .seq #[] } := QkE _ rfl
 have z0 : (s.heap.push { cls := .type "list", data := .seq ([] : List Value).toArray }).objs.size = s.heap.objs.size + 1 := Heap.size_push ..
 show wpAny _ A.in1 (Builtin.List.listExtendWith (.ref s.heap.objs.size) (.ref S) (.ref s.heap.objs.size)) _ _ _
 have hT : Shared.TypeIs { s with heap := s.heap.push { cls := .type "list", data := .seq ([] : List Value).toArray } } (.ref S) "set" := ⟨o, Qkt _ ho, ex.1⟩
 have neS : s.heap.objs.size ≠ S := Nat.ne_of_gt hlt
 unfold Builtin.List.listExtendWith
 refine wpAny_bind (wpAny_typeOf hT ?_)
 have h1 : Builtin.List.listSameRef (.ref s.heap.objs.size) (.ref S) = false := by simp [Builtin.List.listSameRef, neS]
 have h2 : (Value.type "set" == Value.type "list") = false := by decide
 have h3 : (Value.type "set" == Value.type "tuple") = false := by decide
 simp only [h1, h2, h3, Bool.or_false, Bool.false_eq_true, if_false]
 refine wpAny_bind (iter_set (A := A.in1) (s := { s with heap := s.heap.push { cls := .type "list", data := .seq ([] : List Value).toArray } }) hh (Qkt _ ho) ex hd hf hr hz led hs fun it h1 d vals fp St c1 c2 c3 c4 c4' c5 c6 c7 => ?_)
 have itg : s.heap.objs.size < it := by
  have : (s.heap.push { cls := .type "list", data := .seq ([] : List Value).toArray }).objs.size<=it := c1
  rw [z0] at this; exact this
 have hSf : s.heap.objs.size ∉ fp := fun z => by
  rcases c3 _ z with e | e
  ·exact neS e
  ·have e' : (s.heap.push { cls := .type "list", data := .seq ([] : List Value).toArray }).objs.size<=s.heap.objs.size := e
   rw [z0] at e'; exact absurd e' (Nat.not_succ_le_self _)
 have hT1 : Shared.TypeIs { s with heap := h1, drawn := d } (.ref S) "set" := ⟨o, c2 _ _ (Qkt _ ho), ex.1⟩
 have gS := c2 _ _ g0
 have kp0 : ∀ b o, s.heap.get? b = some o->h1.get? b = some o := fun b o e => c2 b o (Qkt _ e)
 have key : ∀ (R' : Result->Shared->Prop) (hp : Heap) (c₁ : Nat), St 0 hp->(∀ b o, s.heap.get? b = some o->hp.get? b = some o)->hp.get? s.heap.objs.size = some { cls := .type "list", data := .seq #[] c₁ } ->
   (∀ (h' : Heap) (tk : Nat) acc' c', (∀ b o, s.heap.get? b = some o->h'.get? b = some o)->h'.get? s.heap.objs.size = some { cls := .type "list", dict := none, data := .seq acc' c', slots := #[] }->acc'.toList = vals.map (·.2)->R' (.ok (.ret (.ref s.heap.objs.size))) { s with heap := h', toks := tk, drawn := d }) ->
   codeAny (model P w) A (.builtin "list.extend.loop" ⟨[.ref s.heap.objs.size, .ref it, .ref s.heap.objs.size], []⟩) R' { s with heap := hp, drawn := d } := by
  intro R' hp c₁ st hk g hR
  refine codeAny_extend_loopS c6.toS sl s.heap.objs.size hSf _ es.size 0 _ #[] c₁ rfl (Nat.zero_le _) st g (ItemsOf.nil _) fun s' acc' c' hm hS' hacc => ?_
  have ea : acc'.toList = vals.map (·.2) := by
   obtain ⟨a1, a2⟩ := hacc
   have lv : vals.length = es.size := by rw [c5.length_eq, Array.length_toList]
   refine List.ext_getElem? fun j => ?_
   rw [QkG, Array.getElem?_toList]
   by_cases hj : j < acc'.size
   ·obtain ⟨x, hx, hv⟩ := a2 j acc'[j] (Array.getElem?_eq_getElem hj)
    rw [hx, Array.getElem?_eq_getElem hj, hv]; rfl
   ·rw [Array.getElem?_eq_none (by omega), List.getElem?_eq_none (by omega)]; rfl
  obtain ⟨h', g', d', tk', os'⟩ := s'
  have eg : g' = s.gens := hm.gens
  have ed : d' = d := hm.drawn
  have eo : os' = s.os := hm.os
  subst eg; subst ed; subst eo
  refine hR h' tk' acc' c' (fun b o e => hm.heap b o (fun z => ?_) (hk b o e)) hS' ea
  have lb := Qkw e
  rcases List.mem_cons.mp z with e' | z
  ·rw [e'] at lb; exact QkL _ lb
  ·rw [List.mem_singleton.mp z] at lb; exact absurd lb (Nat.not_lt.mpr (Nat.le_of_lt itg))
 have last : ∀ (h' : Heap) (tk : Nat) acc' c', (∀ b o, s.heap.get? b = some o->h'.get? b = some o)->h'.get? s.heap.objs.size = some { cls := .type "list", dict := none, data := .seq acc' c', slots := #[] }->acc'.toList = vals.map (·.2) ->
   wpAny (model P w) A (do match (<-load s.heap.objs.size).data with | .seq xs _ => pure xs.toList | _ => unsupported "internal:collect") R E { s with heap := h', toks := tk, drawn := d } := fun h' tk acc' c' k g e => by
  refine wpAny_bind (wpAny_load g ?_)
  refine wpAny_pure ?_
  rw [e]; exact h h' tk d vals k c5
 refine wpAny_bind (wpAny_holding (hint_set hT1 ?_))
 refine wpAny_ite_split (fun _ => ?_) (fun _ => wpAny_pure ⟨plainId_quiet PySem.F.plain_extend_loop _, key _ _ _ c7 kp0 gS last⟩)
 refine wpAny_bind (wpAny_rule ?_)
 refine wpAny_bind ?_
 show wpAny _ _ (updateSeq s.heap.objs.size (·.push .none) >>= fun _ => updateSeq s.heap.objs.size (·.pop)) _ _ _
 refine wpAny_bind (wpAny_updateSeq gS rfl ?_)
 have hS₂ := Heap.get?_update_self (Obj.mapSeq (·.push Value.none)) gS rfl
 refine wpAny_updateSeq (hz := by seq_fits) hS₂ rfl ?_
 have hS₃ := Heap.get?_update_self (Obj.mapSeq (·.pop)) hS₂ rfl
 refine wpAny_pure ⟨plainId_quiet PySem.F.plain_extend_loop _, key _ _ _ (c6.frame 0 _ _ c7 fun b hb o e => ?_) (fun b o e => ?_) hS₃ last⟩
 ·have hbS : b ≠ s.heap.objs.size := fun h => hSf (h ▸ hb)
  exact (Heap.get?_update_other _ _ (Ne.symm hbS)).trans ((Heap.get?_update_other _ _ (Ne.symm hbS)).trans e)
 ·have hb : b ≠ s.heap.objs.size := QkF (Qkw e)
  exact (Heap.get?_update_other _ _ (Ne.symm hb)).trans ((Heap.get?_update_other _ _ (Ne.symm hb)).trans (kp0 b o e))
end
end ST
end L2
namespace L2
open PySem PySem.Spec PyProof.Rows PySem.W PySem.Calls
section
variable {prog : Program} {w : World} {A : Around} {E : Value->Shared->Prop} {s : Shared}
theorem QgC {r : Addr} {C : List Value->Shared->Prop} {Q : Value->Shared->Prop} (hc : wpAny (model prog w) A.in1 (collect (.ref r)) C E s)
  (hs : ∀ vs s1, C vs s1->vs.length < 64/\wpAny (model prog w) A.in1.in1 (Builtin.«list.sort» ⟨[.ref s1.heap.objs.size], []⟩) (fun fn z => fn = .done (.ret .none)/\Q (.ref s1.heap.objs.size) z) (fun _ _ => False) { s1 with heap := s1.heap.push (seqObj "list" vs.toArray 0) }) :
  wpAny (model prog w) A (call (.builtin "sorted") [.ref r]) Q E s := by
 refine call_function_entry kind_sorted plain_sorted entry_sorted (args_sorted1 _) ?_
 unfold Builtin.«sorted»
 refine wpAny_bind (m := checkCount "sorted" 1 1 _) (wpAny_pure (wpAny_bind (wpAny_mono hc (fun vs s1 hC => ?_) fun _ _ x => x)))
 obtain ⟨h64, k⟩ := hs vs s1 hC
 refine wpAny_bind (wpAny_newList ?_ (by rw [sizeLine_eq]; omega))
 refine wpAny_bind (wpAny_holding (wpAny_call_entry slot_list_sort ⟨_, QkE _ rfl, rfl⟩ entry_list_sort ?_ (args_list_sort _)))
 refine wpAny_mono k (fun fn s' hq => ?_) fun _ _ no => no.elim
 obtain ⟨rfl, hq⟩ := hq
 exact ⟨_, rfl, wpAny_pure ⟨_, rfl, hq⟩⟩
theorem few_sort {vs : List Value} {D : Addr} {P : PySem.Fin->Shared->Prop} (g : s.heap.get? D = some (seqObj "list" vs.toArray 0)) (h2 : vs.length < 2) (h : ∀ h' c, h'.get? D = some (seqObj "list" vs.toArray c)->(∀ b o, b ≠ D->s.heap.get? b = some o->h'.get? b = some o)->P (.done (.ret .none)) { s with heap := h' }) :
  wpAny (model prog w) A (Builtin.«list.sort» ⟨[.ref D], []⟩) P E s := by
 rw [list_sort_plain]
 have small : vs.length<=sizeLine := by rw [sizeLine_eq]; omega
 have few : vs.toArray.size < 2 := by simpa using h2
 obtain ⟨d, hd⟩ : ∃ d, (s.heap.update D (Obj.mapSeq fun _ => (#[] : Array Value))).get? D = some (seqObj "list" #[] d) := ⟨_, get?_update_seq g fun _ => #[]⟩
 refine wpAny_bind (listItems_at g rfl (wpAny_bind (listUpdate_at g rfl ?_ (by simpa using small) (Nat.zero_le _))))
 refine wpAny_bind (seqEpoch_at hd rfl (wpAny_bind (wpAny_newTuple (wpAny_bind (wpAny_newList (wpAny_holding ?_) (Nat.zero_le _))) (by simpa using small))))
 (try dsimp only)
 rw [if_pos few, if_pos few]
 refine wpAny_bind (wpAny_pure (wpAny_bind (wpAny_pure ?_)))
 (try dsimp only)
 have ho : (arrOf (SortSt.mk' general' (vs.toArray.zip vs.toArray) #[] 7 none)).map (·.2) = vs.toArray := by
  show (vs.toArray.zip vs.toArray).map (·.2) = _
  apply Array.toList_inj.mp
  rw [Array.toList_map]
  show List.map Prod.snd (vs.toArray.zip vs.toArray).toList = vs
  rw [Array.toList_zip]
  exact List.map_snd_zip (Qky _)
 rw [ho]
 have hd2 : (((s.heap.update D (Obj.mapSeq fun _ => (#[] : Array Value))).push (seqObj "tuple" vs.toArray 0)).push (seqObj "list" #[] 0)).get? D = some (seqObj "list" #[] d) := Qkt _ (Qkt _ hd)
 refine wpAny_bind (seqEpoch_at (s := { s with heap := ((s.heap.update D (Obj.mapSeq fun _ => (#[] : Array Value))).push (seqObj "tuple" vs.toArray 0)).push (seqObj "list" #[] 0) }) hd2 rfl ?_)
 refine wpAny_bind (listUpdate_at (s := { s with heap := ((s.heap.update D (Obj.mapSeq fun _ => (#[] : Array Value))).push (seqObj "tuple" vs.toArray 0)).push (seqObj "list" #[] 0) }) hd2 rfl ?_ (Nat.zero_le _) (by simp; omega))
 show wpAny _ _ _ _ _ _
 simp only [bne_self_eq_false, Bool.false_eq_true, if_false]
 refine wpAny_pure (h _ _ (get?_update_seq hd2 fun _ => vs.toArray) fun b o ne q => ?_)
 exact (Heap.get?_update_other _ _ (Ne.symm ne)).trans (Qkt _ (Qkt _ ((Heap.get?_update_other _ _ (Ne.symm ne)).trans q)))
end
section
variable {X : Cx}
theorem sort_str {pins : List (Addr × Obj)} {σ : L2.St} {H : Hp} {s : Shared} {xs : List V} {its : List Value} {lt : Nat->Nat->Bool} {Q : VK} (hh : X.A.units + 80 < cLine) (I : Inv X pins σ H s) (rv : Vals xs its) (h64 : xs.length < 64)
  (ht : 2<=xs.length->(∀ x ∈ xs, ∃ p a t, x = .ref p/\SqT X.K H p (.str a :: t))/\∀ (i j : Nat) (p q : Addr), xs[i]? = some (.ref p)->xs[j]? = some (.ref q)->∃ t t', SqT X.K H p t/\SqT X.K H q t'/\TupLt X H 20 true t t' (lt i j))
  (hQ : ∀ D, H D = none->Q (.ref D) (upd H D (.lst (QaD .non xs lt)))) :
  wpAny (model X.prog X.w) X.A.in1.in1 (Builtin.«list.sort» ⟨[.ref s.heap.objs.size], []⟩) (fun fn z => fn = .done (.ret .none)/\EP X pins σ Q (.ref s.heap.objs.size) z) (fun _ _ => False) { s with heap := s.heap.push (seqObj "list" its.toArray 0) } := by
 have lv := rv.length
 have g : (s.heap.push (seqObj "list" its.toArray 0)).get? s.heap.objs.size = some (seqObj "list" its.toArray 0) := QkE _ rfl
 have kp : ∀ b o, s.heap.get? b = some o->(s.heap.push (seqObj "list" its.toArray 0)).get? b = some o := fun b o e => Qkt _ e
 by_cases h2 : 2<=xs.length
 ·obtain ⟨ht, hcmp⟩ := ht h2
  obtain ⟨m, F⟩ := I.fr
  have lL := F.ns.lt
  refine kat_list_sort (s := { s with heap := s.heap.push (seqObj "list" its.toArray 0) }) (vs := its) (F.kept kp) ((QcU (g := X.base) (h := s.heap) (L := X.env.locals)).grown kp) g (Nat.ne_of_gt lL) (Heap.get?_none_of_le (QkI F.above (Nat.le_of_lt lL)))
   (fun p hp => QkF (Qkw ((QcU (g := X.base) (h := s.heap) (L := X.env.locals)) p hp).1)) (by omega) (by omega) fun e1 h1 F1 N1 => ?_
  have hlow : ∀ q ∈ allNews X.base s.heap X.env.locals, q.1 < s.heap.objs.size := fun q hq => Qkw ((QcU (g := X.base) (h := s.heap) (L := X.env.locals)) q hq).1
  generalize s.heap.objs.size = D at N1 hlow
  have nD := N1 (D, seqObj "list" #[] e1) (.head _)
  have old : ∀ b o, b ≠ X.env.locals->s.heap.get? b = some o->h1.get? b = some o := fun b o hb e => by
   cases q : X.base.get? b with
   | some u =>
    have := I.bk b u q
    rw [e] at this; cases this
    exact F1.keep b _ q
   | none => exact (N1 (b, o) (.tail _ (QbT hb q e))).1
  have sD : s.heap.get? D = none := by
   cases q : s.heap.get? D with
   | none => rfl
   | some o => exact absurd (hlow (D, o) (QbT nD.2.1 nD.2.2 q)) (QkL _)
  obtain ⟨yD, hD⟩ := young_of I sD nD.2.1 nD.2.2
  have nsOf : ∀ {g : Heap} {g' : Heap}, g.Ns X.env.locals m->Fr X.base X.env.locals g' m->∀ m', g.Ns X.env.locals m'->g'.Ns X.env.locals m' := fun {g g'} hg F' m' hm' => by
   rw [<-ns_inj hg hm']; exact F'.ns
  have I1 : Inv X pins σ H { s with heap := h1 } := I.led (t' := s.toks) yD hD (fun b o hb _ e => old b o hb e) (nsOf F.ns F1)
  have J : Inv X (pins ++ [(D, sqO [] e1)]) σ H { s with heap := h1 } := I1.pin1 yD hD nD.1 (Qig _ _)
  obtain ⟨zs, fs, z1, z2, z3, z4⟩ := QdT J rv fun y hy => let ⟨p, a, t, e, q⟩ := ht y hy; ⟨p, _, t, e, q⟩
  have lf := z2.length
  have zstr : ∀ z ∈ zs, ∃ a, z = .str a := fun z hz => by
   obtain ⟨i, hi, ei⟩ := List.getElem_of_mem hz
   have hiy : i < xs.length := by omega
   obtain ⟨p, t, e1, q1⟩ := z4 i xs[i] z (Qks hiy) (by rw [Qks hi, ei])
   obtain ⟨p', a, t', e2, q2⟩ := ht xs[i] (List.getElem_mem hiy)
   rw [e1] at e2; cases e2
   have := J.tuple_inj q1 q2
   exact ⟨a, (List.cons.inj this).1⟩
  refine PySem.W.kat_kind (T := .type "str") z3 (by omega) (QeH z2 zstr) (by decide) ?_
  have eκ : (Value.type "str" != Value.type "tuple") = true := by decide
  rw [eκ, show its.length = xs.length from lv.symm]
  refine QhX (lt := lt) (n := xs.length) (fun i j C hi hj hC => ?_) _ (Qhi (by omega)) ?_
  ·show wpAny (model X.prog X.w) X.A.in1.in1 (keyLt' (tuples' true) (its.getD i Value.none) (its.getD j Value.none)) C (fun _ _ => False) { s with heap := h1 }
   have at_ : ∀ i, i < xs.length->∃ p t, xs[i]? = some (.ref p)/\its.getD i Value.none = .ref p/\SqT X.K H p t := fun i hi => by
    obtain ⟨p, z, t, e, q⟩ := ht xs[i] (List.getElem_mem hi)
    obtain ⟨u, hu, ru⟩ := rv.get (Qks hi)
    rw [e] at ru
    refine ⟨p, _, by rw [Qks hi, e], ?_, q⟩
    rw [QkD, hu]
    exact (show u = Value.ref p from ru)
   obtain ⟨p, t, a1, a2, a3⟩ := at_ i hi
   obtain ⟨q, t', b1, b2, b3⟩ := at_ j hj
   rw [a2, b2]
   obtain ⟨t1, t2, c1, c2, c3⟩ := hcmp i j p q a1 b1
   exact Qjn J (n := 20) (by show X.A.units + 1 + 1 + 20 < cLine; omega) c1 c2 c3 hC
  obtain ⟨o1, o2⟩ := QiK (n := xs.length) (by omega) lt
  have pD := J.pin (D, sqO [] e1) (Qku _ (Qku _ (.head _)))
  refine PySem.W.KasFin.intro (news := (D, sqO [] e1) :: rest X.base h1 X.env.locals D) (g := fun o => (D, o) :: rest X.base h1 X.env.locals D) F1 (news_at yD.nL yD.nb pD.1) (.head rest_ne) fun h6 c6 F6 N6 => ?_
  have J6 : Inv X pins σ H { s with heap := h6 } := Inv.led (s := { s with heap := h1 }) (t' := s.toks) I1 yD pD.2.1 (Qfc I1.bk F6 fun p hp => N6 p (.tail _ hp)) (nsOf F1.ns F6)
  have eD6 := (N6 _ (.head _)).1
  have q := hQ D hD
  unfold QaD at q
  rw [if_pos h2] at q
  refine ⟨rfl, .ref D, _, J6.track yD hD (o := .lst ((ordT xs.length lt).map fun i => xs.getD i .non)) ⟨?_, _, c6, QeD rv _ o2, eD6⟩, rfl, q⟩
  rw [Qkz, o1]
  exact QkI (show xs.length<=1000 by omega) (Nat.le_of_lt (Qdd (Qky _)))
 ·refine few_sort (s := { s with heap := s.heap.push (seqObj "list" its.toArray 0) }) g (by omega) fun h' c g' kp' => ?_
  have fr := I.hok.fresh (Qky _)
  have q := hQ _ fr
  unfold QaD at q
  rw [if_neg h2] at q
  exact ⟨rfl, .ref _, _, I.laid (o := .lst xs) (t' := s.toks) (fun b o e => kp' b o (QkF (Qkw e)) (kp b o e)) (Qky _) ⟨QkI (show xs.length<=1000 by omega) (Nat.le_of_lt (Qdd (Qky _))), its, c, rv, g'⟩, rfl, q⟩
end
end L2
namespace DL
open PySem PySem.Spec PyProof.Rows L2
section
variable {X : Cx}
def ltD : Nat->W->W->Option Bool
 | 0, _, _ => none
 | n + 1, a, b => (match a, b with
  | .int i, .int j => some (decide (i < j))
  | .str i, .str j => some (decide (i.cps.toList < j.cps.toList))
  | .tup xs, .tup ys => lexK (eqD 12) (ltD n) xs ys
  | .lst xs, .lst ys => lexK (eqD 12) (ltD n) xs ys
  | _, _ => none)
theorem eqD_V {ι : Nat->Addr} {N : Nat} {H : Hp} {n : Nat} {w1 w2 : W} {b : Bool} {v1 v2 : V} (hn : 12<=n) (h : eqD 12 w1 w2 = some b) (r1 : RelW X.K ι N H v1 w1) (r2 : RelW X.K ι N H v2 w2) : EqV X H n v1 v2 b :=
 fun _ _ _ _ _ _ I ru rv hA => (Qfl I 12 h r1 r2 ru rv (by omega)).1
theorem QeZ {ι : Nat->Addr} {N : Nat} {H : Hp} {n : Nat} {lt : W->W->Option Bool} (hn : 12<=n) (hL : ∀ {w1 w2 : W} {b : Bool} {v1 v2 : V}, lt w1 w2 = some b->RelW X.K ι N H v1 w1->RelW X.K ι N H v2 w2->LtV X H n v1 v2 b) :
  ∀ {ws ws' : List W} {xs ys : List V} {b : Bool}, lexK (eqD 12) lt ws ws' = some b->RelWs X.K ι N H xs ws->RelWs X.K ι N H ys ws'->LtR (EqV X H n) (LtV X H n) xs ys b
 | [], [], _, _, _, h, .nil, .nil => by cases h; exact .nn
 | [], _ :: _, _, _, _, h, .nil, .cons _ _ => by cases h; exact .nc
 | _ :: _, [], _, _, _, h, .cons _ _, .nil => by cases h; exact .cn
 | w :: ws, w' :: ws', _, _, b, h, .cons r t, .cons r' t' => by
  unfold lexK at h
  cases e : eqD 12 w w' with
  | none => rw [e] at h; cases h
  | some c =>
   rw [e] at h
   cases c with
   | true => exact .eq (eqD_V hn e r r') (QeZ hn hL h t t')
   | false => exact .ne (eqD_V hn e r r') (hL h r r')
theorem ltD_V {ι : Nat->Addr} {N : Nat} {H : Hp} : ∀ (n : Nat) {w1 w2 : W} {b : Bool} {v1 v2 : V}, ltD n w1 w2 = some b->RelW X.K ι N H v1 w1->RelW X.K ι N H v2 w2->LtV X H (12 + n) v1 v2 b
 | 0, _, _, _, _, _, h, _, _ => by cases h
 | n + 1, w1, w2, b, v1, v2, h, r1, r2 => by
  unfold ltD at h
  split at h
  ·cases r1; cases r2; cases h; exact LtV.flat (.inl ⟨_, _, rfl, rfl, rfl⟩)
  ·cases r1; cases r2; cases h; exact LtV.flat (.inr ⟨_, _, rfl, rfl, rfl⟩)
  ·cases r1 with
   | tup s1 c1 t1 => cases r2 with
    | tup s2 c2 t2 => exact LtV.tup s1 s2 (QeZ (by omega) (fun e a b => ltD_V n e a b) h t1 t2)
  ·cases r1 with
   | lst s1 t1 => cases r2 with
    | lst s2 t2 => exact LtV.lst s1 s2 (QeZ (by omega) (fun e a b => ltD_V n e a b) h t1 t2)
  ·cases h
def Qcu (c : Bool) (a b : W) : Option Bool := match c, a, b with
 | true, .tup (.str x :: xs), .tup (.str y :: ys) => if xs.length = ys.length then (if x = y then lexK (eqD 12) (ltD 8) xs ys else some (decide (x.cps.toList < y.cps.toList))) else none
 | false, .tup (.tup k :: xs), .tup (.tup l :: ys) => if xs.length = ys.length then lexK (eqD 12) (ltD 8) (.tup k :: xs) (.tup l :: ys) else none
 | _, _, _ => none
def Qgb (c : Bool) (ks : List W) : Bool := decide (ks.length < 2) || ks.all fun a => ks.all fun b => (Qcu c a b).isSome
def keyB (c : Bool) (ks : List W) (i j : Nat) : Bool := (Qcu c (ks.getD i .non) (ks.getD j .non)).getD false
theorem Qji {c : Bool} {a b : W} {r : Bool} (h : Qcu c a b = some r) : ∃ z xs z' ys, a = .tup (z :: xs)/\b = .tup (z' :: ys)/\(if c = true then (∃ x, z = .str x)/\∃ y, z' = .str y else (∃ k, z = .tup k)/\∃ l, z' = .tup l) := by
 unfold Qcu at h
 split at h
 ·exact ⟨_, _, _, _, rfl, rfl, ⟨_, rfl⟩, _, rfl⟩
 ·exact ⟨_, _, _, _, rfl, rfl, ⟨_, rfl⟩, _, rfl⟩
 ·cases h
theorem keyLt_V {ι : Nat->Addr} {N : Nat} {H : Hp} {c : Bool} {a b : W} {r : Bool} {p q : Addr} (h : Qcu c a b = some r) (r1 : RelW X.K ι N H (.ref p) a) (r2 : RelW X.K ι N H (.ref q) b) : ∃ t t', SqT X.K H p t/\SqT X.K H q t'/\TupLt X H 20 c t t' r := by
 unfold Qcu at h
 split at h
 ·rename_i x xs y ys
  cases r1 with
  | tup s1 c1 t1 => cases r2 with
   | tup s2 c2 t2 =>
    refine ⟨_, _, s1, s2, ?_⟩
    cases t1 with
    | cons h1 t1 => cases t2 with
     | cons h2 t2 =>
      cases h1; cases h2
      split at h
      ·rename_i hl
       refine ⟨by simp [t1.length, t2.length, hl], _, _, _, _, rfl, rfl, ?_⟩
       split at h
       ·rename_i e; exact .inl ⟨e, QeZ (by omega) (fun e a b => ltD_V 8 e a b) h t1 t2⟩
       ·rename_i e; cases h; exact .inr ⟨e, rfl⟩
      ·cases h
 ·rename_i k xs l ys
  cases r1 with
  | tup s1 c1 t1 => cases r2 with
   | tup s2 c2 t2 =>
    refine ⟨_, _, s1, s2, ?_⟩
    split at h
    ·rename_i hl
     refine ⟨by rw [t1.length, t2.length]; simp [hl], ?_⟩
     exact QeZ (by omega) (fun e a b => ltD_V 8 e a b) h t1 t2
    ·cases h
 ·cases h
theorem QgV {c : Bool} {ks : List W} (h : Qgb c ks = true) (h2 : 2<=ks.length) {i j : Nat} {a b : W} (ha : ks[i]? = some a) (hb : ks[j]? = some b) : Qcu c a b = some (keyB c ks i j) := by
 unfold Qgb at h
 rw [Bool.or_eq_true, decide_eq_true_eq] at h
 rcases h with h | h
 ·omega
 ·have h' := List.all_eq_true.mp (List.all_eq_true.mp h a (List.mem_of_getElem? ha)) b (List.mem_of_getElem? hb)
  unfold keyB
  rw [QkD, QkD, ha, hb]
  cases e : Qcu c a b with
  | none => rw [e] at h'; cases h'
  | some r => show some r = some ((Qcu c a b).getD false); rw [e]; rfl
theorem RelWs.pick {K : PySem.W.Frag} {ι : Nat->Addr} {N : Nat} {G : Hp} {xs : List V} {ws : List W} (r : RelWs K ι N G xs ws) : ∀ (is : List Nat), (∀ i ∈ is, i < ws.length)->RelWs K ι N G (is.map fun i => xs.getD i .non) (is.map fun i => ws.getD i .non)
 | [], _ => .nil
 | i :: is, h => by
  have hi := h i Qkv
  obtain ⟨v, hv, rv⟩ := r.get (Qks hi)
  refine .cons ?_ (RelWs.pick r is fun j hj => h j (QkA _ hj))
  show RelW K ι N G (xs.getD i .non) (ws.getD i .non)
  rw [QkD, QkD, hv, Qks hi]
  exact rv
theorem RelWs.sorted {K : PySem.W.Frag} {ι : Nat->Addr} {N : Nat} {G : Hp} {xs : List V} {ws : List W} (r : RelWs K ι N G xs ws) (lt : Nat->Nat->Bool) : RelWs K ι N G (QaD .non xs lt) (QaD .non ws lt) := by
 unfold QaD
 rw [r.length]
 split
 ·rename_i h; exact r.pick _ fun i hi => (QiK (by omega) lt).2 i hi
 ·exact r
theorem opL_laid {ι : Nat->Addr} {G H : Hp} {st : S} {m : Bool} {xs : List V} {ws : List W} {Q : VK} (sr : SR X.K ι st G H) (r : RelWs X.K ι st.nxt G xs ws) (q : wpW X ι st.nxt G (opL m ws st) Q) : ∀ p, H p = none->Q (.ref p) (upd H p (.lst xs)) := by
 cases m with
 | true => exact (QbD sr r q).2
 | false => exact (Qcf sr r q).2
end
end DL
namespace DL
open PySem PySem.Spec PyProof.Rows L2
section
variable {X : Cx}
end
end DL
namespace DL
open PySem PySem.Spec PyProof.Rows L2
section
variable {X : Cx}
theorem SR.holdT {K : PySem.W.Frag} {ι : Nat->Addr} {st : S} {G H : Hp} (sr : SR K ι st G H) {b : Addr} {vs : List V} (hb : H b = some (.tup vs)) : ∃ G', Ext ι st.nxt G ι st.nxt G'/\SR K ι st G' H/\G' b = some (.tup vs) := by
 cases e : G b with
 | some o =>
  have := sr.sub b o e
  rw [hb] at this
  cases this
  exact ⟨G, Ext.refl _ _ _, sr, e⟩
 | none =>
  have sm : Same G (upd G b (.tup vs)) := fun c u q => by rw [Qaj (Qal q e)]; exact q
  have ex : Ext ι st.nxt G ι st.nxt (upd G b (.tup vs)) := ⟨Qky _, fun _ _ => rfl, sm⟩
  refine ⟨_, ex, ⟨fun c u q => ?_, fun n o q => ?_, sr.inj⟩, Qar⟩
  ·by_cases hc : c = b
   ·subst hc; rw [Qar] at q; rw [<-q]; exact hb
   ·rw [Qaj hc] at q; exact sr.sub c u q
  ·obtain ⟨h1, h2, h3⟩ := sr.live n o q
   have hne : ι n ≠ b := fun z => by
    cases o with
    | lst ws => obtain ⟨xs, q2, _⟩ := h3; rw [z, hb] at q2; cases q2
    | dct ks ws => obtain ⟨xs, q2, _⟩ := h3; rw [z, hb] at q2; cases q2
   refine ⟨h1, by rw [Qaj hne]; exact h2, ?_⟩
   cases o with
   | lst ws => obtain ⟨xs, q2, r⟩ := h3; exact ⟨xs, q2, r.mono ex⟩
   | dct ks ws => obtain ⟨xs, q2, l, r⟩ := h3; exact ⟨xs, q2, l, r.mono ex⟩
def Qfb : Key->W
 | .inl i => .int i
 | .inr x => .str x
def keyT (k : List Key) : W := .tup (k.map Qfb)
theorem Qdn {K : PySem.W.Frag} {ι : Nat->Addr} {N : Nat} {G : Hp} : ∀ k : List Key, RelWs K ι N G (k.map kV) (k.map Qfb)
 | [] => .nil
 | .inl i :: k => .cons (.int i) (Qdn k)
 | .inr x :: k => .cons (.str x) (Qdn k)
theorem SR.holdTs {K : PySem.W.Frag} {ι : Nat->Addr} {st : S} {H : Hp} : ∀ {bs : List Addr} {ks : List (List Key)} {G : Hp}, SR K ι st G H->bs.length = ks.length->(∀ (j : Nat) b k, bs[j]? = some b->ks[j]? = some k->H b = some (.tup (k.map kV))) ->
  ∃ G', Ext ι st.nxt G ι st.nxt G'/\SR K ι st G' H/\RelWs K ι st.nxt G' (bs.map V.ref) (ks.map keyT)
 | [], [], G, sr, _, _ => ⟨G, Ext.refl _ _ _, sr, .nil⟩
 | [], _ :: _, _, _, h, _ => by cases h
 | _ :: _, [], _, _, h, _ => by cases h
 | b :: bs, k :: ks, G, sr, hl, h => by
  obtain ⟨G1, e1, s1, g1⟩ := sr.holdT (h 0 b k rfl rfl)
  obtain ⟨G2, e2, s2, r2⟩ := SR.holdTs (bs := bs) (ks := ks) s1 (by simpa using hl) fun j b' k' hb hk => h (j + 1) b' k' (by simpa using hb) (by simpa using hk)
  have g2 := e2.sm _ _ g1
  exact ⟨G2, e1.trans e2, s2, .cons (.tup (.inl (.inl g2)) (fun _ => g2) (Qdn k)) r2⟩
end
end DL
namespace DL
open PySem PySem.Spec PyProof.Rows L2
section
variable {X : Cx}
end
end DL
namespace DL
open PySem PySem.Spec PyProof.Rows L2
section
variable {X : Cx}
end
end DL
namespace DL
open PySem PySem.Spec PyProof.Rows L2
section
variable {X : Cx}
def Qci : List W->Option (List DKey)
 | [] => some []
 | w :: ws => (match keyW w, Qci ws with | some k, some ks => some (k :: ks) | _, _ => none)
theorem QhL {w : W} {ws : List W} {ks : List DKey} (h : Qci (w :: ws) = some ks) : ∃ k ks', keyW w = some k/\Qci ws = some ks'/\ks = k :: ks' := by
 unfold Qci at h
 cases e1 : keyW w with
 | none => rw [e1] at h; cases h
 | some k =>
  cases e2 : Qci ws with
  | none => rw [e1, e2] at h; cases h
  | some ks' => rw [e1, e2] at h; exact ⟨k, ks', rfl, rfl, (Option.some.inj h).symm⟩
theorem Qfa {K : PySem.W.Frag} {ι : Nat->Addr} {N : Nat} {G : Hp} : ∀ {xs : List V} {ws : List W} {ks : List DKey}, RelWs K ι N G xs ws->Qci ws = some ks->∃ bs : List Addr, xs = bs.map V.ref/\bs.length = ks.length/\∀ (j : Nat) b k, bs[j]? = some b->ks[j]? = some k->G b = some (.tup (k.map kV))
 | [], [], ks, _, h => by cases h; exact ⟨[], rfl, rfl, fun j b k hb => by simp at hb⟩
 | [], _ :: _, _, r, _ => by cases r
 | _ :: _, [], _, r, _ => by cases r
 | x :: xs, w :: ws, ks, r, h => by
  cases r with
  | cons r1 r2 =>
   obtain ⟨k, ks', h1, h2, rfl⟩ := QhL h
   obtain ⟨bs, e1, e2, e3⟩ := Qfa r2 h2
   obtain ⟨b, rfl, hb⟩ := QbM r1 h1
   refine ⟨b :: bs, by rw [e1]; rfl, by simp [e2], fun j b' k' hb' hk' => ?_⟩
   cases j with
   | zero => simp at hb' hk'; subst hb' hk'; exact hb
   | succ j => exact e3 j b' k' (by simpa using hb') (by simpa using hk')
def QdL (m : Bool) (ks : List DKey) (st : S) : R W := if ks.length < 64/\Qgb true (ks.map keyT) = true then opL m (QaD .non (ks.map keyT) (keyB true (ks.map keyT))) st else .stuck
theorem QeK {m : Bool} {pins : List (Addr × Obj)} {σ : St} {H : Hp} {s : Shared} {ι : Nat->Addr} {G : Hp} {st : S} {bs : List Addr} {ks : List DKey} {Q : VK} (hu : X.A.units + 80 < cLine) (I : Inv X pins σ H s) (sr : SR X.K ι st G H) (hl : bs.length = ks.length) (h64 : ks.length < 64) (hok : Qgb true (ks.map keyT) = true)
  (hk : ∀ (j : Nat) b k, bs[j]? = some b->ks[j]? = some k->H b = some (.tup (k.map kV))) (q : wpW X ι st.nxt G (opL m (QaD .non (ks.map keyT) (keyB true (ks.map keyT))) st) Q) :
  wpAny (model X.prog X.w) X.A.in1.in1 (Builtin.«list.sort» ⟨[.ref s.heap.objs.size], []⟩) (fun fn z => fn = .done (.ret .none)/\EP X pins σ Q (.ref s.heap.objs.size) z) (fun _ _ => False) { s with heap := s.heap.push (seqObj "list" (bs.map Value.ref).toArray 0) } := by
 have vals : ∀ bs : List Addr, Vals (bs.map V.ref) (bs.map Value.ref) := by
  intro bs
  induction bs with
  | nil => exact .nil
  | cons b bs ih => exact .cons rfl ih
 obtain ⟨G', ex, sr', rel⟩ := sr.holdTs (bs := bs) (ks := ks) hl hk
 have rH := rel.mono sr'.look
 refine sort_str (lt := keyB true (ks.map keyT)) hu I (vals bs) (by rw [Qkz]; omega) (fun h2 => ⟨fun x hx => ?_, fun i j p q hi hj => ?_⟩) fun D hD => opL_laid sr' (rel.sorted _) (wpW.later ex q) D hD
 ·obtain ⟨i, hi, ei⟩ := List.getElem_of_mem hx
  obtain ⟨a, ha, rela⟩ := rH.get' (Qks hi)
  rw [ei] at rela
  obtain ⟨z, zs, z', zs', ea, _, hz⟩ := Qji (QgV hok (by rw [Qkz] at h2 ⊢; omega) ha ha)
  rw [if_pos rfl] at hz
  obtain ⟨⟨y, rfl⟩, _⟩ := hz
  subst ea
  cases rela with
  | tup sq cq tq => cases tq with
   | cons h1 t1 => cases h1; exact ⟨_, y, _, rfl, sq⟩
 ·obtain ⟨a, ha, rela⟩ := rH.get' hi
  obtain ⟨b, hb', relb⟩ := rH.get' hj
  exact keyLt_V (QgV hok (by rw [Qkz] at h2 ⊢; omega) ha hb') rela relb
def Qcs (m : Bool) : OpN := fun ws st => match ws with
 | [w] => (match QbW st w with
  | some (ks, _) => QdL m ks st
  | none => .stuck)
 | _ => .stuck
theorem cw_sortD {m : Bool} (hh : X.A.handled = none) (hu : X.A.units + 80 < cLine) : QdE X (.builtin "sorted") (Qcs m) := by
 intro pins s σ H ι G st xs ws us Q I sr rv t q
 unfold Qcs at q
 split at q
 ·rename_i w
  cases e : QbW st w with
  | none => rw [e] at q; exact (show False from q).elim
  | some p =>
   obtain ⟨ks, vs⟩ := p
   rw [e] at q
   have q : wpW X ι st.nxt G (QdL m ks st) Q := q
   unfold QdL at q
   by_cases hc : ks.length < 64/\Qgb true (ks.map keyT) = true
   ·rw [if_pos hc] at q
    obtain ⟨v, rfl, r⟩ := rel1 t
    obtain ⟨u, rfl, ru⟩ := rv.one
    obtain ⟨a, ys, rfl, hH, hl, t2⟩ := QbF sr r e
    cases (show u = Value.ref a from ru)
    have lz : (ks.zip ys).length = ks.length := by rw [List.length_zip]; omega
    obtain ⟨z, lo, xs, rel, o, es, ep, h1, h2, h3, h4, h5⟩ := (show QaT X.prog X.w H s.heap a (.dT (ks.zip ys)) from I.hok a _ hH)
    have rd : RawD s.heap a es ep := ⟨o, h1, h2, h3⟩
    have lk : (ks.zip ys).length = xs.length := Paired.length rel
    have le : es.size = xs.length := by rw [<-Array.length_toList, h4, Qkz]
    have at_ : ∀ (j : Nat) v, (∃ en, es[j]? = some en/\v = en.key)->∃ x, xs[j]? = some x/\v = .ref x.2.1 := fun j v ⟨en, he, hv⟩ => by
     rw [<-Array.getElem?_toList, h4, QkG] at he
     cases hx : xs[j]? with
     | none => rw [hx] at he; cases he
     | some x => rw [hx] at he; cases he; exact ⟨x, rfl, hv⟩
    have prs : ∀ {l : List (List Key × V)} {m : List (List Key × Addr × Value)}, KT H l m->∀ (j : Nat) x q, m[j]? = some x->l[j]? = some q->H x.2.1 = some (.tup (q.1.map kV)) := by
     intro l m r
     induction r with
     | nil => intro j x q hx; simp at hx
     | cons hd _ ih =>
      intro j x q hx hq
      cases j with
      | zero => simp at hx hq; subst hx hq; exact hd.2.1
      | succ j => exact ih j x q (by simpa using hx) (by simpa using hq)
    refine QgC (C := fun vs s1 => vs = (xs.map fun x => x.2.1).map Value.ref/\Inv X pins σ H s1) (PySem.W.kdu_collect (src_raw (es := es) (ep := ep) lo) (by simpa using hh) rd (by rw [le, <-lk]; exact z) fun h' tk acc hk hacc => ?_) fun vs s1 hC => ?_
    ·obtain ⟨ha1, ha2⟩ := hacc
     refine ⟨?_, I.kept hk⟩
     refine List.ext_getElem? fun j => ?_
     rw [QkG, QkG, Array.getElem?_toList]
     by_cases hj : j < acc.size
     ·obtain ⟨x, hx, hv⟩ := at_ j acc[j] (ha2 j _ (by simp [hj]))
      rw [hx, Array.getElem?_eq_getElem hj, hv]; rfl
     ·rw [Array.getElem?_eq_none (by omega), List.getElem?_eq_none (by omega)]; rfl
    ·obtain ⟨rfl, I1⟩ := hC
     refine ⟨by rw [Qkz, Qkz]; omega, ?_⟩
     refine QeK hu I1 sr (by rw [Qkz]; omega) hc.1 hc.2 (fun j b k hb hk => ?_) q
     rw [QkG] at hb
     cases hx : xs[j]? with
     | none => rw [hx] at hb; cases hb
     | some x =>
      rw [hx] at hb
      have hb : x.2.1 = b := Option.some.inj hb
      subst hb
      have hj : j < ks.length := (List.getElem?_eq_some_iff.mp hk).1
      exact prs rel j x (k, ys[j]'(by omega)) hx (by rw [List.getElem?_zip_eq_some]; exact ⟨hk, Qks (by omega)⟩)
   ·rw [if_neg hc] at q; exact (show False from q).elim
 ·exact (show False from q).elim
def isPr : DKey->Bool
 | [.inr _, .inr _] => true
 | _ => false
theorem Qeu {k : DKey} (h : isPr k = true) : ∃ x y, k = [.inr x, .inr y] := by
 unfold isPr at h
 split at h
 ·exact ⟨_, _, rfl⟩
 ·cases h
def sl (x y : Str) : Prop := x.cps.toList < y.cps.toList
theorem sl_tot {x y : Str} (h : x ≠ y) : sl x y\/sl y x := by
 unfold sl
 by_cases q : x.cps.toList < y.cps.toList
 ·exact .inl q
 ·refine .inr ?_
  have hn : x.cps.toList ≠ y.cps.toList := fun e => h (by cases x; cases y; congr 1; exact Array.toList_inj.mp e)
  rcases Classical.em (y.cps.toList < x.cps.toList) with h3 | h3
  ·exact h3
  ·exact absurd (List.le_antisymm (List.not_lt.mp h3) (List.not_lt.mp q)) hn
theorem sl_as {x y : Str} (h : sl x y) (h' : sl y x) : False := List.lt_asymm h h'
theorem sl_tr {x y z : Str} (h : sl x y) (h' : sl y z) : sl x z := List.lt_trans h h'
theorem sl_ne {x y : Str} (h : sl x y) : x ≠ y := fun e => by subst e; exact sl_as h h
def prLt (x y x' y' : Str) : Prop := (x = x'/\sl y y')\/(x ≠ x'/\sl x x')
instance (x y : Str) : Decidable (sl x y) := inferInstanceAs (Decidable (x.cps.toList < y.cps.toList))
instance (x y x' y' : Str) : Decidable (prLt x y x' y') := by unfold prLt; exact inferInstance
theorem QbN (x y x' y' : Str) : Qcu true (keyT [.inr x, .inr y]) (keyT [.inr x', .inr y']) = some (decide (prLt x y x' y')) := by
 have e1 : Qcu true (keyT [.inr x, .inr y]) (keyT [.inr x', .inr y']) = if x = x' then lexK (eqD 12) (ltD 8) [.str y] [.str y'] else some (decide (x.cps.toList < x'.cps.toList)) := by
  show (if 1 = 1 then _ else none) = _
  rw [if_pos rfl]; rfl
 rw [e1]
 have e2 : lexK (eqD 12) (ltD 8) [.str y] [.str y'] = some (decide (sl y y')) := by
  show (match eqD 12 (.str y) (.str y') with | some true => lexK (eqD 12) (ltD 8) [] [] | some false => ltD 8 (.str y) (.str y') | none => none) = _
  by_cases q : y = y'
  ·have e : eqD 12 (.str y) (.str y') = some true := by subst q; show some (eqV (.str y) (.str y)) = _; simp [eqV]
   rw [e, decide_eq_false (fun h => sl_ne h q)]; rfl
  ·have e : eqD 12 (.str y) (.str y') = some false := by show some (eqV (.str y) (.str y')) = _; simp [eqV, q]
   rw [e]; rfl
 by_cases q : x = x'
 ·rw [if_pos q, e2]
  congr 1
  by_cases z : sl y y'
  ·rw [decide_eq_true z, decide_eq_true (show prLt x y x' y' from .inl ⟨q, z⟩)]
  ·rw [decide_eq_false z, decide_eq_false (show ¬ prLt x y x' y' from fun h => h.elim (fun h => z h.2) fun h => h.1 q)]
 ·rw [if_neg q]
  congr 1
  by_cases z : sl x x'
  ·have z' : x.cps.toList < x'.cps.toList := z
   rw [decide_eq_true z', decide_eq_true (show prLt x y x' y' from .inr ⟨q, z⟩)]
  ·have z' : ¬ x.cps.toList < x'.cps.toList := z
   rw [decide_eq_false z', decide_eq_false (show ¬ prLt x y x' y' from fun h => h.elim (fun h => q h.1) fun h => z h.2)]
theorem prLt_as {x y x' y' : Str} (h : prLt x y x' y') (h' : prLt x' y' x y) : False := by
 rcases h with ⟨e, h⟩ | ⟨e, h⟩
 ·rcases h' with ⟨_, h'⟩ | ⟨e', _⟩
  ·exact sl_as h h'
  ·exact e' e.symm
 ·rcases h' with ⟨e', _⟩ | ⟨_, h'⟩
  ·exact e e'.symm
  ·exact sl_as h h'
theorem prLt_tr {x y x' y' x2 y2 : Str} (h : prLt x y x' y') (h' : prLt x' y' x2 y2) : prLt x y x2 y2 := by
 rcases h with ⟨e, h⟩ | ⟨e, h⟩
 ·subst e
  rcases h' with ⟨e', h'⟩ | ⟨e', h'⟩
  ·exact .inl ⟨e', sl_tr h h'⟩
  ·exact .inr ⟨e', h'⟩
 ·rcases h' with ⟨e', h'⟩ | ⟨e', h'⟩
  ·subst e'; exact .inr ⟨e, h⟩
  ·have := sl_tr h h'
   exact .inr ⟨sl_ne this, this⟩
theorem keyT_inj : ∀ {a b : DKey}, keyT a = keyT b->a = b := by
 have go : ∀ {a b : List Key}, a.map Qfb = b.map Qfb->a = b := by
  intro a
  induction a with
  | nil => intro b h; cases b with | nil => rfl | cons _ _ => cases h
  | cons x a ih =>
   intro b h
   cases b with
   | nil => cases h
   | cons y b =>
    rw [List.map_cons, List.map_cons] at h
    injection h with h1 h2
    rw [ih h2]
    congr 1
    cases x with
    | inl i => cases y with
     | inl j => have : W.int i = W.int j := h1; injection this with z; rw [z]
     | inr z => cases (show W.int i = W.str z from h1)
    | inr u => cases y with
     | inl j => cases (show W.str u = W.int j from h1)
     | inr z => have : W.str u = W.str z := h1; injection this with e; rw [e]
 intro a b h
 exact go (W.tup.inj h)
def prR (a b : W) : Prop := Qcu true a b = some true
theorem prR_as (a b : W) (h : prR a b) (h' : prR b a) (ha : ∃ x y, a = keyT [.inr x, .inr y]) (hb : ∃ x y, b = keyT [.inr x, .inr y]) : False := by
 obtain ⟨x, y, rfl⟩ := ha
 obtain ⟨x', y', rfl⟩ := hb
 unfold prR at h h'
 rw [QbN] at h h'
 exact prLt_as (of_decide_eq_true (Option.some.inj h)) (of_decide_eq_true (Option.some.inj h'))
theorem Qdc {ks : List DKey} (hp : ks.all isPr = true) (nd : ks.Nodup) : (QaD .non (ks.map keyT) (keyB true (ks.map keyT))).Perm (ks.map keyT)/\(QaD .non (ks.map keyT) (keyB true (ks.map keyT))).Pairwise (fun a b => prR a b/\(∃ x y, a = keyT [.inr x, .inr y])/\∃ x y, b = keyT [.inr x, .inr y]) := by
 have sh : ∀ a ∈ ks.map keyT, ∃ x y, a = keyT [.inr x, .inr y] := fun a ha => by
  obtain ⟨k, hk, rfl⟩ := List.mem_map.mp ha
  obtain ⟨x, y, e⟩ := Qeu (List.all_eq_true.mp hp k hk)
  exact ⟨x, y, by rw [e]⟩
 refine Qhr (r := fun a b => prR a b/\(∃ x y, a = keyT [.inr x, .inr y])/\∃ x y, b = keyT [.inr x, .inr y]) (fun a b c ha hb hc h h' => ?_) (fun a b h h' => prR_as a b h.1 h'.1 h.2.1 h.2.2) (fun a b ha hb hne => ?_) ?_ fun i j a b ha hb => ?_
 ·refine ⟨?_, h.2.1, h'.2.2⟩
  obtain ⟨x, y, rfl⟩ := sh a ha
  obtain ⟨x', y', rfl⟩ := sh b hb
  obtain ⟨x2, y2, rfl⟩ := sh c hc
  have h1 := h.1
  have h2 := h'.1
  unfold prR at h1 h2 ⊢
  rw [QbN] at h1 h2 ⊢
  rw [decide_eq_true (prLt_tr (of_decide_eq_true (Option.some.inj h1)) (of_decide_eq_true (Option.some.inj h2)))]
 ·obtain ⟨x, y, rfl⟩ := sh a ha
  obtain ⟨x', y', rfl⟩ := sh b hb
  have key : prLt x y x' y'\/prLt x' y' x y := by
   by_cases q : x = x'
   ·have ny : y ≠ y' := fun z => hne (by rw [q, z])
    rcases sl_tot ny with h | h
    ·exact .inl (.inl ⟨q, h⟩)
    ·exact .inr (.inl ⟨q.symm, h⟩)
   ·rcases sl_tot q with h | h
    ·exact .inl (.inr ⟨q, h⟩)
    ·exact .inr (.inr ⟨fun z => q z.symm, h⟩)
  rcases key with h | h
  ·exact .inl ⟨by unfold prR; rw [QbN, decide_eq_true h], ⟨x, y, rfl⟩, ⟨x', y', rfl⟩⟩
  ·exact .inr ⟨by unfold prR; rw [QbN, decide_eq_true h], ⟨x', y', rfl⟩, ⟨x, y, rfl⟩⟩
 ·unfold List.Nodup
  rw [List.pairwise_map]
  exact nd.imp fun h e => h (keyT_inj e)
 ·obtain ⟨x, y, rfl⟩ := sh a (List.mem_of_getElem? ha)
  obtain ⟨x', y', rfl⟩ := sh b (List.mem_of_getElem? hb)
  unfold keyB
  rw [QkD, QkD, ha, hb]
  show (Qcu true (keyT [.inr x, .inr y]) (keyT [.inr x', .inr y'])).getD false = true ↔ _
  constructor
  ·intro h
   refine ⟨?_, ⟨x, y, rfl⟩, ⟨x', y', rfl⟩⟩
   unfold prR
   rw [QbN] at h ⊢
   exact congrArg some h
  ·intro h
   have := h.1
   unfold prR at this
   rw [this]; rfl
theorem Qhq {ks ls : List DKey} (hp : ks.all isPr = true) (n1 : ks.Nodup) (n2 : ls.Nodup) (hm : ∀ k, k ∈ ks ↔ k ∈ ls) : QaD .non (ks.map keyT) (keyB true (ks.map keyT)) = QaD .non (ls.map keyT) (keyB true (ls.map keyT)) := by
 have pm : ks.Perm ls := (List.perm_ext_iff_of_nodup n1 n2).mpr hm
 have hp2 : ls.all isPr = true := List.all_eq_true.mpr fun k hk => List.all_eq_true.mp hp k ((hm k).mpr hk)
 obtain ⟨a1, a2⟩ := Qdc hp n1
 obtain ⟨b1, b2⟩ := Qdc hp2 n2
 exact QeJ (fun a b h h' => prR_as a b h.1 h'.1 h.2.1 h.2.2) (a1.trans ((pm.map keyT).trans b1.symm)) a2 b2
theorem pr_ok {ks : List DKey} (hp : ks.all isPr = true) : Qgb true (ks.map keyT) = true := by
 unfold Qgb
 rw [Bool.or_eq_true]
 refine .inr (List.all_eq_true.mpr fun a ha => List.all_eq_true.mpr fun b hb => ?_)
 obtain ⟨k, hk, rfl⟩ := List.mem_map.mp ha
 obtain ⟨l, hl, rfl⟩ := List.mem_map.mp hb
 obtain ⟨x, y, rfl⟩ := Qeu (List.all_eq_true.mp hp k hk)
 obtain ⟨x', y', rfl⟩ := Qeu (List.all_eq_true.mp hp l hl)
 rw [QbN]; rfl
theorem hasK_iff {k : DKey} {ks : List DKey} : hasK k ks = true ↔ k ∈ ks := by
 unfold hasK
 rw [List.any_eq_true]
 exact ⟨fun ⟨j, hj, e⟩ => (of_decide_eq_true e) ▸ hj, fun h => ⟨k, h, decide_eq_true rfl⟩⟩
def Qdx : List DKey->List DKey->List DKey
 | [], acc => acc
 | k :: ks, acc => Qdx ks (if hasK k acc = true then acc else acc ++ [k])
def dedK (ks : List DKey) : List DKey := Qdx ks []
theorem Qgn : ∀ (ks acc : List DKey), acc.Nodup->(Qdx ks acc).Nodup/\∀ k, k ∈ Qdx ks acc ↔ k ∈ acc\/k ∈ ks
 | [], acc, h => ⟨h, fun k => by show k ∈ acc ↔ _; simp⟩
 | x :: ks, acc, h => by
  show (Qdx ks (if hasK x acc = true then acc else acc ++ [x])).Nodup/\∀ k, k ∈ Qdx ks (if hasK x acc = true then acc else acc ++ [x]) ↔ _
  by_cases q : hasK x acc = true
  ·rw [if_pos q]
   obtain ⟨a, b⟩ := Qgn ks acc h
   refine ⟨a, fun k => (b k).trans ?_⟩
   rw [List.mem_cons]
   exact ⟨fun z => z.elim .inl fun z => .inr (.inr z), fun z => z.elim .inl fun z => z.elim (fun z => .inl (z ▸ hasK_iff.mp q)) .inr⟩
  ·rw [if_neg q]
   obtain ⟨a, b⟩ := Qgn ks (acc ++ [x]) (by
    rw [List.nodup_append]
    exact ⟨h, by simp, fun u hu v hv e => by rw [List.mem_singleton.mp hv] at e; exact q (hasK_iff.mpr (e ▸ hu))⟩)
   refine ⟨a, fun k => (b k).trans ?_⟩
   rw [List.mem_append, List.mem_singleton, List.mem_cons]
   exact ⟨fun z => z.elim (fun z => z.elim .inl fun z => .inr (.inl z)) fun z => .inr (.inr z), fun z => z.elim (fun z => .inl (.inl z)) fun z => z.elim (fun z => .inl (.inr z)) .inr⟩
theorem Qez (ks : List DKey) : (dedK ks).Nodup/\∀ k, k ∈ dedK ks ↔ k ∈ ks := by
 obtain ⟨a, b⟩ := Qgn ks [] .nil
 exact ⟨a, fun k => (b k).trans (by simp)⟩
def QbA (m : Bool) : W->S->R W := fun w st => match (QeY st w).bind Qci with
 | some ks => if ks.length < 64/\ks.all isPr = true then opL m (QaD .non ((dedK ks).map keyT) (keyB true ((dedK ks).map keyT))) st else .stuck
 | none => .stuck
theorem Qej {α β : Type} (f : α->β) : ∀ {m : List β} {l : List α}, m.Perm (l.map f)->∃ l' : List α, l'.Perm l/\m = l'.map f
 | [], l, p => by
  have : l = [] := by have := p.length_eq; simpa using this.symm
  subst this; exact ⟨[], .refl _, rfl⟩
 | x :: m, l, p => by
  obtain ⟨a, ha, e⟩ := List.mem_map.mp (p.mem_iff.mp Qkv)
  obtain ⟨s, t, rfl⟩ := List.append_of_mem ha
  rw [List.map_append, List.map_cons, e] at p
  have p2 : m.Perm ((s ++ t).map f) := by rw [List.map_append]; exact (p.trans List.perm_middle).cons_inv
  obtain ⟨l', q1, q2⟩ := Qej f p2
  exact ⟨a :: l', (q1.cons a).trans List.perm_middle.symm, by rw [List.map_cons, e, q2]⟩
theorem b_set : bootBuiltins "set" = some (.type "set") := by decide +kernel
theorem inv_drew {pins : List (Addr × Obj)} {σ : St} {H : Hp} {s : Shared} (I : Inv X pins σ H s) (d : Drawn) : Inv X pins σ H { s with drawn := d } := ⟨I.ok, I.os, I.bare, I.base, I.loc, I.cell, I.free, I.freeC, I.pin, I.hok, I.len⟩
theorem Qiw : ∀ {bs : List Addr} {its : List Value}, Vals (bs.map V.ref) its->its = bs.map Value.ref
 | [], _, .nil => rfl
 | b :: bs, _, .cons r t => by
  rename_i u us
  cases (show u = Value.ref b from r)
  rw [List.map_cons, <-Qiw t]
theorem pd_sortS {m : Bool} {e : Expr} {p p2 pos pos2 : Pos} {ra : Run} (hh : X.A.handled = none) (hu : X.A.units + 80 < cLine) (hg : Gl X "sorted") (hm : X.mg "sorted" = none) (hg2 : Gl X "set") (hm2 : X.mg "set" = none) (ha : PD X e ra) (hs : QfT e = true) :
  PD X (.Call (.Name "sorted" p) [.Call (.Name "set" p2) [e] [] pos2] [] pos) (run1 ra (QbA m)) := by
 have hs1 : starEach [e] X.env = [(false, eval e X.env)] := by
  cases e <;> first | rfl | exact absurd (show false = true from hs) Qkr
 intro pins s σ H Q I h
 obtain ⟨ι, G, st, Γ, en, sr, q⟩ := h
 refine wpAny_Call_Name_kw (QdS I hg hm b_sorted ?_)
 refine PyProof.Rows.callWith_builtin1 ?_
 show wpAny _ _ (spliced ((false, eval (.Call (.Name "set" p2) [e] [] pos2) X.env) :: backTo pos (starEach [] X.env))) _ _ s
 refine Calls.spliced_cons ?_
 refine wpAny_Call_Name_kw (QdS I hg2 hm2 b_set ?_)
 refine PyProof.Rows.callWith_type1 ?_ (by rw [hs1]; rfl) (by rfl)
 refine thn ((Qek ha QfP hs1) pos2 pins s σ H (fun vs H1 => ∃ v ι1 G1 st1 w, vs = [v]/\SR X.K ι1 st1 G1 H1/\RelW X.K ι1 st1.nxt G1 v w/\wpW X ι1 st1.nxt G1 (QbA m w st1) Q) I ?_) fun us s1 ⟨vs, H1, I1, r1, q1⟩ => ?_
 ·refine ⟨ι, G, st, Γ, en, sr, ?_⟩
  unfold run1 at q
  unfold Qaa Qac
  cases e1 : ra Γ st with
  | stuck => rw [e1] at q; exact q
  | ex c s => rw [e1] at q; exact q
  | ok w st1 =>
   rw [e1] at q
   intro vs ι1 G1 H1 x1 sr1 r1
   obtain ⟨v, rfl, r2⟩ := rel1 r1
   exact ⟨v, ι1, G1, st1, w, rfl, sr1, r2, wpW.later x1 (show wpW X ι st.nxt G (QbA m w st1) Q from q)⟩
 ·obtain ⟨v, ι1, G1, st1, w, rfl, sr1, r2, q2⟩ := q1
  clear q sr en
  obtain ⟨u, rfl, ru⟩ := r1.one
  unfold QbA at q2
  cases el : QeY st1 w with
  | none => rw [el] at q2; exact (show False from q2).elim
  | some ws =>
   cases ek : Qci ws with
   | none => rw [el] at q2; change wpW X ι1 st1.nxt G1 (match Qci ws with | some ks => _ | none => _) Q at q2; rw [ek] at q2; exact (show False from q2).elim
   | some ks =>
    rw [el] at q2
    change wpW X ι1 st1.nxt G1 (match Qci ws with | some ks => _ | none => _) Q at q2
    rw [ek] at q2
    dsimp only at q2
    by_cases hc : ks.length < 64/\ks.all isPr = true
    ·rw [if_pos hc] at q2
     obtain ⟨a, xs, rfl, hq, tt⟩ := QhJ sr1 r2 el
     cases (show u = Value.ref a from ru)
     obtain ⟨bs, rfl, hbl, hbk⟩ := Qfa tt ek
     obtain ⟨its, rv, pl, _⟩ := I1.list hq
     have ei := Qiw rv
     subst ei
     have hkH : ∀ (j : Nat) k b, ks[j]? = some k->bs[j]? = some b->H1 b = some (.tup (k.map kV)) := fun j k b hk hb => sr1.sub _ _ (hbk j b k hb hk)
     refine ST.set_list (ks := ks) (bs := bs) hh pl.isList hbl.symm (by omega) (by omega) (fun j k b hk hb => QcF I1.hok (hkH j k b hk hb)) fun h' tok SA kp => ?_
     refine Calls.spliced_nil ?_
     have I2 : Inv X pins σ H1 { s1 with heap := h', toks := tok } := I1.kept kp
     obtain ⟨L, o, es, ep, t, c1, c2, c3, c4, c5⟩ := SA
     have le : L.length + 1<=t.mask := c2.le
     refine QgC (C := fun vs s3 => ∃ L1 : List (Nat × ST.El), L1.Perm L/\vs = L1.map (fun e => Value.ref e.2.2)/\Inv X pins σ H1 s3) (ST.collect_set (A := X.A.in1) (by simpa using hh) c1.ho c1.ex c1.da (c1.fits (s := { s1 with heap := h', toks := tok }) (by omega)) c1.tb.ris (by rw [c1.tb.pl, c1.en]; simp) c1.led (by rw [c1.en]; simp; omega) fun h2 tk d vals kp2 pm => ?_) fun vs s3 hC => ?_
     ·rw [c1.en] at pm
      obtain ⟨L1, p1, rfl⟩ := Qej (fun e : Nat × ST.El => (ST.hsh X.prog X.w e.2, Value.ref e.2.2)) (by simpa using pm)
      refine ⟨L1, p1, by rw [List.map_map]; rfl, ?_⟩
      exact inv_drew (I2.kept (t' := tk) kp2) d
     ·obtain ⟨L1, p1, rfl, I3⟩ := hC
      have ll := p1.length_eq
      refine ⟨by rw [Qkz]; omega, ?_⟩
      have em : L1.map (fun e => Value.ref e.2.2) = (L1.map fun e => e.2.2).map Value.ref := by rw [List.map_map]; rfl
      rw [em]
      have mem : ∀ k, k ∈ L1.map (fun e => e.2.1) ↔ k ∈ ks := fun k => ((p1.map fun e => e.2.1).mem_iff).trans (c4 k)
      have nd1 : (L1.map fun e => e.2.1).Nodup := ((p1.map fun e => e.2.1).nodup_iff).mpr c1.nd
      have pr1 : (L1.map fun e => e.2.1).all isPr = true := List.all_eq_true.mpr fun k hk => List.all_eq_true.mp hc.2 k ((mem k).mp hk)
      obtain ⟨d1, d2⟩ := Qez ks
      rw [<-Qhq pr1 nd1 d1 fun k => (mem k).trans (d2 k).symm] at q2
      refine QeK hu I3 sr1 (by rw [Qkz, Qkz]) (by rw [Qkz]; omega) (pr_ok pr1) (fun j b k hb hk => ?_) q2
      rw [QkG] at hb hk
      cases ex : L1[j]? with
      | none => rw [ex] at hb; cases hb
      | some e0 =>
       rw [ex] at hb hk
       cases hb; cases hk
       obtain ⟨i, i1, i2⟩ := c5 e0 (p1.mem_iff.mp (List.mem_of_getElem? ex))
       exact hkH i _ _ i1 i2
    ·rw [if_neg hc] at q2; exact (show False from q2).elim
end
end DL
namespace DL
open PySem PySem.Spec PyProof.Rows L2
section
variable {X : Cx}
def Qcg (i : Nat) (body : RunS) (n : Nat) : Nat->Nat->Ga->S->R Fl
 | 0, _, _, _ => .stuck
 | f + 1, k, Γ, st => (match st.mu n with
  | some (.lst ws) => (match ws[k]? with
   | none => .ok (.nx Γ) st
   | some x => (body (Γ.set i (some x)) st).bind fun fl st' => match fl with
    | .nx Γ' => Qcg i body n f (k + 1) Γ' st'
    | .ct Γ' => Qcg i body n f (k + 1) Γ' st'
    | .bk Γ' => .ok (.nx Γ') st'
    | .rt w => .ok (.rt w) st')
  | _ => .stuck)
def Qhw (i : Nat) (r : Run) (body : RunS) : RunS := fun Γ st => (r Γ st).bind fun w st1 => match w with
 | .ref n => Qcg i body n 4096 0 Γ st1
 | _ => .stuck
theorem pds_forL {i : Nat} {x : Str} {px pos : Pos} {iter : Expr} {body : List Stmt} {r : Run} {rb : RunS} (hp : PassesOwn (model X.prog X.w) X.A X.env X.xe) (hc : X.calm = true) (hr : PD X iter r) (hg : PG X (.Name x px) (QdH i)) (hb : PDSs X body rb) (hs : ∀ z, foldedSetIterable iter X.env z = pure z) :
  PDS X (.For (.Name x px) iter body [] pos) (Qhw i r rb) := by
 refine PS.imp (ps_for hp hc (pi_seq hr) hg hb hs) fun D σ H ⟨ι, G, st, Γ, en, sr, q⟩ => ⟨ι, G, st, Γ, en, sr, ?_⟩
 unfold Qhw at q
 cases e1 : r Γ st with
 | stuck => rw [e1] at q; exact q
 | ex c s => rw [e1] at q; exact q
 | ok w st1 =>
  rw [e1] at q
  cases w with
  | ref n =>
   have q : wpF X ι st.nxt G (Qcg i rb n 4096 0 Γ st1) D := q
   intro v ι1 G1 H1 x1 sr1 rel
   cases rel with
   | ref hn =>
    have live : ∀ {ι2 : Nat->Addr} {st2 : S} {G2 H2 : Hp} {f k : Nat} {Γ2 : Ga}, Ext ι1 st1.nxt G1 ι2 st2.nxt G2->SR X.K ι2 st2 G2 H2->wpF X ι2 st2.nxt G2 (Qcg i rb n f k Γ2 st2) D->∃ f' ws xs, f = f' + 1/\st2.mu n = some (.lst ws)/\H2 (ι1 n) = some (.lst xs)/\RelWs X.K ι2 st2.nxt G2 xs ws := by
     intro ι2 st2 G2 H2 f k Γ2 e2 sr2 q2
     cases f with
     | zero => exact (show False from q2).elim
     | succ f =>
      unfold Qcg at q2
      cases em : st2.mu n with
      | none => rw [em] at q2; exact (show False from q2).elim
      | some o =>
       cases o with
       | dct ks ws => rw [em] at q2; exact (show False from q2).elim
       | lst ws =>
        obtain ⟨_, _, xs, h1, h2⟩ := sr2.live n _ em
        rw [e2.ag n hn] at h1
        exact ⟨f, ws, xs, rfl, rfl, h1, h2⟩
    have q0 : wpF X ι1 st1.nxt G1 (Qcg i rb n 4096 0 Γ st1) D := wpF.later x1 q
    obtain ⟨_, _, xs0, _, _, hx0, _⟩ := live (Ext.refl _ _ _) sr1 q0
    refine .inl ⟨ι1 n, rfl, ⟨xs0, SqL.of hx0⟩, ?_⟩
    refine ⟨fun k m σ' H' => ∃ ι2 G2 st2 Γ2, Ext ι1 st1.nxt G1 ι2 st2.nxt G2/\SR X.K ι2 st2 G2 H'/\EnvR X.K ι2 st2.nxt G2 σ' Γ2/\wpF X ι2 st2.nxt G2 (Qcg i rb n m k Γ2 st2) D,
     ⟨4096, ι1, G1, st1, Γ, Ext.refl _ _ _, sr1, en.mono x1, q0⟩, ?_⟩
    rintro k m σ' H' ⟨ι2, G2, st2, Γ2, e2, sr2, en2, q2⟩
    obtain ⟨f, ws, xs, rfl, em, hx, rl⟩ := live e2 sr2 q2
    have lx := rl.length
    unfold Qcg at q2
    rw [em] at q2
    dsimp only at q2
    cases ew : ws[k]? with
    | none =>
     rw [ew] at q2
     refine .inl ⟨⟨xs, SqL.of hx, ?_⟩, (show wpF X ι2 st2.nxt G2 (.ok (.nx Γ2) st2) D from q2) ι2 G2 H' (Ext.refl _ _ _) sr2 σ' en2⟩
     rw [lx]; exact List.getElem?_eq_none_iff.mp ew
    | some y =>
     rw [ew] at q2
     obtain ⟨v, hv, rv⟩ := rl.get ew
     refine .inr ⟨⟨xs, v, SqL.of hx, hv⟩, fun σ3 H3 => ∃ ι3 G3 st3 Γ3, Ext ι1 st1.nxt G1 ι3 st3.nxt G3/\SR X.K ι3 st3 G3 H3/\EnvR X.K ι3 st3.nxt G3 σ3 Γ3/\wpF X ι3 st3.nxt G3 (Qcg i rb n f (k + 1) Γ3 st3) D,
      fun σ3 H3 h3 => ⟨f, Nat.lt_succ_self f, h3⟩, fun v' H'' hy => ?_⟩
     obtain ⟨eh, hall⟩ := hy
     subst eh
     have := hall xs (SqL.of hx)
     rw [hv] at this
     cases this
     refine ⟨ι2, G2, st2, Γ2.set i (some y), en2.set i rv, sr2, ?_⟩
     have q2' : wpF X ι2 st2.nxt G2 ((rb (Γ2.set i (some y)) st2).bind fun fl st' => match fl with
      | .nx Γ' => Qcg i rb n f (k + 1) Γ' st'
      | .ct Γ' => Qcg i rb n f (k + 1) Γ' st'
      | .bk Γ' => .ok (.nx Γ') st'
      | .rt w => .ok (.rt w) st') D := q2
     cases e3 : rb (Γ2.set i (some y)) st2 with
     | stuck => rw [e3] at q2'; exact q2'
     | ex c s => rw [e3] at q2'; exact q2'
     | ok fl st3 =>
      rw [e3] at q2'
      intro ι3 G3 H3 x3 sr3
      cases fl with
      | nx Γ3 => exact fun σ3 en3 => ⟨ι3, G3, st3, Γ3, e2.trans x3, sr3, en3, wpF.later x3 q2'⟩
      | ct Γ3 => exact fun σ3 en3 => ⟨ι3, G3, st3, Γ3, e2.trans x3, sr3, en3, wpF.later x3 q2'⟩
      | bk Γ3 => exact q2' ι3 G3 H3 x3 sr3
      | rt w => exact q2' ι3 G3 H3 x3 sr3
  | _ => exact (show False from q).elim
end
end DL
namespace DL
open PySem PySem.Spec PyProof.Rows L2
section
variable {X : Cx}
theorem Qjg (K : PySem.W.Frag) : ∀ k ∈ kinds, ∀ T ∈ kinds, PySem.W.kitOne K (.type k) (.type T) = some (Qdo k T) := by
 intro k hk T hT
 simp only [kinds, List.mem_cons, List.not_mem_nil, or_false] at hk hT
 rcases hk with rfl | rfl | rfl | rfl | rfl | rfl | rfl <;> rcases hT with rfl | rfl | rfl | rfl | rfl | rfl | rfl <;> with_unfolding_all rfl
theorem cw_isi : QdE X (.builtin "isinstance") Qdk := by
 intro pins s σ H ι G st xs ws us Q I sr rv t q
 unfold Qdk at q
 split at q
 ·rename_i w T
  by_cases hT : kinds.contains T = true
  ·rw [if_pos hT] at q
   have hT' : T ∈ kinds := by simpa using hT
   obtain ⟨v, v', rfl, r, r'⟩ := rel2 t
   cases r'
   cases rv with
   | cons ru rv =>
    cases rv with
    | cons rc rv =>
     cases rv
     rename_i u c
     cases (show c = Value.type T from rc)
     cases hk : Qch st w with
     | none => rw [hk] at q; exact (show False from q).elim
     | some k =>
      rw [hk] at q
      have fin : ∀ tk, EP X pins σ Q (.bool (Qdo k T)) { s with toks := tk } := fun tk => ⟨.bl (Qdo k T), H, I.tok tk, rfl, q _ ι G H (Ext.refl _ _ _) sr (.bl _)⟩
      have kk : k ∈ kinds->PySem.W.kitOne X.K (.type k) (.type T) = some (Qdo k T) := fun h => Qjg X.K k h T hT'
      cases r with
      | non => cases hk; cases (show u = Value.none from ru); exact PySem.W.kia_one PySem.W.kitx_none I.kIn True.intro (kk (by decide)) (fun z => nomatch z) fin
      | bl b => cases hk; cases (show u = Value.bool b from ru); exact PySem.W.kia_one PySem.W.kitx_bool I.kIn True.intro (kk (by decide)) (fun z => nomatch z) fin
      | int i => cases hk; obtain ⟨tk, e⟩ := (show ∃ t, u = Value.int i t from ru); cases e; exact PySem.W.kia_one PySem.W.kitx_int I.kIn True.intro (kk (by decide)) (fun z => nomatch z) fin
      | str x => cases hk; obtain ⟨tk, e⟩ := (show ∃ t, u = Value.str x t from ru); cases e; exact PySem.W.kia_one PySem.W.kitx_str I.kIn True.intro (kk (by decide)) (fun z => nomatch z) fin
      | @tup a xs _ s1 c1 t1 =>
       cases hk
       cases (show u = Value.ref a from ru)
       obtain ⟨its, _, pl, _⟩ := I.tuple (sqT_same sr.sub s1)
       obtain ⟨o, h1, h2, _⟩ := pl
       exact PySem.W.kia_one PySem.W.kitx_tuple I.kIn ⟨o, h1, h2⟩ (kk (by decide)) (fun z => nomatch z) fin
      | @lst a xs _ s1 t1 =>
       cases hk
       cases (show u = Value.ref a from ru)
       obtain ⟨its, _, pl, _⟩ := I.list (sr.sub.seq s1)
       obtain ⟨o, n, h1, h2, _⟩ := pl
       exact PySem.W.kia_one PySem.W.kitx_list I.kIn ⟨o, h1, h2⟩ (kk (by decide)) (fun z => nomatch z) fin
      | @dct a xs ks _ s1 l1 t1 =>
       cases hk
       cases (show u = Value.ref a from ru)
       obtain ⟨_, _, vs, _, p⟩ := (show QaT X.prog X.w H s.heap a (dKo (ks.zip xs)) from I.hok a _ (sr.sub _ _ s1))
       obtain ⟨o, es, ep, h1, h2, _⟩ := p
       exact PySem.W.kia_one PySem.W.kitx_dict I.kIn ⟨o, h1, h2.1⟩ (kk (by decide)) (fun z => nomatch z) fin
      | ty n => cases hk
      | exn s1 s2 => cases hk
      | ref hn =>
       rename_i n
       cases (show u = Value.ref (ι n) from ru)
       have hk : MO.kind (st.mu n) = some k := hk
       cases e : st.mu n with
       | none => rw [e] at hk; cases hk
       | some o =>
        rw [e] at hk
        obtain ⟨_, _, h3⟩ := sr.live n o e
        cases o with
        | lst zs =>
         cases hk
         obtain ⟨vs, qv, _⟩ := h3
         obtain ⟨its, _, pl, _⟩ := I.list (SqL.of qv)
         obtain ⟨o, n, h1, h2, _⟩ := pl
         exact PySem.W.kia_one PySem.W.kitx_list I.kIn ⟨o, h1, h2⟩ (kk (by decide)) (fun z => nomatch z) fin
        | dct ks zs =>
         cases hk
         obtain ⟨xs, qv, _, _⟩ := h3
         obtain ⟨_, _, vs, _, p⟩ := (show QaT X.prog X.w H s.heap _ (dKo (ks.zip xs)) from I.hok _ _ qv)
         obtain ⟨o, es, ep, h1, h2, _⟩ := p
         exact PySem.W.kia_one PySem.W.kitx_dict I.kIn ⟨o, h1, h2.1⟩ (kk (by decide)) (fun z => nomatch z) fin
  ·rw [if_neg hT] at q; exact (show False from q).elim
 ·exact (show False from q).elim
end
inductive GV where
 | con (w : W)
 | fn (n : Nat) (op : OpN)
 | blt
 | fx (n : Nat) (b : Bool) (op : OpN)
 | exc (own : Bool) (tab : List (Str × Bool))
 | dcon (ks : List DKey) (ws : List W)
structure FC where
 N : List Str
 sc : Scope
 gl : List (Str × GV)
 mts : List (Nat × Nat)
 cm : Bool
 cx : Bool
def FC.isMut (c : FC) (p : Pos) : Bool := c.mts.any fun q => q.1 == p.line && q.2 == p.col
structure ExcOk (K : PySem.W.Frag) (mg : Str->Option Value) (y : Str) (own : Bool) (tab : List (Str × Bool)) (cv : Value) (vc : V) : Prop where
 rel : RelV vc cv
 un : ∀ u, RelV vc u->u = cv
 glob : own = true->mg y = some cv/\∃ C, cv = .ref C/\ExCls K y C
 blt : own = false->mg y = none/\bootBuiltins y = some cv
 tab : ∀ x b, tab.lookup x = some b->∃ C, PySem.W.nsIn K mainGlobals x = some (some (.ref C))/\ExAt K C/\PySem.W.kitOne K (.ref C) cv = some b/\PySem.W.exmOne K (.ref C) cv = some b
structure XOK (c : FC) (X : Cx) : Prop where
 N : X.N = c.N
 nd : c.N.Nodup
 sc : X.env.scope = c.sc
 calm : c.cm = true->X.calm = true
 hnd : c.cm = true->X.A.handled = none
 units : X.A.units + 80 < cLine
 cells : ∀ y, (c.sc.names.lookup y = some .cell\/c.sc.names.lookup y = some .free)->(X.env.cells.lookup y).isSome = true
 con : ∀ x w, c.gl.lookup x = some (.con w)->∃ u v, X.mg x = some u/\RelV v u/\∀ ι N G, RelW X.K ι N G v w
 fn : c.cm = true->∀ x n op, c.gl.lookup x = some (.fn n op)->∃ k f fd ps, FnOk X.prog X.w X.K X.mg X.base CX0 k f fd ps (SpD X.K n op)/\Room (k + 2) X.A/\X.mg x = some (.ref f)/\PySem.W.keepIn X.K (.ref f) = true/\QbY X.K fd ps []/\ps.length = n
 blt : ∀ x, c.gl.lookup x = some .blt->X.mg x = none
 fx : ∀ x n b op, c.gl.lookup x = some (.fx n b op)->∃ k f fd ps, FnX b X.prog X.w X.K X.mg X.base k f fd ps (SpX X.K n op)/\RoomB false (k + 2) X.A/\X.mg x = some (.ref f)/\PySem.W.keepIn X.K (.ref f) = true/\QbY X.K fd ps []/\ps.length = n
 exc : ∀ y own tab, c.gl.lookup y = some (.exc own tab)->∃ cv vc, ExcOk X.K X.mg y own tab cv vc
 own : c.cx = true->OwnFr X
 dcon : ∀ x ks ws, c.gl.lookup x = some (.dcon ks ws)->KDs X.prog X.w X.K X.mg x ks ws
theorem XOK.gl {c : FC} {X : Cx} (h : XOK c X) {x : Str} (e : c.sc.names.lookup x = some .globalImplicit) : Gl X x := by
 show X.env.scope.names.lookup x = _
 rw [h.sc]; exact e
def dbg (x : Str) : Bool := (x == ("__debug__" : Str)) || (x == ("__classdict__" : Str)) || (x == ("__name__" : Str))
theorem dbg1 {x : Str} (h : dbg x = false) : (x == ("__debug__" : Str)) = false := by unfold dbg at h; simp only [Bool.or_eq_false_iff] at h; exact h.1.1
theorem dbg2 {x : Str} (h : dbg x = false) : (x == ("__classdict__" : Str)) = false := by unfold dbg at h; simp only [Bool.or_eq_false_iff] at h; exact h.1.2
theorem dbg3 {x : Str} (h : dbg x = false) : x ≠ "__name__" := by
 unfold dbg at h; simp only [Bool.or_eq_false_iff] at h
 intro e; rw [e] at h; simp at h
def slot (N : List Str) (x : Str) : Option Nat := match N with
 | [] => none
 | y :: ys => if y == x then some 0 else (slot ys x).map (· + 1)
theorem QcP {N : List Str} {x : Str} {i : Nat} (h : slot N x = some i) : N[i]? = some x := by
 induction N generalizing i with
 | nil => cases h
 | cons y ys ih =>
  unfold slot at h
  by_cases hy : (y == x) = true
  ·rw [if_pos hy] at h
   cases h
   have : y = x := by simpa using hy
   rw [this]; rfl
  ·rw [if_neg hy] at h
   cases e : slot ys x with
   | none => rw [e] at h; cases h
   | some j => rw [e] at h; cases h; rw [List.getElem?_cons_succ]; exact ih e
def binD : Operator->Option Op2
 | .Add => some Qas
 | .Sub => some opSub
 | .Mult => some Qbb
 | .FloorDiv => some QaM
 | .Mod => some Qaz
 | _ => none
def cmpD : CmpOp->Option Op2
 | .Eq => some opEq
 | .NotEq => some opNe
 | .Lt => some opLt
 | .LtE => some opLe
 | .Gt => some opGt
 | .In => some opIn
 | .NotIn => some QfR
 | _ => none
def tyD (x : Str) : Option String := if x == ("str" : Str) then some "str" else if x == ("int" : Str) then some "int" else if x == ("bool" : Str) then some "bool" else if x == ("tuple" : Str) then some "tuple" else if x == ("list" : Str) then some "list" else if x == ("dict" : Str) then some "dict" else none
theorem tyD_boot {x : Str} {T : String} (h : tyD x = some T) : bootBuiltins x = some (.type T) := by
 unfold tyD at h
 repeat' split at h
 all_goals first
  | (cases h; rename_i e; have e' := eq_of_beq e; subst e'; decide +kernel)
  | cases h
def bltD (m : Bool) (x : Str) : Option (Value × OpN) :=
 if x == ("len" : Str) then some (.builtin "len", Qdj)
 else if x == ("sorted" : Str) then some (.builtin "sorted", Qcs m)
 else if x == ("isinstance" : Str) then some (.builtin "isinstance", Qdk)
 else none
def QfG (m : Bool) (x : Str) : Option (String × OpN) :=
 if x == ("tuple" : Str) then some ("tuple", QbR)
 else if x == ("list" : Str) then some ("list", QeW m)
 else none
def QbB : Expr->Bool
 | .Starred _ _ => false
 | _ => true
theorem QaY {e : Expr} {es : List Expr} {env : Env} (h : QbB e = true) : starEach (e :: es) env = (false, eval e env) :: starEach es env := by
 cases e <;> first | rfl | exact absurd (show false = true from h) Qkr
theorem QbZ {es : List Expr} {env : Env} {pos : Pos} (h : es.all QbB = true) : (backTo pos (starEach es env)).any (·.1) = false := by
 induction es with
 | nil => rfl
 | cons e es ih =>
  rw [List.all_cons, QkK] at h
  rw [QaY h.1]
  show ((false : Bool) || (backTo pos (starEach es env)).any (·.1)) = false
  rw [ih h.2]; rfl
theorem star_few {e : Expr} {es : List Expr} {env : Env} {pos : Pos} (h : (e :: es).all QbB = true) (hl : (e :: es).length < 30) :
  ((backTo pos (starEach (e :: es) env)).all (fun x => !x.1) && (backToKw pos (keywordEach [] env)).all (fun x => x.1.isSome) && decide ((e :: es).length + ([] : List Keyword).length + (if ([] : List Keyword).isEmpty then 0 else 1) < 30)) = true := by
 have h1 : (backTo pos (starEach (e :: es) env)).all (fun x => !x.1) = true := by
  rw [<-List.not_any_eq_all_not, QbZ h]; rfl
 have h2 : (backToKw pos (keywordEach [] env)).all (fun x => x.1.isSome) = true := rfl
 have h3 : decide ((e :: es).length + ([] : List Keyword).length + (if ([] : List Keyword).isEmpty then 0 else 1) < 30) = true := decide_eq_true (by simpa using hl)
 rw [h1, h2, h3]; rfl
def mthD (m : Str) : Option (String × OpM) :=
 if m == ("append" : Str) then some ("list", Qat)
 else if m == ("join" : Str) then some ("str", QcD)
 else if m == ("get" : Str) then some ("dict", Qen)
 else none
theorem mthD_ok {X : Cx} {m : Str} {T : String} {op : OpM} (hu : X.A.units + 64 < cLine) (h : mthD m = some (T, op)) : ∃ id, Mth X m T id op := by
 unfold mthD at h
 repeat' split at h
 all_goals first
  | (cases h; done)
  | (cases h; rename_i e; have e' := eq_of_beq e; subst e'; first
   | exact ⟨_, QhH⟩
   | exact ⟨_, mth_join⟩
   | exact ⟨_, mth_get (by omega)⟩
   )
def Qbr : Expr->Bool
 | .Slice _ _ _ _ => false
 | _ => true
theorem QeT {e : Expr} (h : Qbr e = true) : NoSl e := by
 intro ov iv
 cases e <;> first | rfl | exact absurd (show false = true from h) Qkr
theorem QhA {e : Expr} (h : Qbr e = true) : Qgt e := by
 intro o i
 cases e <;> first | rfl | exact absurd (show false = true from h) Qkr
def QiR : Expr->Bool
 | .Set _ _ _ => false
 | _ => true
theorem QcE {e : Expr} {op : CmpOp} (h : QiR e = true) : behindInMarks op e = false := by
 cases e <;> first | rfl | exact absurd (show false = true from h) Qkr
theorem Qct {e : Expr} {env : Env} (h : QiR e = true) : ∀ z, foldedSetIterable e env z = pure z := by
 intro z
 cases e <;> first | rfl | exact absurd (show false = true from h) Qkr
def QiC : Expr->Bool
 | .UnaryOp .Not _ _ => false
 | .BoolOp _ _ _ => false
 | .IfExp _ _ _ _ => false
 | .Compare _ _ _ _ => false
 | _ => true
theorem QiB {e : Expr} {env : Env} (h : QiC e = true) : ∀ whole, isTrue e env whole = (do let v <-whole; standAt e.pos; holding [v] (truthy v)) := by
 intro whole
 cases e with
 | UnaryOp op a p => cases op <;> first | rfl | exact absurd (show false = true from h) Qkr
 | BoolOp _ _ _ => exact absurd (show false = true from h) Qkr
 | IfExp _ _ _ _ => exact absurd (show false = true from h) Qkr
 | Compare _ _ _ _ => exact absurd (show false = true from h) Qkr
 | _ => rfl
def QbG (scope sc : Scope) : Scope := { scope with names := scope.names.map fun (n, k) => if (k == .free && sc.kind == .function && sc.names.lookup n == some .cell) then (n, .cell) else (n, k) }
def QaS (scope : Scope) : List Str := (scope.names.filter fun p => p.2 == .free).map (·.1)
def slots (N : List Str) : List Str->Option (List Nat)
 | [] => some []
 | y :: ys => match slot N y, slots N ys with
  | some i, some r => some (i :: r)
  | _, _ => none
def Qhc (scope sc : Scope) (x : Str) : Bool :=
 scope.names.all (fun y => y.2 != .cell) && scope.names.all (fun y => y.2 != .free || (sc.names.lookup y.1 == some .cell || sc.names.lookup y.1 == some .free)) && (scope.kind == .function) &&
 scope.names.all (fun y => y.2 != .local || scope.names.lookup y.1 == some .local) && (scope.names.lookup x == some .local) && (QaS scope).all (fun y => scope.names.lookup y == some .free) && decide ((x :: QaS scope).Nodup)
theorem QeL {N : List Str} : ∀ {ys : List Str} {js : List Nat}, slots N ys = some js->ys.length = js.length/\∀ (k j : Nat), js[k]? = some j->ys[k]? = N[j]?
 | [], js, h => by cases h; exact ⟨rfl, fun k j e => by simp at e⟩
 | y :: ys, js, h => by
  unfold slots at h
  cases e1 : slot N y with
  | none => rw [e1] at h; cases h
  | some i =>
   cases e2 : slots N ys with
   | none => rw [e1, e2] at h; cases h
   | some r =>
    rw [e1, e2] at h
    cases h
    obtain ⟨h1, h2⟩ := QeL e2
    refine ⟨by simp [h1], fun k j e => ?_⟩
    cases k with
    | zero => simp at e; subst e; rw [QcP e1]; rfl
    | succ k => exact h2 k j (by simpa using e)
theorem QjY {c : FC} {X : Cx} (h : XOK c X) {scope : Scope} {x : Str} {cap : List Nat} (hk : Qhc scope c.sc x = true) (hc : slots c.N (QaS scope) = some cap) :
  CompSc X scope x (clOf X.env scope.names []) (x :: QaS scope) cap := by
 unfold Qhc at hk
 simp only [QkK, List.all_eq_true, decide_eq_true_eq, beq_iff_eq] at hk
 obtain ⟨⟨⟨⟨⟨⟨h1, h2⟩, h3⟩, h4⟩, h5⟩, h6⟩, h7⟩ := hk
 have g1 : ∀ y ∈ scope.names, y.2 ≠ .cell := fun y hy e => by have := h1 y hy; rw [e] at this; cases this
 have g2 : ∀ y ∈ scope.names, y.2 = .free->c.sc.names.lookup y.1 = some .cell\/c.sc.names.lookup y.1 = some .free := fun y hy e => by
  have := h2 y hy
  rw [e] at this
  simpa using this
 have g4 : ∀ y ∈ scope.names, y.2 = .local->scope.names.lookup y.1 = some .local := fun y hy e => by
  have := h4 y hy
  rw [e] at this
  simpa using this
 have cells : ∀ y ∈ scope.names, y.2 = .free->(X.env.cells.lookup y.1).isSome = true := fun y hy e => h.cells y.1 (g2 y hy e)
 obtain ⟨sl1, sl2⟩ := QeL hc
 have fr : ∀ (k : Nat) (y : Str), (x :: QaS scope)[k + 1]? = some y->scope.names.lookup y = some .free := fun k y e => by
  have e' : (QaS scope)[k]? = some y := by simpa using e
  exact h6 y (List.mem_of_getElem? e')
 have rl : ∀ (l : List (Str × NameKind)) (y : Str), l.lookup y = some .free ->
   (l.map fun (n, k) => if (k == NameKind.free && X.env.scope.kind == .function && X.env.kindOf n == some .cell) then (n, NameKind.cell) else (n, k)).lookup y = some .cell ∨
   (l.map fun (n, k) => if (k == NameKind.free && X.env.scope.kind == .function && X.env.kindOf n == some .cell) then (n, NameKind.cell) else (n, k)).lookup y = some .free := by
  intro l y
  induction l with
  | nil => intro h; simp at h
  | cons p r ih =>
   intro hl
   obtain ⟨n, k'⟩ := p
   rw [List.lookup_cons] at hl
   rw [List.map_cons]
   cases hy : y == n with
   | true =>
    rw [hy] at hl
    cases hl
    dsimp only
    split
    ·left; rw [List.lookup_cons, hy]
    ·right; rw [List.lookup_cons, hy]
   | false =>
    rw [hy] at hl
    dsimp only
    split
    ·rw [List.lookup_cons, hy]; exact ih hl
    ·rw [List.lookup_cons, hy]; exact ih hl
 refine ⟨clos_eq cells, g1, h3, g4, h5, h7, rfl, by rw [QkH, sl1], fun k j e => ?_, fun k y e => ?_, fun k y e => rl scope.names y (fr k y e), QeA X.env scope.names [] cells (fun y c h => by simp at h), fun y hy => ?_⟩
 ·rw [List.getElem?_cons_succ, h.N]; exact sl2 k j e
 ·have m := PySem.mem_of_lookup (fr k y e)
  have := g2 _ m rfl
  show X.env.scope.names.lookup y = _\/X.env.scope.names.lookup y = _
  rw [h.sc]; exact this
 ·refine QeB X.env scope.names [] y (.inr ?_)
  rcases hy with hy | hy
  ·rcases relabel_mem hy with m | m
   ·exact absurd rfl (g1 _ m)
   ·exact m
  ·rcases relabel_mem hy with m | m
   ·exact m
   ·exact m
theorem Qhb {c : FC} {X : Cx} (h : XOK c X) {scope : Scope} {x : Str} {cap : List Nat} (hk : Qhc scope c.sc x = true) (hc : slots c.N (QaS scope) = some cap) (C : Addr) (s : Shared) (H : Hp) (ex : List Addr) :
  XOK { c with N := x :: QaS scope, sc := QbG scope c.sc, cx := false } (QaC X scope (clOf X.env scope.names []) C (x :: QaS scope) s H ex) := by
 have Sc := QjY h hk hc
 have es : (QaC X scope (clOf X.env scope.names []) C (x :: QaS scope) s H ex).env.scope = QbG scope c.sc := by
  show relabel scope X.env = _
  unfold relabel QbG
  rw [<-h.sc]; rfl
 refine ⟨rfl, Sc.nd, es, h.calm, h.hnd, h.units, fun y hy => ?_, h.con, h.fn, h.blt, h.fx, h.exc, (fun z => Bool.noConfusion z), h.dcon⟩
 obtain ⟨cc, hcc⟩ := Sc.has y (by
  have e2 : relabel scope X.env = QbG scope c.sc := es
  rw [e2]; exact hy)
 show ((clOf X.env scope.names []).lookup y).isSome = true
 rw [hcc]; rfl
def tconD (c : FC) : Expr->Option (Str × Pos × List DKey × List W)
 | .Name y p => if dbg y then none else (match c.sc.names.lookup y, c.gl.lookup y with
  | some .globalImplicit, some (.dcon ks ws) => some (y, p, ks, ws)
  | _, _ => none)
 | _ => none
theorem tconD_ok {c : FC} {e : Expr} {y : Str} {p : Pos} {ks : List DKey} {ws : List W} (h : tconD c e = some (y, p, ks, ws)) : e = .Name y p/\dbg y = false/\c.sc.names.lookup y = some .globalImplicit/\c.gl.lookup y = some (.dcon ks ws) := by
 unfold tconD at h
 split at h
 ·split at h
  ·cases h
  ·rename_i hd
   split at h
   ·rename_i h1 h2
    cases h
    exact ⟨rfl, by simpa using hd, h1, h2⟩
   ·cases h
 ·cases h
def cmpT (op : CmpOp) (ws : List W) : Option (W->S->R W) := match op with
 | .In => some (QdF ws)
 | _ => none
def nameD (c : FC) (x : Str) : Option Run := if dbg x then none else (match c.sc.names.lookup x with
 | some .globalImplicit => (match c.gl.lookup x with
  | some (.con w) => some (rCon w)
  | some .blt => (tyD x).map fun T => rCon (.ty T)
  | _ => none)
 | some .local => (slot c.N x).map rVar
 | some .cell => (slot c.N x).map rVar
 | some .free => (slot c.N x).map rVar
 | _ => none)
def conD : Const->Option Run
 | .int i => some (rCon (.int i))
 | .str x => some (rCon (.str x))
 | .bool b => some (rCon (.bl b))
 | .none => some (rCon .non)
 | _ => none
def unD (op : UnaryOp) (r : Run) : Option Run := match op with
 | .Not => some (Qbz r)
 | .USub => some (run1 r Qce)
 | _ => none
def boolD (op : BoolOp) (ra rb : Run) : Run := match op with
 | .And => Qiu ra rb
 | .Or => Qbu ra rb
def cmp0 (E : Expr->Option Run) (a : Expr) (op : CmpOp) (b : Expr) : Option Run := if QiR b then (E a).bind fun ra => (E b).bind fun rb => (cmpD op).map fun o => run2 ra rb o else none
def cmp1 (c : FC) (E : Expr->Option Run) (a : Expr) (op : CmpOp) (b : Expr) : Option Run := match tconD c b with
 | some (_, _, _, ws) => (E a).bind fun ra => (cmpT op ws).map fun o => run1 ra o
 | none => cmp0 E a op b
def cmpR (c : FC) (E : Expr->Option Run) (a : Expr) : List CmpOp->List Expr->Option Run
 | [op], [b] => cmp1 c E a op b
 | _, _ => none
theorem cmpR_ok {c : FC} {E : Expr->Option Run} {a : Expr} {ops : List CmpOp} {bs : List Expr} {r : Run} (h : cmpR c E a ops bs = some r) :
  (∃ op b, ops = [op]/\bs = [b]/\cmp1 c E a op b = some r)
  := by
 rcases ops with _ | ⟨op, _ | ⟨op', _⟩⟩ <;> rcases bs with _ | ⟨b, _ | ⟨d, _⟩⟩ <;> first | exact ⟨_, _, rfl, rfl, h⟩ | cases h
def blt0 (c : FC) (Es : List Expr->Option Runs) (x : Str) (es : List Expr) (pos : Pos) : Option Run := if !c.cm then none else match bltD (c.isMut pos) x with
 | some (_, op) => (Es es).map fun rr => runN rr op
 | none => (match QfG (c.isMut pos) x with
  | some (_, op) => (Es es).map fun rr => runN rr op
  | none => none)
def bltS (a : Option NameKind) (b : Option GV) : Bool := match a, b with
 | some .globalImplicit, some .blt => true
 | _, _ => false
theorem bltS_ok {a : Option NameKind} {b : Option GV} (h : bltS a b = true) : a = some .globalImplicit/\b = some .blt := by
 unfold bltS at h
 split at h
 ·exact ⟨rfl, rfl⟩
 ·cases h
def ssD (c : FC) (x : Str) (e : Expr) (es : List Expr) : Option Expr := match e, es with
 | .Call (.Name y _) [a] [] _, [] => if x == ("sorted" : Str) && y == ("set" : Str) && QfT a && c.cm && bltS (c.sc.names.lookup y) (c.gl.lookup y) then some a else none
 | _, _ => none
theorem ssD_ok {c : FC} {x : Str} {e a : Expr} {es : List Expr} (h : ssD c x e es = some a) : ∃ p2 pos2, x = "sorted"/\es = []/\e = .Call (.Name "set" p2) [a] [] pos2/\QfT a = true/\c.cm = true/\c.sc.names.lookup ("set" : Str) = some .globalImplicit/\c.gl.lookup ("set" : Str) = some .blt := by
 unfold ssD at h
 split at h
 ·rename_i y p2 b pos2
  split at h
  ·rename_i hc
   cases h
   simp only [QkK] at hc
   obtain ⟨⟨⟨⟨h1, h2⟩, h3⟩, h4⟩, h5⟩ := hc
   have h2' := eq_of_beq h2
   clear h2
   subst h2'
   obtain ⟨h6, h7⟩ := bltS_ok h5
   exact ⟨p2, pos2, eq_of_beq h1, rfl, rfl, h3, h4, h6, h7⟩
  ·cases h
 ·cases h
def bltG (c : FC) (E : Expr->Option Run) (Es : List Expr->Option Runs) (x : Str) (e : Expr) (es : List Expr) (pos : Pos) : Option Run := match ssD c x e es with
 | some a => (E a).map fun ra => run1 ra (QbA (c.isMut pos))
 | none => blt0 c Es x (e :: es) pos
def callG (c : FC) (E : Expr->Option Run) (Es : List Expr->Option Runs) (x : Str) (e : Expr) (es : List Expr) (pos : Pos) : Option Run :=
 if dbg x then none else if (e :: es).all QbB then (match c.sc.names.lookup x with
  | some .globalImplicit => (match c.gl.lookup x with
   | some (.fn k op) => if (e :: es).length = k then (if c.cm then (Es (e :: es)).map fun rr => runN rr (Qav op) else none) else none
   | some .blt => bltG c E Es x e es pos
   | _ => none)
  | _ => none) else none
def mthG (E : Expr->Option Run) (Es : List Expr->Option Runs) (o : Expr) (m : Str) (apos : Pos) (es : List Expr) (pos : Pos) : Option Run :=
 if Qeo o && apos.endLine == pos.line && es.all QbB && decide (es.length < 30) then (mthD m).bind fun (T, op) => (E o).bind fun ro => (Es es).map fun rr => runM T ro rr op else none
def callR (c : FC) (E : Expr->Option Run) (Es : List Expr->Option Runs) (f : Expr) (es : List Expr) (ks : List Keyword) (pos : Pos) : Option Run := match f with
 | .Name x _ => (match es with
  | [] => none
  | e :: es => (match ks with
   | [] => callG c E Es x e es pos
   | _ :: _ => none
   ))
 | .Attribute o m apos => (match ks with
  | [] => mthG E Es o m apos es pos
  | _ :: _ => none)
 | _ => none
def slG (m : Bool) (E : Expr->Option Run) (a : Expr) (lo hi : Option Expr) : Option Run := match lo with
 | none => (match hi with
  | none => (E a).map fun ra => Qir m ra
  | some h => (E a).bind fun ra => (E h).map fun rh => QaV m ra rh)
 | some l => (match hi with
  | none => (E a).bind fun ra => (E l).map fun rl => QbP m ra rl
  | some h => (E a).bind fun ra => (E l).bind fun rl => (E h).map fun rh => Qcq m ra rl rh)
def ixG (c : FC) (E : Expr->Option Run) (a b : Expr) : Option Run := (E a).bind fun ra => (E b).map fun rb => run2 ra rb Qae
def subG (c : FC) (E : Expr->Option Run) (a i : Expr) (pos : Pos) : Option Run := match i with
 | .Slice lo hi st _ => (match st with
  | none => slG (c.isMut pos) E a lo hi
  | some _ => none
  )
 | i => if Qbr i then ixG c E a i else none
def ifsD (T : Expr->Option Run) : List Expr->Option Run
 | [] => some (rCon (.bl true))
 | t :: ts => (match ts with
  | [] => T t
  | _ :: _ => none)
def compG (c : FC) (I : Expr->Option Src) (T E : FC->Expr->Option Run) (elt : Expr) (x : Str) (iter : Expr) (ifs : List Expr) (scope : Scope) (pos : Pos) : Option Run :=
 if !c.cm then none else if QiR iter && Qhc scope c.sc x then (I iter).bind fun src => (slots c.N (QaS scope)).bind fun cap =>
  (ifsD (T { c with N := x :: QaS scope, sc := QbG scope c.sc, cx := false }) ifs).bind fun rt => (E { c with N := x :: QaS scope, sc := QbG scope c.sc, cx := false } elt).map fun re => QaE (c.isMut pos) src cap rt re else none
def compN (c : FC) (I : Expr->Option Src) (T E : FC->Expr->Option Run) (elt : Expr) (x : Str) (iter : Expr) (ifs : List Expr) (scope : Scope) (pos : Pos) : Option Run := compG c I T E elt x iter ifs scope pos
noncomputable def compR (c : FC) (I : Expr->Option Src) (T E : FC->Expr->Option Run) (Es : List Expr->Option Runs) (elt : Expr) (gens : List Comprehension) (scope : Scope) (pos : Pos) : Option Run := match gens with
 | [⟨.Name x _, iter, ifs, 0⟩] => compN c I T E elt x iter ifs scope pos
 | _ => none
theorem compR_ok {c : FC} {I : Expr->Option Src} {T E : FC->Expr->Option Run} {Es : List Expr->Option Runs} {elt : Expr} {gens : List Comprehension} {scope : Scope} {pos : Pos} {r : Run} (h : compR c I T E Es elt gens scope pos = some r) : (∃ x px iter ifs, gens = [⟨.Name x px, iter, ifs, 0⟩]/\compN c I T E elt x iter ifs scope pos = some r)
  := by
 unfold compR at h
 split at h
 ·exact ⟨_, _, _, _, rfl, h⟩
 ·cases h
def oddC (c : FC) : Expr->Bool
 | .ListComp _ gens _ _ => (match gens with
  | [⟨.Name _ _, iter, _, 0⟩] => c.isMut iter.pos
  | _ => true)
 | _ => false
def rng2G (E : Expr->Option Run) (a b : Expr) : Option Src := none
def rng3G (Es : List Expr->Option Runs) (a : Expr) (es : List Expr) : Option Src := none
def rngR (c : FC) (E : Expr->Option Run) (Es : List Expr->Option Runs) (x : Str) (es : List Expr) : Option Src := match c.sc.names.lookup x, c.gl.lookup x with
 | some .globalImplicit, some .blt => (match es with
  | [] => none
  | a :: es => (match es with
   | [] => if QbB a then (E a).map QaF else none
   | b :: es => (match es with
    | [] => rng2G E a b
    | d :: es => rng3G Es a (b :: d :: es))))
 | _, _ => none
mutual
noncomputable def denE : Nat->FC->Expr->Option Run
 | 0, _, _ => none
 | n + 1, c, e => match e with
  | .Name x _ => nameD c x
  | .Constant v _ _ => conD v
  | .BinOp a op b _ => (denE n c a).bind fun ra => (denE n c b).bind fun rb => (binD op).map fun o => run2 ra rb o
  | .UnaryOp op a _ => (denE n c a).bind fun ra => unD op ra
  | .BoolOp op es pos => (match es with
   | [] => none
   | a :: es => (match es with
    | [] => denE n c a
    | b :: rest => (denE n c a).bind fun ra => (denE n c (.BoolOp op (b :: rest) pos)).map fun rb => boolD op ra rb))
  | .Compare a ops bs _ => cmpR c (denE n c) a ops bs
  | .IfExp t a b _ => (denT n c t).bind fun rt => (denE n c a).bind fun ra => (denE n c b).map fun rb => runIf rt ra rb
  | .Tuple es _ _ => (Qbf n c es).map fun rr => runN rr Qap
  | .List es pos => (Qbf n c es).map fun rr => runN rr (opL (c.isMut pos))
  | .Call f es ks pos => callR c (denE n c) (Qbf n c) f es ks pos
  | .Subscript a i pos => subG c (denE n c) a i pos
  | .ListComp elt gens scope pos => compR c (denI n c) (denT n) (denE n) (Qbf n c) elt gens scope pos
  | .Dict ks vs pos => (match ks with
   | [] => (match vs with
    | [] => some (if c.isMut pos then QgJ else rDict0)
    | _ :: _ => none)
   | _ :: _ => none)
  | _ => none
noncomputable def denT : Nat->FC->Expr->Option Run
 | 0, _, _ => none
 | n + 1, c, e => match e with
  | .UnaryOp op a pos => (match op with
   | .Not => (denT n c a).map Qbz
   | _ => denE n c (.UnaryOp op a pos))
  | .BoolOp op es pos => (match es with
   | [] => none
   | a :: es => (match es with
    | [] => denT n c a
    | b :: rest => (denT n c a).bind fun ra => (denT n c (.BoolOp op (b :: rest) pos)).map fun rb => boolD op ra rb))
  | .Compare a ops bs _ => cmpR c (denE n c) a ops bs
  | e => if QiC e then denE n c e else none
noncomputable def Qbf : Nat->FC->List Expr->Option Runs
 | 0, _, _ => none
 | n + 1, c, es => match es with
  | [] => some Qac
  | e :: es => if QbB e then (denE n c e).bind fun r => (Qbf n c es).map fun rr => Qaa r rr else none
noncomputable def denJ : Nat->FC->List Expr->Option (List Run)
 | 0, _, _ => none
 | n + 1, c, es => match es with
  | [] => some []
  | e :: es => (denE n c e).bind fun r => (denJ n c es).map fun rs => r :: rs
noncomputable def denI : Nat->FC->Expr->Option Src
 | 0, _, _ => none
 | n + 1, c, e => match e with
  | .Call f es ks pos => (match f with
   | .Name x p => (match ks with
    | [] => if x == ("range" : Str) then rngR c (denE n c) (Qbf n c) x es else (denE n c (.Call (.Name x p) es [] pos)).map QaB
    | k :: ks => (denE n c (.Call (.Name x p) es (k :: ks) pos)).map QaB)
   | f => (denE n c (.Call f es ks pos)).map QaB)
  | e => (denE n c e).map QaB
end
end DL
namespace DL
open PySem PySem.Spec PyProof.Rows L2
section
variable {X : Cx}
theorem binD_ok {op : Operator} {o : Op2} (h : binD op = some o) : OpW X (binaryOp op) o := by
 cases op <;> first
  | (cases h; done)
  | (cases h; exact opw_add)
  | (cases h; exact opw_sub)
  | (cases h; exact opw_mul)
  | (cases h; exact opw_div)
  | (cases h; exact opw_mod)
theorem cmpD_ok {op : CmpOp} {o : Op2} (hu : X.A.units + 64 < cLine) (h : cmpD op = some o) : OpW X (compareOp op) o := by
 cases op <;> first
  | (cases h; done)
  | (cases h; exact opw_eq hu)
  | (cases h; exact opw_ne hu)
  | (cases h; exact opw_lt)
  | (cases h; exact opw_le)
  | (cases h; exact opw_gt)
  | (cases h; exact opw_in hu)
  | (cases h; exact QiM hu)
theorem bltD_ok {m : Bool} {x : Str} {f : Value} {op : OpN} (hh : X.A.handled = none) (hc : X.calm = true) (hu : X.A.units + 80 < cLine) (h : bltD m x = some (f, op)) : ∃ id, f = .builtin id/\bootBuiltins x = some (.builtin id)/\QdE X (.builtin id) op := by
 unfold bltD at h
 repeat' split at h
 all_goals first
  | (cases h; done)
  | (cases h; rename_i e; have e' := eq_of_beq e; subst e'; first
   | exact ⟨_, rfl, by decide +kernel, cw_len⟩
   | exact ⟨_, rfl, by decide +kernel, cw_isi⟩
   | exact ⟨_, rfl, by decide +kernel, cw_sortD hh hu⟩
   )
theorem Qhn {m : Bool} {x : Str} {T : String} {op : OpN} (hh : X.A.handled = none) (h : QfG m x = some (T, op)) : bootBuiltins x = some (.type T)/\QdE X (.type T) op := by
 unfold QfG at h
 repeat' split at h
 all_goals first
  | (cases h; done)
  | (cases h; rename_i e; have e' := eq_of_beq e; subst e'; first
   | exact ⟨by decide +kernel, cw_tuple⟩
   | exact ⟨by decide +kernel, cw_list⟩
   )
theorem pd_callB {id : String} {op : OpN} {x : Str} {p pos : Pos} {e : Expr} {es : List Expr} {rr : Runs} (hc : QdE X (.builtin id) op) (hg : Gl X x) (hm : X.mg x = none) (hv : bootBuiltins x = some (.builtin id)) (ha : PDA X (e :: es) rr) (hd : dbg x = false) (hs : (e :: es).all QbB = true) :
  PD X (.Call (.Name x p) (e :: es) [] pos) (runN rr op) := by
 rw [List.all_cons, QkK] at hs
 exact PE.imp (pe_callB hc.r hg hm hv ha (dbg3 hd) (dbg1 hd) (QaY hs.1) (QbZ hs.2)) fun _ _ _ h => QgB h
theorem pd_callT {T : String} {op : OpN} {x : Str} {p pos : Pos} {e : Expr} {es : List Expr} {rr : Runs} (hc : QdE X (.type T) op) (hg : Gl X x) (hm : X.mg x = none) (hv : bootBuiltins x = some (.type T)) (ha : PDA X (e :: es) rr) (hd : dbg x = false) (hs : (e :: es).all QbB = true) :
  PD X (.Call (.Name x p) (e :: es) [] pos) (runN rr op) := by
 rw [List.all_cons, QkK] at hs
 exact PE.imp (QiH hc.r hg hm hv ha (dbg3 hd) (dbg1 hd) (QaY hs.1) (QbZ hs.2)) fun _ _ _ h => QgB h
end
theorem ob {α β : Type} {o : Option α} {f : α->Option β} {b : β} (h : o.bind f = some b) : ∃ a, o = some a/\f a = some b := by
 cases o with
 | none => cases h
 | some a => exact ⟨a, rfl, h⟩
theorem om {α β : Type} {o : Option α} {f : α->β} {b : β} (h : o.map f = some b) : ∃ a, o = some a/\f a = b := by
 cases o with
 | none => cases h
 | some a => exact ⟨a, rfl, Option.some.inj h⟩
theorem oite {α : Type} {c : Bool} {x : Option α} {b : α} (h : (if c then x else none) = some b) : c = true/\x = some b := by
 cases c with
 | true => exact ⟨rfl, h⟩
 | false => cases h
theorem oite3 {α : Type} {c : Bool} {x : Option α} {b : α} (h : (if c then none else x) = some b) : c = false/\x = some b := by
 cases c with
 | true => cases h
 | false => exact ⟨rfl, h⟩
theorem oite2 {α : Type} {c : Bool} {x : Option α} {b : α} (h : (if !c then none else x) = some b) : c = true/\x = some b := by
 cases c with
 | true => exact ⟨rfl, h⟩
 | false => cases h
theorem QgE : ∀ (n : Nat) (c : FC) (es : List Expr) (rr : Runs), Qbf n c es = some rr->∀ Γ st ws st', rr Γ st = .ok ws st'->ws.length = es.length
 | 0, _, _, _, h => by cases h
 | n + 1, c, [], rr, h => by
  cases h
  intro Γ st ws st' e
  cases e; rfl
 | n + 1, c, e :: es, rr, h => by
  unfold Qbf at h
  obtain ⟨_, h⟩ := oite h
  obtain ⟨r, hr, h⟩ := ob h
  obtain ⟨r2, hr2, h⟩ := om h
  subst h
  intro Γ st ws st' e
  unfold Qaa at e
  cases e1 : r Γ st with
  | stuck => rw [e1] at e; cases e
  | ex c s => rw [e1] at e; cases e
  | ok w st1 =>
   rw [e1] at e
   have e' : ((r2 Γ st1).bind fun ws st2 => R.ok (w :: ws) st2) = .ok ws st' := e
   cases e2 : r2 Γ st1 with
   | stuck => rw [e2] at e'; cases e'
   | ex c s => rw [e2] at e'; cases e'
   | ok ws2 st2 =>
    rw [e2] at e'
    cases e'
    rw [QkH, QkH, QgE n c es r2 hr2 Γ st1 ws2 _ e2]
theorem XOK.u64 {c : FC} {X : Cx} (h : XOK c X) : X.A.units + 64 < cLine := by have := h.units; omega
structure Sound (n : Nat) : Prop where
 e : ∀ (c : FC) (X : Cx) (e : Expr) (r : Run), XOK c X->denE n c e = some r->PD X e r
 t : ∀ (c : FC) (X : Cx) (e : Expr) (r : Run), XOK c X->denT n c e = some r->PT X e (tDT X r)
 w : ∀ (c : FC) (X : Cx) (op : BoolOp) (es : List Expr) (pos : Pos) (r : Run), XOK c X->denT n c (.BoolOp op es pos) = some r->PW X (.BoolOp op es pos) (tDT X r)
 es : ∀ (c : FC) (X : Cx) (es : List Expr) (r : Runs), XOK c X->Qbf n c es = some r->PDA X es r
 i : ∀ (c : FC) (X : Cx) (y : Str) (py : Pos) (e : Expr) (r : Src), XOK c X->denI n c e = some r->PDI X (.Name y py) e r
 j : ∀ (c : FC) (X : Cx) (es : List Expr) (rs : List Run), XOK c X->denJ n c es = some rs->Paired (fun e r => PD X e r) es rs
section
variable {c : FC} {X : Cx} {n : Nat}
theorem sd_name {x : Str} {pos : Pos} {r : Run} (xo : XOK c X) (h : nameD c x = some r) : PD X (.Name x pos) r := by
 unfold nameD at h
 by_cases hd : dbg x = true
 ·rw [if_pos hd] at h; cases h
 ·rw [if_neg hd] at h
  have hd' : dbg x = false := by simpa using hd
  have var : ∀ {r : Run}, (slot c.N x).map rVar = some r->Vis X.env.scope x->PD X (.Name x pos) r := by
   intro r h hv
   obtain ⟨i, hi, rfl⟩ := om h
   exact pd_var (by rw [xo.N]; exact QcP hi) hv (dbg1 hd') (dbg2 hd')
  split at h
  ·rename_i hl
   split at h
   ·rename_i w hw
    cases h
    obtain ⟨u, v, h1, h2, h3⟩ := xo.con x w hw
    exact QdO (QfO (xo.gl hl) h1 h2 (dbg1 hd')) h3
   ·rename_i hw
    obtain ⟨T, hT, rfl⟩ := om h
    exact QdO (v := .ty T) (pe_bltn (xo.gl hl) (xo.blt x hw) (tyD_boot hT) rfl (dbg3 hd') (dbg1 hd')) fun _ _ _ => .ty T
   ·cases h
  ·rename_i hl; exact var h (.inl (by rw [xo.sc]; exact hl))
  ·rename_i hl; exact var h (.inr (.inl (by rw [xo.sc]; exact hl)))
  ·rename_i hl; exact var h (.inr (.inr (by rw [xo.sc]; exact hl)))
  ·cases h
theorem sd_con {v : Const} {k : Nat} {pos : Pos} {r : Run} (h : conD v = some r) : PD X (.Constant v k pos) r := by
 cases v <;> first
  | (cases h; done)
  | (cases h; exact QdO pe_int fun _ _ _ => .int _)
  | (cases h; exact QdO pe_str fun _ _ _ => .str _)
  | (cases h; exact QdO pe_bl fun _ _ _ => .bl _)
  | (cases h; exact QdO pe_non fun _ _ _ => .non)
theorem sd_un {op : UnaryOp} {a : Expr} {pos : Pos} {ra r : Run} (ha : PD X a ra) (h : unD op ra = some r) : PD X (.UnaryOp op a pos) r := by
 cases op <;> first
  | (cases h; done)
  | (cases h; exact pd_not ha)
  | (cases h; exact pd_neg ha)
theorem sd_bool {op : BoolOp} {a b : Expr} {rest : List Expr} {pos : Pos} {ra rb : Run} (ha : PD X a ra) (hb : PD X (.BoolOp op (b :: rest) pos) rb) : PD X (.BoolOp op (a :: b :: rest) pos) (boolD op ra rb) := by
 cases op with
 | And => exact pd_and ha hb
 | Or => exact pd_or ha hb
theorem sd_cmp0 {a b : Expr} {op : CmpOp} {pos : Pos} {r : Run} (ih : Sound n) (xo : XOK c X) (h : cmp0 (denE n c) a op b = some r) : PD X (.Compare a [op] [b] pos) r/\PT X (.Compare a [op] [b] pos) (tDT X r) := by
 obtain ⟨hn, h⟩ := oite h
 obtain ⟨ra, ha, h⟩ := ob h
 obtain ⟨rb, hb, h⟩ := ob h
 obtain ⟨o, ho, rfl⟩ := om h
 have k := cmpD_ok (X := X) xo.u64 ho
 exact ⟨pd_cmp k (ih.e c X a ra xo ha) (ih.e c X b rb xo hb) (QcE hn), pdt_cmp k (ih.e c X a ra xo ha) (ih.e c X b rb xo hb) (QcE hn)⟩
theorem sd_cmp1 {a b : Expr} {op : CmpOp} {pos : Pos} {r : Run} (ih : Sound n) (xo : XOK c X) (h : cmp1 c (denE n c) a op b = some r) : PD X (.Compare a [op] [b] pos) r/\PT X (.Compare a [op] [b] pos) (tDT X r) := by
 unfold cmp1 at h
 split at h
 ·rename_i y p ks ws hdc
  obtain ⟨rfl, hdy, hly, hgy⟩ := tconD_ok hdc
  obtain ⟨ra, ha, h⟩ := ob h
  obtain ⟨o, ho, rfl⟩ := om h
  have hD := xo.dcon y ks ws hgy
  have pa := ih.e c X a ra xo ha
  have hu' : X.A.units + 64 < cLine := by have := xo.units; omega
  unfold cmpT at ho
  split at ho
  ·cases ho; exact ⟨pd_inT hu' hD (xo.gl hly) (dbg1 hdy) pa, pdt_inT hu' hD (xo.gl hly) (dbg1 hdy) pa⟩
  ·cases ho
 exact sd_cmp0 ih xo h
theorem sd_cmp {a : Expr} {ops : List CmpOp} {bs : List Expr} {pos : Pos} {r : Run} (ih : Sound n) (xo : XOK c X) (h : cmpR c (denE n c) a ops bs = some r) : PD X (.Compare a ops bs pos) r/\PT X (.Compare a ops bs pos) (tDT X r) := by
 obtain ⟨op, b, rfl, rfl, h⟩ := cmpR_ok h
 exact sd_cmp1 ih xo h
theorem sd_blt0 {x : Str} {e : Expr} {es : List Expr} {p pos : Pos} {r : Run} (ih : Sound n) (xo : XOK c X) (hd : dbg x = false) (hs : (e :: es).all QbB = true) (hl : c.sc.names.lookup x = some .globalImplicit) (hw : c.gl.lookup x = some .blt) (h : blt0 c (Qbf n c) x (e :: es) pos = some r) : PD X (.Call (.Name x p) (e :: es) [] pos) r := by
 obtain ⟨hcm, h⟩ := oite2 h
 split at h
 ·rename_i f op hb
  obtain ⟨rr, hr, rfl⟩ := om h
  obtain ⟨id, rfl, h1, h2⟩ := bltD_ok (X := X) (xo.hnd hcm) (xo.calm hcm) xo.units hb
  exact pd_callB h2 (xo.gl hl) (xo.blt x hw) h1 (ih.es c X _ rr xo hr) hd hs
 ·split at h
  ·rename_i T op hb
   obtain ⟨rr, hr, rfl⟩ := om h
   obtain ⟨h1, h2⟩ := Qhn (X := X) (xo.hnd hcm) hb
   exact pd_callT h2 (xo.gl hl) (xo.blt x hw) h1 (ih.es c X _ rr xo hr) hd hs
  ·cases h
theorem sd_bltG {x : Str} {e : Expr} {es : List Expr} {p pos : Pos} {r : Run} (ih : Sound n) (xo : XOK c X) (hd : dbg x = false) (hs : (e :: es).all QbB = true) (hl : c.sc.names.lookup x = some .globalImplicit) (hw : c.gl.lookup x = some .blt) (h : bltG c (denE n c) (Qbf n c) x e es pos = some r) : PD X (.Call (.Name x p) (e :: es) [] pos) r := by
 unfold bltG at h
 split at h
 ·rename_i a hss
  obtain ⟨ra, ha, er⟩ := om h
  subst er
  obtain ⟨p2, pos2, rfl, rfl, rfl, h3, h4, h6, h7⟩ := ssD_ok hss
  exact pd_sortS (xo.hnd h4) xo.units (xo.gl hl) (xo.blt _ hw) (xo.gl h6) (xo.blt _ h7) (ih.e c X a ra xo ha) h3
 exact sd_blt0 ih xo hd hs hl hw h
theorem sd_callG {x : Str} {e : Expr} {es : List Expr} {p pos : Pos} {r : Run} (ih : Sound n) (xo : XOK c X) (h : callG c (denE n c) (Qbf n c) x e es pos = some r) : PD X (.Call (.Name x p) (e :: es) [] pos) r := by
 unfold callG at h
 by_cases hd : dbg x = true
 ·rw [if_pos hd] at h; cases h
 ·rw [if_neg hd] at h
  have hd' : dbg x = false := by simpa using hd
  obtain ⟨hs, h⟩ := oite h
  have hs' := hs
  rw [List.all_cons, QkK] at hs'
  split at h
  ·rename_i hl
   split at h
   ·rename_i k op hw
    split at h
    ·rename_i hk
     obtain ⟨hcm, h⟩ := oite h
     obtain ⟨rr, hr, rfl⟩ := om h
     obtain ⟨kk, f, fd, ps, F, R, h1, h2, h3, _⟩ := xo.fn hcm x k op hw
     exact pd_call F (R.mono (Nat.le_add_right kk 2)) (xo.gl hl) h1 h2 h3 (ih.es c X _ rr xo hr) (fun Γ st ws st' e => by rw [QgE n c _ rr hr Γ st ws st' e]; exact hk) (dbg1 hd') (QaY hs'.1) (QbZ hs'.2)
    ·cases h
   ·rename_i hw; exact sd_bltG ih xo hd' hs hl hw h
   ·cases h
  ·cases h
theorem sd_mthG {o : Expr} {m : Str} {apos pos : Pos} {es : List Expr} {r : Run} (ih : Sound n) (xo : XOK c X) (h : mthG (denE n c) (Qbf n c) o m apos es pos = some r) : PD X (.Call (.Attribute o m apos) es [] pos) r := by
 obtain ⟨hk, h⟩ := oite h
 simp only [QkK, decide_eq_true_eq] at hk
 obtain ⟨⟨⟨h1, h2⟩, h3⟩, h4⟩ := hk
 obtain ⟨⟨T, op⟩, hm, h⟩ := ob h
 obtain ⟨ro, ho, h⟩ := ob h
 obtain ⟨rr, hr, rfl⟩ := om h
 obtain ⟨id, M⟩ := mthD_ok (X := X) xo.u64 hm
 cases es with
 | nil =>
  cases n with
  | zero => cases hr
  | succ n => cases hr; exact pd_mt0 M.hT M.pa M.slot M.hty M.hm (ih.e c X o ro xo ho) h1 h2
 | cons e es =>
  have h3' := h3
  rw [List.all_cons, QkK] at h3'
  exact pd_mt M.hT M.pa M.slot M.hty M.hm (ih.e c X o ro xo ho) (ih.es c X _ rr xo hr) h1 (star_few h3 h4) h2 (QaY h3'.1) (QbZ h3'.2)
theorem sd_call {f : Expr} {es : List Expr} {ks : List Keyword} {pos : Pos} {r : Run} (ih : Sound n) (xo : XOK c X) (h : callR c (denE n c) (Qbf n c) f es ks pos = some r) : PD X (.Call f es ks pos) r := by
 cases f <;> first | (cases h; done) | skip
 ·cases ks with
  | nil => exact sd_mthG ih xo h
  | cons k ks => cases h
 ·cases es with
  | nil => cases h
  | cons e es =>
   cases ks with
   | nil => exact sd_callG ih xo h
   | cons k ks =>
    cases h
theorem sd_sl {m : Bool} {a : Expr} {lo hi : Option Expr} {p2 pos : Pos} {r : Run} (ih : Sound n) (xo : XOK c X) (h : slG m (denE n c) a lo hi = some r) : PD X (.Subscript a (.Slice lo hi none p2) pos) r := by
 cases lo with
 | none =>
  cases hi with
  | none => obtain ⟨ra, ha, rfl⟩ := om h; exact pd_slNN (ih.e c X a ra xo ha)
  | some u => obtain ⟨ra, ha, h⟩ := ob h; obtain ⟨rl, hl, rfl⟩ := om h; exact pd_slNS (ih.e c X a ra xo ha) (ih.e c X u rl xo hl)
 | some l =>
  cases hi with
  | none => obtain ⟨ra, ha, h⟩ := ob h; obtain ⟨rl, hl, rfl⟩ := om h; exact pd_slSN (ih.e c X a ra xo ha) (ih.e c X l rl xo hl)
  | some u => obtain ⟨ra, ha, h⟩ := ob h; obtain ⟨rl, hl, h⟩ := ob h; obtain ⟨rh, hr, rfl⟩ := om h; exact pd_slSS (ih.e c X a ra xo ha) (ih.e c X l rl xo hl) (ih.e c X u rh xo hr)
theorem sd_ix {a b : Expr} {pos : Pos} {r : Run} (ih : Sound n) (xo : XOK c X) (hp : Qbr b = true) (h : ixG c (denE n c) a b = some r) : PD X (.Subscript a b pos) r := by
 unfold ixG at h
 obtain ⟨ra, ha, h3⟩ := ob h
 obtain ⟨rb, hb, rfl⟩ := om h3
 exact pd_ixX (by have := xo.units; omega) (ih.e c X a ra xo ha) (ih.e c X b rb xo hb) (QeT hp) (pd_ix0 (ih.e c X a ra xo ha) (ih.e c X b rb xo hb) (QhA hp))
theorem sd_sub {a i : Expr} {pos : Pos} {r : Run} (ih : Sound n) (xo : XOK c X) (h : subG c (denE n c) a i pos = some r) : PD X (.Subscript a i pos) r := by
 by_cases hp : Qbr i = true
 ·have h' : (if Qbr i then ixG c (denE n c) a i else none) = some r := by
   rw [<-h]
   cases i <;> first | rfl | exact absurd (show false = true from hp) Qkr
  exact sd_ix ih xo hp (oite h').2
 ·cases i <;> first | exact absurd rfl hp | skip
  rename_i lo hi st p2
  cases st with
  | none => exact sd_sl ih xo h
  | some st => cases h
theorem sd_ifs {ifs : List Expr} {rt : Run} {X' : Cx} (hK : X'.K = X.K) (h : ifsD (denT n c) ifs = some rt) (k : ∀ t r, denT n c t = some r->PT X' t (tDT X' r)) : PTs X' ifs (tT0 X.K rt) := by
 cases ifs with
 | nil =>
  cases h
  intro pins s' σ H' Q I q
  refine pts_nil pins s' σ H' Q I ?_
  obtain ⟨ι, G, st, Γ, en, sr, q⟩ := q
  obtain ⟨b, e, q'⟩ := q (.bl true) ι G H' (Ext.refl _ _ _) sr (.bl true)
  cases e; exact q'
 | cons t ts =>
  cases ts with
  | nil => rw [<-hK]; exact pts_one (PT.calm (k t rt h))
  | cons _ _ => cases h
theorem sd_compG {elt iter : Expr} {x : Str} {px : Pos} {ifs : List Expr} {scope : Scope} {pos : Pos} {r : Run} (ih : Sound n) (xo : XOK c X) (h : compG c (denI n c) (denT n) (denE n) elt x iter ifs scope pos = some r) :
  PD X (.ListComp elt [⟨.Name x px, iter, ifs, 0⟩] scope pos) r/\(∀ {i : Nat} {y : Str} {py spos : Pos}, X.N.Nodup->X.N[i]? = some y->X.env.scope.names.lookup y = some .local->swapsWith (.ListComp elt [⟨.Name x px, iter, ifs, 0⟩] scope pos) (some (.Name y py)) spos.line X.env = pure true ->
   PS X (.Assign [.Name y py] (.ListComp elt [⟨.Name x px, iter, ifs, 0⟩] scope pos) spos) (tAsg (tD X r) (QdH i))) := by
 obtain ⟨hcm, h⟩ := oite2 h
 obtain ⟨hk, h⟩ := oite h
 rw [QkK] at hk
 obtain ⟨src, hsrc, h⟩ := ob h
 obtain ⟨cap, hcap, h⟩ := ob h
 obtain ⟨rt, hrt, h⟩ := ob h
 obtain ⟨re, hre, rfl⟩ := om h
 exact pd_comp (xo.calm hcm) (ih.i c X x px iter src xo hsrc) (QjY xo hk.2 hcap) (fun C s H ex => sd_ifs (X := X) rfl hrt fun t r ht => ih.t _ _ t r (Qhb xo hk.2 hcap C s H ex) ht) (fun C s H ex => PD.calm (ih.e _ _ elt re (Qhb xo hk.2 hcap C s H ex) hre)) (Qct hk.1)
theorem Qin {elt : Expr} {gens : List Comprehension} {scope : Scope} {pos : Pos} {r : Run} (ih : Sound n) (xo : XOK c X) (h : compR c (denI n c) (denT n) (denE n) (Qbf n c) elt gens scope pos = some r) :
  PD X (.ListComp elt gens scope pos) r/\(oddC c (.ListComp elt gens scope pos) = false->∀ {i : Nat} {y : Str} {py spos : Pos}, X.N.Nodup->X.N[i]? = some y->X.env.scope.names.lookup y = some .local->swapsWith (.ListComp elt gens scope pos) (some (.Name y py)) spos.line X.env = pure true ->
   PS X (.Assign [.Name y py] (.ListComp elt gens scope pos) spos) (tAsg (tD X r) (QdH i))) := by
 have h0 := compR_ok h
 clear h
 obtain ⟨x, px, iter, ifs, rfl, h⟩ := h0
 unfold compN at h
 obtain ⟨g1, g2⟩ := sd_compG (px := px) ih xo h
 exact ⟨g1, fun _ => g2⟩
theorem sd_rng {es : List Expr} {y : Str} {py p pos : Pos} {r : Src} (ih : Sound n) (xo : XOK c X) (h : rngR c (denE n c) (Qbf n c) "range" es = some r) : PDI X (.Name y py) (.Call (.Name "range" p) es [] pos) r := by
 unfold rngR at h
 split at h
 ·rename_i hl hw
  cases es with
  | nil => cases h
  | cons a es =>
   cases es with
   | nil =>
    obtain ⟨hs, h⟩ := oite h
    obtain ⟨ra, ha, rfl⟩ := om h
    exact QhD (xo.gl hl) (xo.blt _ hw) (ih.e c X a ra xo ha) (QaY hs)
   | cons b es =>
    cases es with
    | nil =>
     cases h
    | cons d es =>
     cases h
 ·cases h
theorem sd_E {e : Expr} {r : Run} (ih : Sound n) (xo : XOK c X) (h : denE (n + 1) c e = some r) : PD X e r := by
 unfold denE at h
 cases e with
 | Name x pos => exact sd_name xo h
 | Constant v k pos => exact sd_con h
 | BinOp a op b pos =>
  obtain ⟨ra, ha, h⟩ := ob h
  obtain ⟨rb, hb, h⟩ := ob h
  obtain ⟨o, ho, rfl⟩ := om h
  exact pd_op (binD_ok ho) (ih.e c X a ra xo ha) (ih.e c X b rb xo hb)
 | UnaryOp op a pos => obtain ⟨ra, ha, h⟩ := ob h; exact sd_un (ih.e c X a ra xo ha) h
 | BoolOp op es pos =>
  cases es with
  | nil => cases h
  | cons a es =>
   cases es with
   | nil => exact pd_one (ih.e c X a r xo h)
   | cons b rest => obtain ⟨ra, ha, h⟩ := ob h; obtain ⟨rb, hb, rfl⟩ := om h; exact sd_bool (ih.e c X a ra xo ha) (ih.e c X _ rb xo hb)
 | Compare a ops bs pos => exact (sd_cmp ih xo h).1
 | IfExp t a b pos =>
  obtain ⟨rt, ht, h⟩ := ob h
  obtain ⟨ra, ha, h⟩ := ob h
  obtain ⟨rb, hb, rfl⟩ := om h
  exact pd_if (ih.t c X t rt xo ht) (ih.e c X a ra xo ha) (ih.e c X b rb xo hb)
 | Tuple es k pos => obtain ⟨rr, hr, rfl⟩ := om h; exact pd_tup (ih.es c X es rr xo hr)
 | List es pos =>
  obtain ⟨rr, hr, rfl⟩ := om h
  cases c.isMut pos with
  | true => exact pd_newL (ih.es c X es rr xo hr)
  | false => exact pd_lst (ih.es c X es rr xo hr)
 | Call f es ks pos => exact sd_call ih xo h
 | Subscript a i pos => exact sd_sub ih xo h
 | ListComp elt gens scope pos => exact (Qin ih xo h).1
 | Dict ks vs pos =>
  cases ks with
  | cons _ _ => cases h
  | nil =>
   cases vs with
   | cons _ _ => cases h
   | nil =>
    cases h
    cases c.isMut pos with
    | true => exact pd_dictN
    | false => exact pd_dict0
 | _ => cases h
theorem sd_W {op : BoolOp} {es : List Expr} {pos : Pos} {r : Run} (ih : Sound n) (xo : XOK c X) (h : denT (n + 1) c (.BoolOp op es pos) = some r) : PW X (.BoolOp op es pos) (tDT X r) := by
 unfold denT at h
 cases es with
 | nil => cases h
 | cons a es =>
  cases es with
  | nil => exact pwt_one (ih.t c X a r xo h)
  | cons b rest =>
   obtain ⟨ra, ha, h⟩ := ob h
   obtain ⟨rb, hb, rfl⟩ := om h
   cases op with
   | And => exact pwt_and (ih.t c X a ra xo ha) (ih.w c X .And (b :: rest) pos rb xo hb)
   | Or => exact pwt_or (ih.t c X a ra xo ha) (ih.w c X .Or (b :: rest) pos rb xo hb)
theorem sd_T {e : Expr} {r : Run} (ih : Sound n) (xo : XOK c X) (h : denT (n + 1) c e = some r) : PT X e (tDT X r) := by
 have pl : QiC e = true->denE n c e = some r->PT X e (tDT X r) := fun hp h => pdt_val (ih.e c X e r xo h) (QiB hp)
 cases e with
 | BoolOp op es pos => exact (sd_W ih xo h).pt
 | UnaryOp op a pos =>
  unfold denT at h
  cases op with
  | Not => obtain ⟨ra, ha, rfl⟩ := om h; exact pdt_not (ih.t c X a ra xo ha)
  | _ => exact pl rfl h
 | Compare a ops bs pos => unfold denT at h; exact (sd_cmp ih xo h).2
 | _ => unfold denT at h; obtain ⟨hp, h⟩ := oite h; exact pl hp h
theorem sd_I {y : Str} {py : Pos} {e : Expr} {r : Src} (ih : Sound n) (xo : XOK c X) (h : denI (n + 1) c e = some r) : PDI X (.Name y py) e r := by
 have val : ∀ {r : Src}, (denE n c e).map QaB = some r->PDI X (.Name y py) e r := fun {r} h => by
  obtain ⟨ra, ha, rfl⟩ := om h
  exact pdi_val (ih.e c X e ra xo ha)
 unfold denI at h
 cases e with
 | Call f es ks pos =>
  cases f with
  | Name x p =>
   cases ks with
   | nil =>
    by_cases hx : (x == ("range" : Str)) = true
    ·have h : (if x == ("range" : Str) then rngR c (denE n c) (Qbf n c) x es else (denE n c (.Call (.Name x p) es [] pos)).map QaB) = some r := h
     rw [if_pos hx] at h
     have hx' := eq_of_beq hx
     subst hx'
     exact sd_rng ih xo h
    ·have h : (if x == ("range" : Str) then rngR c (denE n c) (Qbf n c) x es else (denE n c (.Call (.Name x p) es [] pos)).map QaB) = some r := h
     rw [if_neg hx] at h
     exact val h
   | cons k ks => exact val h
  | _ => exact val h
 | _ => exact val h
end
theorem Qdb : ∀ n, Sound n
 | 0 => ⟨fun _ _ _ _ _ h => by (unfold denE at h; cases h), fun _ _ _ _ _ h => by (unfold denT at h; cases h), fun _ _ _ _ _ _ _ h => by (unfold denT at h; cases h), fun _ _ _ _ _ h => by (unfold Qbf at h; cases h), fun _ _ _ _ _ _ _ h => by (unfold denI at h; cases h), fun _ _ _ _ _ h => by (unfold denJ at h; cases h)⟩
 | n + 1 => by
  have ih := Qdb n
  refine ⟨fun _ _ _ _ xo h => sd_E ih xo h, fun _ _ _ _ xo h => sd_T ih xo h, fun _ _ _ _ _ _ xo h => sd_W ih xo h, fun c X es r xo h => ?_, fun _ _ _ _ _ _ xo h => sd_I ih xo h, fun c X es rs xo h => ?_⟩
  ·unfold Qbf at h
   cases es with
   | nil => cases h; exact QfP
   | cons e es =>
    obtain ⟨hs, h⟩ := oite h
    obtain ⟨ra, ha, h⟩ := ob h
    obtain ⟨rr, hr, rfl⟩ := om h
    exact Qek (ih.e c X e ra xo ha) (ih.es c X es rr xo hr) (QaY hs)
  ·unfold denJ at h
   cases es with
   | nil => cases h; exact .nil
   | cons e es =>
    obtain ⟨ra, ha, h⟩ := ob h
    obtain ⟨rr, hr, rfl⟩ := om h
    exact .cons (ih.e c X e ra xo ha) (ih.j c X es rr xo hr)
end DL
namespace DL
open PySem PySem.Spec PyProof.Rows L2
def Qdp : Expr->Bool
 | .ListComp _ _ _ _ => true
 | .SetComp _ _ _ _ => true
 | .DictComp _ _ _ _ _ => true
 | _ => false
theorem QbC {e : Expr} {t : Option Expr} {l : Nat} {env : Env} (h : Qdp e = false) : swapsWith e t l env = pure false := by
 cases e <;> first | rfl | exact absurd (show true = false from h) (by decide)
def isTup : Expr->Bool
 | .Tuple _ _ _ => true
 | _ => false
def locD (c : FC) (x : Str) : Option Nat := match c.sc.names.lookup x with
 | some .local => slot c.N x
 | some .cell => slot c.N x
 | _ => none
theorem Qjb {c : FC} {x : Str} {i : Nat} (h : locD c x = some i) : (c.sc.names.lookup x = some .local\/c.sc.names.lookup x = some .cell)/\slot c.N x = some i := by
 unfold locD at h
 split at h
 ·rename_i e; exact ⟨.inl e, h⟩
 ·rename_i e; exact ⟨.inr e, h⟩
 ·cases h
def asgD (c : FC) (E : Expr->Option Run) (e : Expr) : List Expr->Option RunS
 | [] => none
 | t :: ts => (match ts with
  | _ :: _ => none
  | [] => (match t with
   | .Name x _ => if oddC c e then none else (locD c x).bind fun i => (E e).map fun r => sSet i r
   | .Subscript o i _ => if Qdp e || isTup e || !Qbr i then none else (E o).bind fun ro => (E i).bind fun ri => (E e).map fun rv => Qcc ro ri rv
   | _ => none))
def forD (c : FC) (I : Expr->Option Src) (E : Expr->Option Run) (Es : List Expr->Option Runs) (rb : RunS) (tg iter : Expr) : Option RunS := match tg with
 | .Name x _ => if QiR iter then (locD c x).bind fun i => (if c.isMut iter.pos = true then (E iter).map fun r => Qhw i r rb else (I iter).map fun src => sFor i src rb) else none
 | _ => none
mutual
noncomputable def denS : Nat->FC->Stmt->Option RunS
 | 0, _, _ => none
 | n + 1, c, s => match s with
  | .Return v _ => (match v with
   | none => some sRetN
   | some e => (denE n c e).map sRet)
  | .Pass _ => some Qaq
  | .Break _ => some sBrk
  | .Continue _ => some sCnt
  | .Assign ts e _ => asgD c (denE n c) e ts
  | .If t a b _ => (denT n c t).bind fun rt => (Qbt n c a).bind fun ra => (Qbt n c b).map fun rb => sIf rt ra rb
  | .For tg iter body orelse _ => (match orelse with
   | [] => if !c.cm then none else (Qbt n c body).bind fun rb => forD c (denI n c) (denE n c) (Qbf n c) rb tg iter
   | _ :: _ => none)
  | .Expr e _ => if Qdp e then none else (denE n c e).map Qcp
  | _ => none
noncomputable def Qbt : Nat->FC->List Stmt->Option RunS
 | 0, _, _ => none
 | n + 1, c, ss => match ss with
  | [] => some Qaq
  | s :: ss => (denS n c s).bind fun a => (Qbt n c ss).map fun b => sSeq a b
end
structure XS (c : FC) (X : Cx) : Prop extends XOK c X where
 fnx : ∀ x, X.fn x = true
 own' : PassesOwn (model X.prog X.w) X.A X.env X.xe
structure SoundS (n : Nat) : Prop where
 s : ∀ (c : FC) (X : Cx) (s : Stmt) (r : RunS), XS c X->denS n c s = some r->PDS X s r
 ss : ∀ (c : FC) (X : Cx) (s : List Stmt) (r : RunS), XS c X->Qbt n c s = some r->PDSs X s r
theorem loc_pg {c : FC} {X : Cx} {x : Str} {i : Nat} {p : Pos} (xo : XS c X) (h : locD c x = some i) : PG X (.Name x p) (QdH i) := by
 obtain ⟨hl, hi⟩ := Qjb h
 exact QiF (by rw [xo.N]; exact xo.nd) (by rw [xo.N]; exact QcP hi) (by show X.env.scope.names.lookup x = _\/_; rw [xo.sc]; exact hl) (.inl (xo.fnx x))
theorem Qim {n : Nat} {c : FC} {X : Cx} {x : Str} {i : Nat} {e : Expr} {r : Run} {p pos : Pos} (xo : XS c X) (hl : locD c x = some i) (hodd : oddC c e = false) (he : denE n c e = some r) : PDS X (.Assign [.Name x p] e pos) (sSet i r) := by
 obtain ⟨hl, hi⟩ := Qjb hl
 have hN : X.N.Nodup := by rw [xo.N]; exact xo.nd
 have hx : X.N[i]? = some x := by rw [xo.N]; exact QcP hi
 have hL : Loc X.env.scope x := by show X.env.scope.names.lookup x = _\/_; rw [xo.sc]; exact hl
 have hp := (Qdb n).e c X e r xo.toXOK he
 have plain : swapsWith e (some (.Name x p)) pos.line X.env = pure false->PDS X (.Assign [.Name x p] e pos) (sSet i r) := fun h => pds_set hN hx hL hp h (.inl (xo.fnx x))
 cases e with
 | ListComp elt gens scope cpos =>
  cases hb : X.env.blockKind == .function && X.env.kindOf x == some .local && p.line == cpos.line && !(scope.names.any fun (n, k) => n == x && (k == .local || k == .cell)) with
  | false => exact plain (congrArg pure hb)
  | true =>
   have hloc : X.env.scope.names.lookup x = some .local := by
    simp only [QkK] at hb
    exact eq_of_beq hb.1.1.2
   cases n with
   | zero => unfold denE at he; cases he
   | succ n => unfold denE at he; exact PS.imp ((Qin (Qdb n) xo.toXOK he).2 hodd hN hx hloc (congrArg pure hb)) fun D σ H h => Qki h
 | SetComp _ _ _ _ => cases n <;> (unfold denE at he; cases he)
 | DictComp _ _ _ _ _ => cases n <;> (unfold denE at he; cases he)
 | _ => exact plain rfl
theorem ss_asg {n : Nat} {c : FC} {X : Cx} {e : Expr} {ts : List Expr} {r : RunS} {pos : Pos} (xo : XS c X) (h : asgD c (denE n c) e ts = some r) : PDS X (.Assign ts e pos) r := by
 cases ts with
 | nil => cases h
 | cons t ts =>
  cases ts with
  | cons _ _ => cases h
  | nil =>
   cases t <;> first | (cases h; done) | skip
   ·rename_i o i p
    have h : (if Qdp e || isTup e || !Qbr i then none else (denE n c o).bind fun ro => (denE n c i).bind fun ri => (denE n c e).map fun rv => Qcc ro ri rv) = some r := h
    cases hc1 : Qdp e with
    | true => rw [hc1] at h; cases h
    | false =>
     cases hc2 : isTup e with
     | true => rw [hc1, hc2] at h; cases h
     | false =>
      cases hc3 : Qbr i with
      | false => rw [hc1, hc2, hc3] at h; cases h
      | true =>
       rw [hc1, hc2, hc3] at h
       obtain ⟨ro, ho, h⟩ := ob h
       obtain ⟨ri, hi, h⟩ := ob h
       obtain ⟨rv, hv, rfl⟩ := om h
       have po := (Qdb n).e c X o ro xo.toXOK ho
       have pi := (Qdb n).e c X i ri xo.toXOK hi
       refine QiJ (by have := xo.units; omega) po pi ((Qdb n).e c X e rv xo.toXOK hv) (fun hs => pg_sub po pi hs (by intro v; cases i <;> first | rfl | exact absurd (show false = true from hc3) Qkr)) (show swapsWith e (some (.Subscript o i p)) pos.line X.env = pure false from QbC hc1) ?_ (QbC hc1)
       cases e <;> first | rfl | exact absurd (show true = false from hc2) (by decide)
   ·obtain ⟨ho, h⟩ := oite3 h
    obtain ⟨i, hi, h⟩ := ob h
    obtain ⟨ra, ha, rfl⟩ := om h
    exact Qim xo hi ho ha
theorem ss_for {n : Nat} {c : FC} {X : Cx} {tg iter : Expr} {body : List Stmt} {rb r : RunS} {pos : Pos} (ih : SoundS n) (xo : XS c X) (hcm : c.cm = true) (hb : Qbt n c body = some rb) (h : forD c (denI n c) (denE n c) (Qbf n c) rb tg iter = some r) : PDS X (.For tg iter body [] pos) r := by
 cases tg <;> first | (cases h; done) | skip
 ·rename_i x p
  obtain ⟨hs, h⟩ := oite h
  obtain ⟨i, hi, h⟩ := ob h
  by_cases hm : c.isMut iter.pos = true
  ·rw [if_pos hm] at h
   obtain ⟨r1, hr, rfl⟩ := om h
   exact pds_forL xo.own' (xo.calm hcm) ((Qdb n).e c X iter r1 xo.toXOK hr) (loc_pg xo hi) (ih.ss c X body rb xo hb) (Qct hs)
  rw [if_neg hm] at h
  obtain ⟨src, hsrc, rfl⟩ := om h
  exact pds_for xo.own' (xo.calm hcm) ((Qdb n).i c X x p iter src xo.toXOK hsrc) (loc_pg xo hi) (ih.ss c X body rb xo hb) (Qct hs)
theorem soundS : ∀ n, SoundS n
 | 0 => ⟨fun _ _ _ _ _ h => by (unfold denS at h; cases h), fun _ _ _ _ _ h => by (unfold Qbt at h; cases h)⟩
 | n + 1 => by
  have ih := soundS n
  refine ⟨fun c X s r xo h => ?_, fun c X ss r xo h => ?_⟩
  ·unfold denS at h
   cases s with
   | Return v pos =>
    cases v with
    | none => cases h; exact pds_retN
    | some e => obtain ⟨ra, ha, rfl⟩ := om h; exact pds_ret ((Qdb n).e c X e ra xo.toXOK ha)
   | Pass _ => cases h; exact pds_pass
   | Break _ => cases h; exact pds_brk
   | Continue _ => cases h; exact pds_cnt
   | Assign ts e pos => exact ss_asg xo h
   | If t a b pos =>
    obtain ⟨rt, ht, h⟩ := ob h
    obtain ⟨ra, ha, h⟩ := ob h
    obtain ⟨rb, hb, rfl⟩ := om h
    exact pds_if ((Qdb n).t c X t rt xo.toXOK ht) (ih.ss c X a ra xo ha) (ih.ss c X b rb xo hb)
   | For tg iter body orelse pos =>
    cases orelse with
    | cons _ _ => cases h
    | nil =>
     obtain ⟨hcm, h⟩ := oite2 h
     obtain ⟨rb, hb, h⟩ := ob h
     exact ss_for ih xo hcm hb h
   | Expr e pos =>
    have h : (if Qdp e then none else (denE n c e).map Qcp) = some r := h
    cases hc : Qdp e with
    | true => rw [hc] at h; cases h
    | false =>
     rw [hc] at h
     obtain ⟨ra, ha, rfl⟩ := om h
     exact pds_drop ((Qdb n).e c X e ra xo.toXOK ha) (QbC hc)
   | _ => cases h
  ·unfold Qbt at h
   cases ss with
   | nil => cases h; exact pdss_nil
   | cons s ss =>
    obtain ⟨ra, ha, h⟩ := ob h
    obtain ⟨rb, hb, rfl⟩ := om h
    exact QiI (ih.s c X s ra xo ha) (ih.ss c X ss rb xo hb)
def QaP (N ps : List Str) (sc : Scope) : Bool :=
 (sc.kind == .function) && !sc.isCoroutine && !sc.isGenerator && decide N.Nodup && decide (N.take ps.length = ps) && ps.all (fun x => sc.names.lookup x == some .local || sc.names.lookup x == some .cell) && sc.names.all (fun y => y.2 != .free)
theorem Qhs {N ps : List Str} {sc : Scope} (h : QaP N ps sc = true) : FnScope N ps sc := by
 unfold QaP at h
 simp only [QkK, List.all_eq_true, decide_eq_true_eq, beq_iff_eq, Bool.not_eq_true', Bool.or_eq_true] at h
 obtain ⟨⟨⟨⟨⟨⟨h1, h2⟩, h3⟩, h4⟩, h5⟩, h6⟩, h7⟩ := h
 exact ⟨h1, h2, h3, h4, h5, fun x hx => h6 x hx, fun y hy e => by have := h7 y hy; rw [e] at this; cases this⟩
structure TX (P : Program) (w : World) (K : PySem.W.Frag) (mg : Str->Option Value) (base : Heap) (gl : List (Str × GV)) (k : Nat) : Prop where
 con : ∀ x w', gl.lookup x = some (.con w')->∃ u v, mg x = some u/\RelV v u/\∀ ι N G, RelW K ι N G v w'
 fn : ∀ x n op, gl.lookup x = some (.fn n op)->∃ f fd ps, FnOk P w K mg base CX0 k f fd ps (SpD K n op)/\mg x = some (.ref f)/\PySem.W.keepIn K (.ref f) = true/\QbY K fd ps []/\ps.length = n
 blt : ∀ x, gl.lookup x = some .blt->mg x = none
 fx : ∀ x n b op, gl.lookup x = some (.fx n b op)->∃ f fd ps, FnX b P w K mg base k f fd ps (SpX K n op)/\mg x = some (.ref f)/\PySem.W.keepIn K (.ref f) = true/\QbY K fd ps []/\ps.length = n
 exc : ∀ y own tab, gl.lookup y = some (.exc own tab)->∃ cv vc, ExcOk K mg y own tab cv vc
 dcon : ∀ x ks ws, gl.lookup x = some (.dcon ks ws)->KDs P w K mg x ks ws
theorem def_ok {P : Program} {w : World} {K : PySem.W.Frag} {mg : Str->Option Value} {base : Heap} {gl : List (Str × GV)} {k n : Nat} {x qual : Str} {st : Stmt} {f : Addr} {fd : FuncData} {N ps : List Str} {mts : List (Nat × Nat)} {fz : Nat} {run : RunS} (T : TX P w K mg base gl k) (F : Fun K x qual st f fd) (hs : QaP N ps (Qag st) = true)
  (hd : Qbt n ⟨N, Qag st, gl, mts, true, false⟩ (Qay st) = some run) : FnOk P w K mg base CX0 (k + 3) f fd ps (SpD K ps.length (Qbd ps.length N.length fz run)) := by
 have Sc := Qhs hs
 refine fn_body (k := k + 2) F Sc fun cdv A outer s H E hr => (soundS n).ss ⟨N, Qag st, gl, mts, true, false⟩ _ _ run ⟨⟨rfl, Sc.nd, rfl, fun _ => rfl, fun _ => hr.hd, (by have h := hr.un; show (A.deeper (envOfC qual (Qag st) s.heap.objs.size f cdv)).units + 80 < cLine; omega), fun y hy => ?_, T.con, fun _ x n op h => ?_, T.blt, fun x n b op h => ?_, T.exc, (fun z => Bool.noConfusion z), T.dcon⟩, fun _ => rfl, PassesOwn.never⟩ hd
 ·rcases hy with hy | hy
  ·exact PySem.W.cellsFrom_some _ _ _ (.inl hy)
  ·exact absurd rfl (Sc.nofree _ (PySem.mem_of_lookup hy))
 ·obtain ⟨f, fd, ps, h1, h2, h3, h4, h5⟩ := T.fn x n op h
  exact ⟨k, f, fd, ps, h1, hr, h2, h3, h4, h5⟩
 ·obtain ⟨f, fd, ps, h1, h2, h3, h4, h5⟩ := T.fx x n b op h
  exact ⟨k, f, fd, ps, h1, ⟨(fun z => Bool.noConfusion z), hr.dp, hr.un⟩, h2, h3, h4, h5⟩
end DL
namespace DL
open PySem PySem.Spec PyProof.Rows L2
structure DefAt (K : PySem.W.Frag) (mg : Str->Option Value) (x : Str) (st : Stmt) (ps : List Str) : Prop where
 ex : ∃ f fd, Fun K x x st f fd/\mg x = some (.ref f)/\QbY K fd ps []
theorem defAt_mk {K : PySem.W.Frag} {h : Heap} {mg : Str->Option Value} {x : Str} {st : Stmt} {ps : List Str} {f : Addr} {oc : Value} {od an : Option Addr} {osl : Array (Option Value)} {kV doc pm cdv ct : Value} (X : K.In h) (G : h.Ns mainGlobals mg)
  (a : PySem.W.nsIn K mainGlobals x = some (some (.ref f))) (l : K.lookup f = some ⟨oc, od, .func (PySem.W.fnOf x x (Qbj st) (Qay st) (Qag st) .none kV doc pm an cdv ct), osl⟩)
  (c : PySem.W.codeIn K cdv x = true) (k : PySem.W.keepIn K (.ref f) = true)
  (hb : ∀ (kV doc pm : Value) (an : Option Addr) (cdv ct : Value) (us : List Value), us.length = ps.length->bindArgs (PySem.W.fnOf x x (Qbj st) (Qay st) (Qag st) .none kV doc pm an cdv ct) ⟨us, []⟩ = pure (ps.zip us)) : DefAt K mg x st ps :=
 have F := fun_mk (st := st) l c k
 ⟨_, _, F, PySem.W.mg_of X G a, F.binds hb⟩
section
variable {P : Program} {w : World} {K : PySem.W.Frag} {mg : Str->Option Value} {base : Heap} {gl : List (Str × GV)} {k : Nat}
theorem TX.mono {k' : Nat} (h : TX P w K mg base gl k) (hk : k<=k') : TX P w K mg base gl k' :=
 ⟨h.con, fun x n op e => let ⟨f, fd, ps, h1, h2⟩ := h.fn x n op e; ⟨f, fd, ps, h1.mono hk, h2⟩, h.blt, fun x n b op e => let ⟨f, fd, ps, h1, h2⟩ := h.fx x n b op e; ⟨f, fd, ps, h1.mono hk, h2⟩, h.exc, h.dcon⟩
def GOk (P : Program) (w : World) (K : PySem.W.Frag) (mg : Str->Option Value) (base : Heap) (k : Nat) (x : Str) : GV->Prop
 | .con w' => ∃ u v, mg x = some u/\RelV v u/\∀ ι N G, RelW K ι N G v w'
 | .fn n op => ∃ f fd ps, FnOk P w K mg base CX0 k f fd ps (SpD K n op)/\mg x = some (.ref f)/\PySem.W.keepIn K (.ref f) = true/\QbY K fd ps []/\ps.length = n
 | .blt => mg x = none
 | .fx n b op => ∃ f fd ps, FnX b P w K mg base k f fd ps (SpX K n op)/\mg x = some (.ref f)/\PySem.W.keepIn K (.ref f) = true/\QbY K fd ps []/\ps.length = n
 | .exc own tab => ∃ cv vc, ExcOk K mg x own tab cv vc
 | .dcon ks ws => KDs P w K mg x ks ws
theorem TX.get (h : TX P w K mg base gl k) {x : Str} {g : GV} (q : gl.lookup x = some g) : GOk P w K mg base k x g := by
 cases g with
 | con w' => exact h.con x w' q
 | fn n op => exact h.fn x n op q
 | blt => exact h.blt x q
 | fx n b op => exact h.fx x n b op q
 | exc own tab => exact h.exc x own tab q
 | dcon ks ws => exact h.dcon x ks ws q
theorem TX.of (h : ∀ x g, gl.lookup x = some g->GOk P w K mg base k x g) : TX P w K mg base gl k :=
 ⟨fun x w' q => h x _ q, fun x n op q => h x _ q, fun x q => h x _ q, fun x n b op q => h x _ q, fun x own tab q => h x _ q, fun x ks ws q => h x _ q⟩
theorem TX.add {x : Str} {g : GV} (h : TX P w K mg base gl k) (e : GOk P w K mg base k x g) : TX P w K mg base ((x, g) :: gl) k := TX.of fun y g' q => by
 rw [List.lookup_cons] at q
 cases hy : y == x with
 | true =>
  rw [hy] at q
  cases q
  have := eq_of_beq hy
  subst this
  exact e
 | false => rw [hy] at q; exact h.get q
theorem TX.cons {x : Str} {n : Nat} {op : OpN} (h : TX P w K mg base gl k) (e : ∃ f fd ps, FnOk P w K mg base CX0 k f fd ps (SpD K n op)/\mg x = some (.ref f)/\PySem.W.keepIn K (.ref f) = true/\QbY K fd ps []/\ps.length = n) : TX P w K mg base ((x, .fn n op) :: gl) k := h.add e
theorem TX.fnOf {x : Str} {st : Stmt} {N ps : List Str} {mts : List (Nat × Nat)} {fz : Nat} {run : RunS} {n : Nat} (T : TX P w K mg base gl k) (D : DefAt K mg x st ps) (hs : QaP N ps (Qag st) = true) (hd : Qbt n ⟨N, Qag st, gl, mts, true, false⟩ (Qay st) = some run) :
  ∃ f fd ps', FnOk P w K mg base CX0 (k + 3) f fd ps' (SpD K ps.length (Qbd ps.length N.length fz run))/\mg x = some (.ref f)/\PySem.W.keepIn K (.ref f) = true/\QbY K fd ps' []/\ps'.length = ps.length := by
 obtain ⟨f, fd, F, hm, hb⟩ := D.ex
 exact ⟨f, fd, ps, def_ok T F hs hd, hm, F.kp, hb, rfl⟩
theorem TX.nil {w0 : Nat} : TX P w K mg base [] w0 := TX.of fun _ _ h => by cases h
theorem TX.blt1 {x : Str} (h : TX P w K mg base gl k) (hm : mg x = none) : TX P w K mg base ((x, .blt) :: gl) k := h.add hm
theorem TX.dcon1 {x : Str} {ks : List DKey} {ws : List W} (h : TX P w K mg base gl k) (e : KDs P w K mg x ks ws) : TX P w K mg base ((x, .dcon ks ws) :: gl) k := h.add e
end
def st0 : S := ⟨0, fun _ => none⟩
theorem sp_start {K : PySem.W.Frag} {H : Hp} {a : Addr} {ns : List Int} {op : OpN} (hS : SqL K H a (ns.map V.int)) (h : ∃ st', op [.lst (ns.map W.int)] st0 = .ok (.bl true) st') : SpD K 1 op [.ref a] H (fun v _ => v = .bl true) fun _ _ _ => False := by
 obtain ⟨st', e⟩ := h
 refine ⟨rfl, fun _ => 0, H, st0, [.lst (ns.map W.int)], ⟨Same.refl H, fun n o q => (by cases q), fun n m o o' q => (by cases q)⟩, .cons (.lst hS (RelWs.ofInts ns)) .nil, ?_⟩
 rw [e]
 intro v ι' G' H' _ _ r
 cases r; rfl
theorem walkD {l : PySem.W.OpenLaw} {q : Program} {loose : List Str} {XP : (Str->Option Value)->Heap->Prop} {YP : World->Heap->Prop} {d : DefRec} {K : Params->PySem.W.Frag} {op : OpN} {k : Nat} {x : Str} (hn : l.most = some 63) (hdf : d.params.defaults = []) (hr : Room k callerA)
  (hY : ∀ (w : World) (h : Heap), YP w h->(K w.params).In h) (hop : ∀ ns : List Int, ns.length<=63->∃ st', op [.lst (ns.map W.int)] st0 = .ok (.bl true) st')
  (F : ∀ (w : World) (mg : Str->Option Value) (fa : Addr) (h : Heap), (K w.params).In h->h.Ns mainGlobals mg->mg d.name = some (.ref fa) ->
   ∃ fd : FuncData, (∀ (s : Shared) (u : Value), BindsTo s fd ⟨[u], []⟩ [(x, u)])/\∀ base : Heap, (K w.params).In base->base.Ns mainGlobals mg->FnOk l.prog w (K w.params) mg base CX0 k fa fd [x] (SpD (K w.params) 1 op)) :
  PySem.W.WalkO q loose XP YP l.row.toRowW d [] (fun f vs => PySem.call f vs) :=
 L2.walk_of (n := 63) (k := k) (x := x) (CX := fun _ => CX0) (sp := fun w => SpD (K w.params) 1 op) hn (by decide) hdf hr hY F (fun _ _ a ns hl _ hS => sp_start hS (hop ns hl)) fun _ _ _ _ _ z => z
end DL
namespace DL
open PySem PySem.Spec PyProof.Rows L2
section
variable {α β : Type} {st : S} {Γ : Ga}
theorem Qab (a : α) (s : S) (f : α->S->R β) : (R.ok a s).bind f = f a s := Eq.trans rfl rfl
theorem QjI (a : α) (s : S) : (R.ok a s).calm = R.ok a s := Eq.trans rfl rfl
def kIf (A B : S->R α) (w : W) (s : S) : R α := match w with
 | .bl true => A s
 | .bl false => B s
 | _ => .stuck
theorem QaK (A B : S->R α) (b : Bool) (s : S) : kIf A B (.bl b) s = if b = true then A s else B s := by cases b <;> rfl
def kSeq (b : RunS) (fl : Fl) (s : S) : R Fl := match fl with
 | .nx Γ' => b Γ' s
 | fl => .ok fl s
theorem Qaf (b : RunS) (Γ : Ga) (s : S) : kSeq b (.nx Γ) s = b Γ s := Eq.trans rfl rfl
theorem Qgd (b : RunS) (w : W) (s : S) : kSeq b (.rt w) s = .ok (.rt w) s := Eq.trans rfl rfl
theorem Qai (a b : RunS) : sSeq a b Γ st = (a Γ st).bind (kSeq b) := Eq.trans rfl rfl
theorem Qcm (rc : Run) (a b : RunS) : sIf rc a b Γ st = (rc Γ st).bind (kIf (a Γ) (b Γ)) := Eq.trans rfl rfl
theorem ev_ret (r : Run) : sRet r Γ st = (r Γ st).bind fun w s => .ok (.rt w) s := Eq.trans rfl rfl
theorem Qax : Qaq Γ st = .ok (.nx Γ) st := Eq.trans rfl rfl
theorem Qdv (r : Run) : Qcp r Γ st = (r Γ st).bind fun _ s => .ok (.nx Γ) s := Eq.trans rfl rfl
theorem Qbi (w : W) : rVar 0 (some w :: Γ) st = .ok w st := Eq.trans rfl rfl
theorem QaU (a : Option W) (w : W) : rVar 1 (a :: some w :: Γ) st = .ok w st := Eq.trans rfl rfl
theorem QbV (a b : Option W) (w : W) : rVar 2 (a :: b :: some w :: Γ) st = .ok w st := Eq.trans rfl rfl
theorem QcL (a b c : Option W) (w : W) : rVar 3 (a :: b :: c :: some w :: Γ) st = .ok w st := Eq.trans rfl rfl
theorem Qcl (a b c d : Option W) (w : W) : rVar 4 (a :: b :: c :: d :: some w :: Γ) st = .ok w st := Eq.trans rfl rfl
theorem QjB (a b c d e : Option W) (w : W) : rVar 5 (a :: b :: c :: d :: e :: some w :: Γ) st = .ok w st := Eq.trans rfl rfl
theorem ev_v6 (a b c d e f : Option W) (w : W) : rVar 6 (a :: b :: c :: d :: e :: f :: some w :: Γ) st = .ok w st := Eq.trans rfl rfl
theorem ev_v7 (a b c d e f g : Option W) (w : W) : rVar 7 (a :: b :: c :: d :: e :: f :: g :: some w :: Γ) st = .ok w st := Eq.trans rfl rfl
theorem Qdu (i : Nat) (src : Src) (body : RunS) : sFor i src body Γ st = (src Γ st).bind fun items s => Qbe i body items Γ s := Eq.trans rfl rfl
theorem ev_rng1 (r : Run) (i : Int) (h : r Γ st = .ok (.int i) st) (h0 : -4611686018427387904<=i) (h1 : i < 4611686018427387904) : QaF r Γ st = .ok (QaH 0 i.toNat) st := by
 unfold QaF
 rw [h]
 exact if_pos ⟨h0, h1⟩
def kLo (m : Bool) (w l : W) (s : S) : R W := match l with
 | .int i => opSl m (some i) none w s
 | _ => .stuck
def kHi (m : Bool) (w l : W) (s : S) : R W := match l with
 | .int i => opSl m none (some i) w s
 | _ => .stuck
theorem kHi_int (m : Bool) (w : W) (i : Int) (s : S) : kHi m w (.int i) s = opSl m none (some i) w s := Eq.trans rfl rfl
theorem ev_slSN (m : Bool) (a b : Run) : QbP m a b Γ st = (a Γ st).bind fun w s => (b Γ s).bind fun l s => kLo m w l s := Eq.trans rfl rfl
theorem QjC (m : Bool) (a b : Run) : QaV m a b Γ st = (a Γ st).bind fun w s => (b Γ s).bind fun l s => kHi m w l s := Eq.trans rfl rfl
theorem ev_slT (ws : List W) (lo hi : Option Int) : opSl false lo hi (.tup ws) st = .ok (.tup (cutW ws lo hi)) st := Eq.trans rfl rfl
theorem Qad (w : W) : rCon w Γ st = .ok w st := Eq.trans rfl rfl
theorem Qcx (r : Run) (o : W->S->R W) : run1 r o Γ st = (r Γ st).bind o := Eq.trans rfl rfl
theorem Qah (a b : Run) (o : Op2) : run2 a b o Γ st = (a Γ st).bind fun x s => (b Γ s).bind fun y s => o x y s := Eq.trans rfl rfl
theorem Qbs (rr : Runs) (o : OpN) : DL.runN rr o Γ st = (rr Γ st).bind o := Eq.trans rfl rfl
theorem Qfk (o : OpN) (ws : List W) : Qav o ws st = (o ws st).calm := Eq.trans rfl rfl
theorem Qbp : Qac Γ st = .ok [] st := Eq.trans rfl rfl
theorem Qan (r : Run) (rr : Runs) : Qaa r rr Γ st = (r Γ st).bind fun w s => (rr Γ s).bind fun ws s => .ok (w :: ws) s := Eq.trans rfl rfl
theorem QhQ (a b : Run) : Qbu a b Γ st = (a Γ st).bind (kIf (fun s => .ok (.bl true) s) (b Γ)) := Eq.trans rfl rfl
def kNot (w : W) (s : S) : R W := match w with
 | .bl b => .ok (.bl (!b)) s
 | _ => .stuck
theorem Qge (b : Bool) (s : S) : kNot (.bl b) s = .ok (.bl (!b)) s := Eq.trans rfl rfl
theorem QjE (a : Run) : Qbz a Γ st = (a Γ st).bind kNot := Eq.trans rfl rfl
theorem ev_rt (s0 s : S) (w : W) : QhK 0 s0 (.ok (.rt w) s) = .ok w s := Eq.trans rfl rfl
theorem ev_rtL (s0 s : S) (w : W) : QhK 2 s0 (.ok (.rt w) s) = Qjm s0 s w := Eq.trans rfl rfl
theorem QjD (s0 s : S) (w : W) : QhK 1 s0 (.ok (.rt w) s) = keep s0 s w := Eq.trans rfl rfl
theorem QgX (nl fz : Nat) (run : RunS) (w : W) : Qbd 1 nl fz run [w] st = QhK fz st (run (some w :: List.replicate (nl - 1) none) st) := Eq.trans rfl rfl
theorem Qfj (nl fz : Nat) (run : RunS) (w w' : W) : Qbd 2 nl fz run [w, w'] st = QhK fz st (run (some w :: some w' :: List.replicate (nl - 2) none) st) := Eq.trans rfl rfl
theorem QjJ (i j : Int) : Qas (.int i) (.int j) st = .ok (.int (i + j)) st := Eq.trans rfl rfl
theorem QjF (i j : Int) (h : CMul i j) : Qbb (.int i) (.int j) st = .ok (.int (i * j)) st := if_pos h
theorem ev_mulR (i j : Int) (h0 : -1000000<=j) (h1 : j<=1000000) : Qbb (.int i) (.int j) st = .ok (.int (i * j)) st := QjF i j (.inr ⟨by omega, by omega⟩)
theorem ev_mulL (i j : Int) (h0 : -1000000<=i) (h1 : i<=1000000) : Qbb (.int i) (.int j) st = .ok (.int (i * j)) st := QjF i j (.inl ⟨by omega, by omega⟩)
theorem QjH (i j : Int) (h : 0 < j) (h' : j < 1073741824) : QaM (.int i) (.int j) st = .ok (.int (i / j)) st := if_pos ⟨h, h'⟩
theorem ev_modI (i j : Int) (h : 0 < j) : Qaz (.int i) (.int j) st = .ok (.int (i % j)) st := if_pos h
theorem Qgi (i : Int) : Qce (.int i) st = .ok (.int (-i)) st := Eq.trans rfl rfl
theorem ev_gtI (i j : Int) : opGt (.int i) (.int j) st = .ok (.bl (decide (j < i))) st := Eq.trans rfl rfl
theorem ev_eqI (i j : Int) : opEq (.int i) (.int j) st = .ok (.bl (i == j)) st := Eq.trans rfl rfl
theorem QgY (i j : Str) : opEq (.str i) (.str j) st = .ok (.bl (i == j)) st := Eq.trans rfl rfl
theorem ev_addS (x y : Str) (h : x.length + y.length<=sizeLine) : Qas (.str x) (.str y) st = .ok (.str (x ++ y)) st := if_pos h
theorem QjG (xs : List W) : Qdj [.lst xs] st = .ok (.int xs.length) st := Eq.trans rfl rfl
theorem ev_lenS (x : Str) (h : x.length<=sizeLine) : Qdj [.str x] st = .ok (.int x.length) st := if_pos h
theorem Qds (ws : List W) (h : ws.length<=sizeLine) : opL false ws st = .ok (.lst ws) st := if_pos h
theorem QdV (ws : List W) (h : ws.length<=sizeLine) : Qap ws st = .ok (.tup ws) st := if_pos h
theorem Qgj (ws : List W) (i : Int) (w : W) (h : atI ws i = some w) : Qae (.lst ws) (.int i) st = .ok w st := by
 show (match atI ws i with | some w => R.ok w st | none => .stuck) = _
 rw [h]
theorem Qdt (ws : List W) (i : Int) (w : W) (h : atI ws i = some w) : Qae (.tup ws) (.int i) st = .ok w st := by
 show (match atI ws i with | some w => R.ok w st | none => .stuck) = _
 rw [h]
theorem ev_idxS (z : Str) (i : Int) (c : Nat) (hz : z.length<=sizeLine) (h : atI z.cps.toList i = some c) : Qae (.str z) (.int i) st = .ok (.str ⟨#[c]⟩) st := by
 show (if z.length<=sizeLine then (match atI z.cps.toList i with | some c => R.ok (W.str ⟨#[c]⟩) st | none => .stuck) else .stuck) = _
 rw [if_pos hz, h]
theorem Qaw {n : Nat} (h : n<=1000) : n<=sizeLine := Nat.le_of_lt (Qdd h)
theorem at_in {γ : Type} (xs : List γ) (i : Int) (h0 : 0<=i) (h1 : i < xs.length) : ∃ x, atI xs i = some x/\x ∈ xs := by
 have hj : i.toNat < xs.length := by omega
 refine ⟨xs[i.toNat], ?_, List.getElem_mem hj⟩
 have e : ((i.toNat : Nat) : Int) = i := by omega
 have h := Qkf (xs := xs) (j := i.toNat) (Qks hj)
 rw [e] at h
 exact h
theorem Qhh {γ : Type} (xs : List γ) (k : Nat) (x : γ) (h : xs[k]? = some x) : atI xs (k : Int) = some x := Qkf h
theorem QcK (x : W) (xs : List W) : Qae (.tup (x :: xs)) (.int 0) st = .ok x st := Qdt _ 0 x (Qhh (x :: xs) 0 x rfl)
theorem Qjv (x y : W) (xs : List W) : Qae (.tup (x :: y :: xs)) (.int 1) st = .ok y st := Qdt _ 1 y (Qhh (x :: y :: xs) 1 y rfl)
theorem idx2T (x y z : W) (xs : List W) : Qae (.tup (x :: y :: z :: xs)) (.int 2) st = .ok z st := Qdt _ 2 z (Qhh (x :: y :: z :: xs) 2 z rfl)
theorem ev_isi (w : W) (T : String) : Qdk [w, .ty T] st = if kinds.contains T then (match Qch st w with | some k => .ok (.bl (Qdo k T)) st | none => .stuck) else .stuck := Eq.trans rfl rfl
end
section
variable {st : S} {Γ : Ga}
def kSet (i : Nat) (Γ : Ga) (w : W) (s : S) : R Fl := .ok (.nx (Γ.set i (some w))) s
theorem ks1 (a z : Option W) (Γ : Ga) (w : W) (s : S) : kSet 1 (a :: z :: Γ) w s = .ok (.nx (a :: some w :: Γ)) s := Eq.trans rfl rfl
theorem ks2 (a b z : Option W) (Γ : Ga) (w : W) (s : S) : kSet 2 (a :: b :: z :: Γ) w s = .ok (.nx (a :: b :: some w :: Γ)) s := Eq.trans rfl rfl
theorem ks3 (a b c z : Option W) (Γ : Ga) (w : W) (s : S) : kSet 3 (a :: b :: c :: z :: Γ) w s = .ok (.nx (a :: b :: c :: some w :: Γ)) s := Eq.trans rfl rfl
theorem ks4 (a b c d z : Option W) (Γ : Ga) (w : W) (s : S) : kSet 4 (a :: b :: c :: d :: z :: Γ) w s = .ok (.nx (a :: b :: c :: d :: some w :: Γ)) s := Eq.trans rfl rfl
theorem ks5 (a b c d e z : Option W) (Γ : Ga) (w : W) (s : S) : kSet 5 (a :: b :: c :: d :: e :: z :: Γ) w s = .ok (.nx (a :: b :: c :: d :: e :: some w :: Γ)) s := Eq.trans rfl rfl
theorem ks6 (a b c d e f z : Option W) (Γ : Ga) (w : W) (s : S) : kSet 6 (a :: b :: c :: d :: e :: f :: z :: Γ) w s = .ok (.nx (a :: b :: c :: d :: e :: f :: some w :: Γ)) s := Eq.trans rfl rfl
theorem ks7 (a b c d e f g z : Option W) (Γ : Ga) (w : W) (s : S) : kSet 7 (a :: b :: c :: d :: e :: f :: g :: z :: Γ) w s = .ok (.nx (a :: b :: c :: d :: e :: f :: g :: some w :: Γ)) s := Eq.trans rfl rfl
theorem QaX (i : Nat) (r : Run) : sSet i r Γ st = (r Γ st).bind (kSet i Γ) := Eq.trans rfl rfl
end
end DL
namespace DL
open PySem PySem.Spec PyProof.Rows L2
section
variable {K : PySem.W.Frag}
structure DIn (K : PySem.W.Frag) (x : Str) (st : Stmt) : Prop where
 ex : ∃ (f : Addr) (oc : Value) (od : Option Addr) (kV doc pm : Value) (an : Option Addr) (cdv ct : Value) (osl : Array (Option Value)), PySem.W.nsIn K mainGlobals x = some (some (.ref f)) /\
  K.lookup f = some ⟨oc, od, .func (PySem.W.fnOf x x (Qbj st) (Qay st) (Qag st) .none kV doc pm an cdv ct), osl⟩/\PySem.W.codeIn K cdv x = true/\PySem.W.keepIn K (.ref f) = true
theorem DIn.mk' {x : Str} {st : Stmt} {f : Addr} {oc : Value} {od : Option Addr} {kV doc pm : Value} {an : Option Addr} {cdv ct : Value} {osl : Array (Option Value)} (a : PySem.W.nsIn K mainGlobals x = some (some (.ref f)))
  (l : K.lookup f = some ⟨oc, od, .func (PySem.W.fnOf x x (Qbj st) (Qay st) (Qag st) .none kV doc pm an cdv ct), osl⟩) (c : PySem.W.codeIn K cdv x = true) (p : PySem.W.keepIn K (.ref f) = true) : DIn K x st := ⟨_, _, _, _, _, _, _, _, _, _, a, l, c, p⟩
theorem DIn.at_ {x : Str} {st : Stmt} {ps : List Str} {h : Heap} {mg : Str->Option Value} (X : K.In h) (G : h.Ns mainGlobals mg) (d : DIn K x st)
  (hb : ∀ (kV doc pm : Value) (an : Option Addr) (cdv ct : Value) (us : List Value), us.length = ps.length->bindArgs (PySem.W.fnOf x x (Qbj st) (Qay st) (Qag st) .none kV doc pm an cdv ct) ⟨us, []⟩ = pure (ps.zip us)) : DefAt K mg x st ps := by
 obtain ⟨_, _, _, _, _, _, _, _, _, _, a, l, c, p⟩ := d.ex
 exact defAt_mk X G a l c p hb
theorem DIn.law {x : Str} {st : Stmt} {y : Str} {h : Heap} {mg : Str->Option Value} {fa : Addr} {R : FuncData->Prop} (X : K.In h) (G : h.Ns mainGlobals mg) (d : DIn K x st) (hfa : mg x = some (.ref fa))
  (hb : ∀ (kV doc pm : Value) (an : Option Addr) (cdv ct : Value) (s : Shared) (u : Value), BindsTo s (PySem.W.fnOf x x (Qbj st) (Qay st) (Qag st) .none kV doc pm an cdv ct) ⟨[u], []⟩ [(y, u)]) (hR : ∀ fd, Fun K x x st fa fd->R fd) :
  ∃ fd : FuncData, (∀ (s : Shared) (u : Value), BindsTo s fd ⟨[u], []⟩ [(y, u)])/\R fd := by
 obtain ⟨_, _, _, _, _, _, _, _, _, _, a, l, c, p⟩ := d.ex
 have e := hfa.symm.trans (PySem.W.mg_of X G a)
 cases e
 exact ⟨_, fun s u => hb _ _ _ _ _ _ s u, hR _ (fun_mk (st := st) l c p)⟩
end
end DL
namespace DL
open PySem PySem.Spec PyProof.Rows L2
def cp (z : Str) : List Nat := z.cps.toList
theorem Qfp (z : Str) : (cp z).length = z.length := by unfold cp; rw [Array.length_toList]; rfl
theorem QjX (x y : Str) : cp (x ++ y) = cp x ++ cp y := by
 show (x.cps ++ y.cps).toList = _
 rw [Array.toList_append]; rfl
theorem cp_ext {x y : Str} (h : cp x = cp y) : x = y := by
 obtain ⟨a⟩ := x
 obtain ⟨b⟩ := y
 have : a = b := Array.toList_inj.mp h
 rw [this]
theorem cp_join0 : ∀ ys : List Str, cp (Txt.join "" ys) = (ys.map cp).flatten := by
 have e : ∀ ys : List Str, cp (Str.join "" ys) = (ys.map cp).flatten := by
  intro ys
  induction ys with
  | nil => rfl
  | cons x r ih =>
   cases r with
   | nil => show cp x = _; simp
   | cons y r =>
    show cp (x ++ ("" : Str) ++ Str.join "" (y :: r)) = _
    rw [QjX, QjX, ih]
    show cp x ++ [] ++ _ = _
    simp
 intro ys
 show cp (Builtin.Str.glued "" ys) = _
 rw [StrLaws.glued_eq_join]
 exact e ys
end DL
namespace DL.My
open PySem L2
def top (i : Nat) : Stmt := PySem.Challenge.pw_whyfacts_k06_leans.main.body.getD i (.Pass ⟨0, 0, 0, 0⟩)
def Qao : List W := (["has", "not"] : List Str).map W.str
def gl0 : List (Str × GV) := [("PATTERN_PARTS", .dcon [] Qao), ("bool", .blt), ("isinstance", .blt), ("len", .blt), ("list", .blt), ("range", .blt), ("set", .blt), ("sorted", .blt), ("tuple", .blt)]
abbrev QaZ : Stmt := top 2
def QdD : List Str := ["rule", "part"]
def QdC : List Str := ["rule", "part"]
def Qgu : List (Nat × Nat) := []
noncomputable def QbQ : RunS :=
 (sSeq (sRet (Qbu (run2 (run2 (rVar 0) (rCon (W.int 0)) Qae) (rCon (W.str "gather")) opEq) (run2 (run2 (rVar 1) (rCon (W.int 0)) Qae) (rCon (W.str "not")) opEq)))
 Qaq)
noncomputable def QaI : OpN := Qbd 2 2 0 QbQ
abbrev QeQ : Stmt := top 5
def N_l_of : List Str := ["_law_script", "_law_k"]
def P_l_of : List Str := ["_law_script", "_law_k"]
def M_l_of : List (Nat × Nat) := []
noncomputable def Qix : RunS :=
 (sSeq (sRet (run2 (run2 (Qcq false (rVar 0) (rVar 1) (run2 (rVar 1) (rCon (W.int 1)) Qas)) (runN (Qaa (rCon (W.int 0)) Qac) (opL false)) Qas) (rCon (W.int 0)) Qae))
 Qaq)
noncomputable def QaL : OpN := Qbd 2 2 0 Qix
abbrev Qby : Stmt := top 6
def QfF : List Str := ["_law_cell", "_law_many", "_law_some", "_law_names_here", "_law_k", "_law_more", "_law_word", "_law_at"]
def QfD : List Str := ["_law_cell", "_law_many"]
def Qkq : List (Nat × Nat) := [(18, 22)]
noncomputable def Qdh : RunS :=
 (sSeq (sSet 2 (rCon (W.str "abcdefghijklmnopqrstuvwxy")))
 (sSeq (sSet 3 (runN Qac (opL true)))
 (sSeq (sFor 4 (QaF (rVar 1)) (sSeq (sSet 5 (run2 (run2 (rVar 0) (rCon (W.int 2)) QaM) (run2 (run2 (rVar 4) (rCon (W.int 48271)) Qbb) (run2 (rVar 0) (rCon (W.int 2)) Qaz) Qbb) Qas))
 (sSeq (sSet 6 (runM "str" (rCon (W.str "")) (Qaa (QaE false (QaF (run2 (rVar 5) (rCon (W.int 7)) Qaz)) [5, 2] (rCon (.bl true)) (run2 (rVar 2) (run2 (run2 (run2 (rVar 1) (rCon (W.int 7)) QaM) (run2 (rCon (W.int 6)) (rVar 0) Qbb) Qas) (rCon (W.int 25)) Qaz) Qae)) Qac) QcD))
 (sSeq (sSet 7 (run2 (run2 (rVar 5) (rCon (W.int 175)) QaM) (run2 (runN (Qaa (rVar 6) Qac) Qdj) (rCon (W.int 1)) Qas) Qaz))
 (sSeq (Qcp (runM "list" (rVar 3) (Qaa (run2 (run2 (run2 (QaV false (rVar 6) (rVar 7)) (rCon (W.str "z")) Qas) (run2 (rVar 2) (rVar 4) Qae) Qas) (QbP false (rVar 6) (rVar 7)) Qas) Qac) Qat))
 Qaq)))))
 (sSeq (sRet (rVar 3))
 Qaq))))
noncomputable def Qbn : OpN := Qbd 2 8 1 Qdh
abbrev Qcb : Stmt := top 7
def Qhm : List Str := ["_law_names_here", "_law_n", "_law_k"]
def Qhk : List Str := ["_law_names_here", "_law_n"]
def M_l_part : List (Nat × Nat) := []
noncomputable def QbH : RunS :=
 (sSeq (sSet 2 (run2 (run2 (rVar 1) (rCon (W.int 8)) QaM) (runN (Qaa (rVar 0) Qac) Qdj) Qaz))
 (sSeq (sIf (run2 (run2 (rVar 1) (rCon (W.int 8)) Qaz) (rCon (W.int 7)) opEq)
  (sSeq (sRet (run2 (runN (Qaa (runN (Qaa (rCon (W.str "less")) (Qaa (rCon (W.int 3)) (Qaa (rCon (W.int 2)) Qac))) Qap) (Qaa (runN (Qaa (rCon (W.str "same")) (Qaa (rCon (W.str "a")) (Qaa (rCon (W.int 1)) Qac))) Qap) (Qaa (runN (Qaa (rCon (W.str "plus")) (Qaa (rCon (W.int 1)) (Qaa (rCon (W.int 2)) (Qaa (rCon (W.str "W")) Qac)))) Qap) Qac))) (opL false)) (run2 (run2 (rVar 1) (rCon (W.int 8)) QaM) (rCon (W.int 3)) Qaz) Qae))
 Qaq)
  Qaq)
 (sSeq (sIf (run2 (run2 (rVar 1) (rCon (W.int 8)) Qaz) (rCon (W.int 4)) opGt)
  (sSeq (sRet (runN (Qaa (rCon (W.str "not")) (Qaa (run2 (runN (Qaa (run2 (rVar 0) (rVar 2) Qae) Qac) Qap) (QaV false (runN (Qaa (rCon (W.str "a")) (Qaa (rCon (W.int 7)) Qac)) Qap) (run2 (rVar 2) (rCon (W.int 3)) Qaz)) Qas) Qac)) Qap))
 Qaq)
  Qaq)
 (sSeq (sRet (runN (Qaa (rCon (W.str "has")) (Qaa (run2 (runN (Qaa (run2 (rVar 0) (rVar 2) Qae) Qac) Qap) (QaV false (runN (Qaa (rCon (W.str "X")) (Qaa (rCon (W.str "Yo")) Qac)) Qap) (run2 (rVar 2) (rCon (W.int 3)) Qaz)) Qas) Qac)) Qap))
 Qaq))))
noncomputable def Qbm : OpN := Qbd 2 3 0 QbH
abbrev Qdf : Stmt := top 10
def Qko : List Str := ["_law_rules_here", "_law_pairs", "_law_strict", "_law_rule_here", "_law_part_here"]
def Qkn : List Str := ["_law_rules_here"]
def M_l_due : List (Nat × Nat) := [(47, 17), (48, 18)]
noncomputable def QfL : RunS :=
 (sSeq (sSet 1 (runN Qac (opL true)))
 (sSeq (sSet 2 (runN Qac (opL true)))
 (sSeq (sFor 3 (QaB (rVar 0)) (sSeq (sFor 4 (QaB (run2 (rVar 3) (run1 (rCon (W.int 1)) Qce) Qae)) (sSeq (sIf (run2 (run2 (rVar 4) (rCon (W.int 0)) Qae) (runN (Qaa (rCon (W.str "has")) (Qaa (rCon (W.str "not")) Qac)) Qap) opIn)
  (sSeq (Qcp (runM "list" (rVar 1) (Qaa (runN (Qaa (run2 (run2 (rVar 3) (rCon (W.int 1)) Qae) (rCon (W.int 0)) Qae) (Qaa (run2 (run2 (rVar 4) (rCon (W.int 1)) Qae) (rCon (W.int 0)) Qae) Qac)) Qap) Qac) Qat))
 (sSeq (sIf (Qbu (run2 (run2 (rVar 4) (rCon (W.int 0)) Qae) (rCon (W.str "not")) opEq) (run2 (run2 (rVar 3) (rCon (W.int 0)) Qae) (rCon (W.str "gather")) opEq))
  (sSeq (Qcp (runM "list" (rVar 2) (Qaa (run2 (rVar 1) (run1 (rCon (W.int 1)) Qce) Qae) Qac) Qat))
 Qaq)
  Qaq)
 Qaq))
  Qaq)
 Qaq))
 Qaq))
 (sSeq (sRet (QaE false (QaB (run1 (rVar 1) (QbA false))) [2] (rCon (.bl true)) (runN (Qaa (run2 (rVar 0) (rCon (W.int 0)) Qae) (Qaa (run2 (rVar 0) (rCon (W.int 1)) Qae) (Qaa (run2 (rVar 0) (rVar 1) opIn) Qac))) Qap)))
 Qaq))))
noncomputable def QcR : OpN := Qbd 1 5 1 QfL
noncomputable def gl1 : List (Str × GV) := ("_law_due", .fn 1 QcR) :: ("_law_part", .fn 2 Qbm) :: ("_law_names", .fn 2 Qbn) :: ("_law_of", .fn 2 QaL) :: ("is_strict", .fn 2 QaI) :: gl0
abbrev Qbk : Stmt := top 3
def QdY : List Str := ["rules", "strict", "rule", "part", "names"]
def QdX : List Str := ["rules"]
def QhW : List (Nat × Nat) := [(6, 13), (12, 11)]
noncomputable def Qcr : RunS :=
 (sSeq (sSet 1 QgJ)
 (sSeq (sFor 2 (QaB (rVar 0)) (sSeq (sFor 3 (QaB (run2 (rVar 2) (run1 (rCon (W.int 1)) Qce) Qae)) (sSeq (sIf (run1 (run2 (rVar 3) (rCon (W.int 0)) Qae) (QdF Qao))
  (sSeq (sSet 4 (runN (Qaa (run2 (run2 (rVar 2) (rCon (W.int 1)) Qae) (rCon (W.int 0)) Qae) (Qaa (run2 (run2 (rVar 3) (rCon (W.int 1)) Qae) (rCon (W.int 0)) Qae) Qac)) Qap))
 (sSeq (Qcc (rVar 1) (rVar 4) (Qbu (runM "dict" (rVar 1) (Qaa (rVar 4) (Qaa (rCon (W.bl false)) Qac)) Qen) (runN (Qaa (rVar 2) (Qaa (rVar 3) Qac)) (Qav QaI))))
 Qaq))
  Qaq)
 Qaq))
 Qaq))
 (sSeq (sRet (QaE true (QaB (runN (Qaa (rVar 1) Qac) (Qcs false))) [1] (rCon (.bl true)) (run2 (rVar 0) (runN (Qaa (run2 (rVar 1) (rVar 0) Qae) Qac) Qap) Qas)))
 Qaq)))
noncomputable def QaQ : OpN := Qbd 1 5 2 Qcr
abbrev Qca : Stmt := top 8
def Qhl : List Str := ["_law_names_here", "_law_n", "_law_body", "_law_k", "_law_head", "_law_pattern"]
def Qhj : List Str := ["_law_names_here", "_law_n"]
def M_l_rule : List (Nat × Nat) := [(34, 16)]
noncomputable def Qcd : RunS :=
 (sSeq (sSet 1 (run2 (run2 (rVar 1) (rCon (W.int 48271)) Qbb) (rCon (W.int 2147483647)) Qaz))
 (sSeq (sSet 2 (runN Qac (opL true)))
 (sSeq (sFor 3 (QaF (run2 (rCon (W.int 1)) (run2 (run2 (rVar 1) (rCon (W.int 7)) QaM) (rCon (W.int 3)) Qaz) Qas)) (sSeq (Qcp (runM "list" (rVar 2) (Qaa (runN (Qaa (rVar 0) (Qaa (run2 (rVar 1) (run2 (rCon (W.int 21)) (run2 (rCon (W.int 40)) (rVar 3) Qbb) Qas) QaM) Qac)) (Qav Qbm)) Qac) Qat))
 Qaq))
 (sSeq (sSet 4 (run2 (run2 (rVar 1) (rCon (W.int 1009)) QaM) (runN (Qaa (rVar 0) Qac) Qdj) Qaz))
 (sSeq (sIf (run2 (run2 (rVar 1) (rCon (W.int 5)) Qaz) (rCon (W.int 0)) opEq)
  (sSeq (sSet 5 (run2 (runN (Qaa (run2 (rVar 0) (rVar 4) Qae) Qac) Qap) (QaV false (runN (Qaa (rCon (W.str "N")) (Qaa (rCon (W.int 5)) Qac)) Qap) (run2 (rVar 4) (rCon (W.int 3)) Qaz)) Qas))
 (sSeq (sRet (runN (Qaa (rCon (W.str "gather")) (Qaa (rVar 5) (Qaa (rCon (W.str "count")) (Qaa (rCon (W.str "N")) (Qaa (rCon (W.str "")) (Qaa (runN Qac Qap) (Qaa (runN (Qaa (rVar 2) Qac) QbR) Qac))))))) Qap))
 Qaq))
  Qaq)
 (sSeq (sRet (runN (Qaa (rCon (W.str "rule")) (Qaa (run2 (runN (Qaa (run2 (rVar 0) (rVar 4) Qae) Qac) Qap) (QaV false (runN (Qaa (rCon (W.str "b")) (Qaa (run1 (rCon (W.int 5)) Qce) Qac)) Qap) (run2 (rVar 4) (rCon (W.int 3)) Qaz)) Qas) (Qaa (runN (Qaa (rVar 2) Qac) QbR) Qac))) Qap))
 Qaq))))))
noncomputable def Qba : OpN := Qbd 2 6 1 Qcd
noncomputable def gl2 : List (Str × GV) := ("_law_rule", .fn 2 Qba) :: ("leans_of", .fn 1 QaQ) :: gl1
abbrev Qbx : Stmt := top 9
def QfE : List Str := ["_law_script", "_law_names_here", "_law_many"]
def QfC : List Str := ["_law_script"]
def Qkp : List (Nat × Nat) := []
noncomputable def Qdg : RunS :=
 (sSeq (sSet 1 (runN (Qaa (runN (Qaa (rVar 0) (Qaa (rCon (W.int 1)) Qac)) (Qav QaL)) (Qaa (run2 (rCon (W.int 1)) (run2 (run2 (runN (Qaa (rVar 0) (Qaa (rCon (W.int 0)) Qac)) (Qav QaL)) (rCon (W.int 9)) QaM) (rCon (W.int 6)) Qaz) Qas) Qac)) (Qav Qbn)))
 (sSeq (sSet 2 (run2 (runN (Qaa (rVar 0) (Qaa (rCon (W.int 0)) Qac)) (Qav QaL)) (rCon (W.int 9)) Qaz))
 (sSeq (sRet (QaE false (QaF (rVar 2)) [1, 0] (rCon (.bl true)) (runN (Qaa (rVar 1) (Qaa (runN (Qaa (rVar 2) (Qaa (run2 (rCon (W.int 2)) (rVar 0) Qas) Qac)) (Qav QaL)) Qac)) (Qav Qba))))
 Qaq)))
noncomputable def QbI : OpN := Qbd 1 3 0 Qdg
noncomputable def gl3 : List (Str × GV) := ("_law_rules", .fn 1 QbI) :: gl2
abbrev Qhv : Stmt := top 11
def N_law : List Str := ["_law_script", "_law_rules_here", "_law_handed", "_law_due_here", "_law_found", "_law_one"]
def P_law : List Str := ["_law_script"]
def M_law : List (Nat × Nat) := [(63, 20)]
noncomputable def r_law : RunS :=
 (sSeq (sSet 1 (runN (Qaa (rVar 0) Qac) (Qav QbI)))
 (sSeq (sSet 2 (runN (Qaa (rVar 1) Qac) (QeW false)))
 (sSeq (sSet 3 (runN (Qaa (rVar 1) Qac) (Qav QcR)))
 (sSeq (sSet 4 (runN (Qaa (rVar 2) Qac) (Qav QaQ)))
 (sSeq (sIf (Qbu (Qbz (runN (Qaa (rVar 4) (Qaa (rCon (.ty "list")) Qac)) Qdk)) (Qbu (run2 (rVar 4) (rVar 3) opNe) (run2 (rVar 2) (rVar 1) opNe)))
  (sSeq (sRet (rCon (W.bl false)))
 Qaq)
  Qaq)
 (sSeq (Qhw 5 (rVar 4) (sSeq (sIf (Qbu (Qbz (runN (Qaa (rVar 5) (Qaa (rCon (.ty "tuple")) Qac)) Qdk)) (Qbz (runN (Qaa (run2 (rVar 5) (rCon (W.int 2)) Qae) (Qaa (rCon (.ty "bool")) Qac)) Qdk)))
  (sSeq (sRet (rCon (W.bl false)))
 Qaq)
  Qaq)
 Qaq))
 (sSeq (Qcp (runM "list" (rVar 4) (Qaa (runN (Qaa (rCon (W.str "a")) (Qaa (rCon (W.str "b")) (Qaa (rCon (W.bl true)) Qac))) Qap) Qac) Qat))
 (sSeq (sRet (run2 (runN (Qaa (rVar 2) Qac) (Qav QaQ)) (rVar 3) opEq))
 Qaq))))))))
noncomputable def op_law : OpN := Qbd 1 6 0 r_law
end DL.My
namespace DL.My
open PySem L2
theorem QeP : QaP QdD QdC (Qag QaZ) = true := by decide +kernel
theorem Qfo : Qbt 60 ⟨QdD, Qag QaZ, gl0, Qgu, true, false⟩ (Qay QaZ) = some QbQ := by kernel_rfl
theorem QfI : QaP QdY QdX (Qag Qbk) = true := by decide +kernel
theorem Qgo : Qbt 60 ⟨QdY, Qag Qbk, gl1, QhW, true, false⟩ (Qay Qbk) = some Qcr := by kernel_rfl
theorem sc_l_of : QaP N_l_of P_l_of (Qag QeQ) = true := by decide +kernel
theorem de_l_of : Qbt 60 ⟨N_l_of, Qag QeQ, gl0, M_l_of, true, false⟩ (Qay QeQ) = some Qix := by kernel_rfl
theorem Qhu : QaP QfF QfD (Qag Qby) = true := by decide +kernel
theorem QhS : Qbt 60 ⟨QfF, Qag Qby, gl0, Qkq, true, false⟩ (Qay Qby) = some Qdh := by kernel_rfl
theorem Qiq : QaP Qhm Qhk (Qag Qcb) = true := by decide +kernel
theorem QjS : Qbt 60 ⟨Qhm, Qag Qcb, gl0, M_l_part, true, false⟩ (Qay Qcb) = some QbH := by kernel_rfl
theorem Qip : QaP Qhl Qhj (Qag Qca) = true := by decide +kernel
theorem QjR : Qbt 60 ⟨Qhl, Qag Qca, gl1, M_l_rule, true, false⟩ (Qay Qca) = some Qcd := by kernel_rfl
theorem Qht : QaP QfE QfC (Qag Qbx) = true := by decide +kernel
theorem QhR : Qbt 60 ⟨QfE, Qag Qbx, gl2, Qkp, true, false⟩ (Qay Qbx) = some Qdg := by kernel_rfl
theorem sc_l_due : QaP Qko Qkn (Qag Qdf) = true := by decide +kernel
theorem de_l_due : Qbt 60 ⟨Qko, Qag Qdf, gl0, M_l_due, true, false⟩ (Qay Qdf) = some QfL := by kernel_rfl
theorem sc_law : QaP N_law P_law (Qag Qhv) = true := by decide +kernel
theorem de_law : Qbt 60 ⟨N_law, Qag Qhv, gl3, M_law, true, false⟩ (Qay Qhv) = some r_law := by kernel_rfl
end DL.My
namespace DL.My
open PySem L2
structure Tx (P : Program) (w : World) (K : PySem.W.Frag) (mg : Str->Option Value) : Prop where
 k_PATTERN_PARTS : KDs P w K mg "PATTERN_PARTS" [] Qao
 b_bool : mg "bool" = none
 b_isinstance : mg "isinstance" = none
 b_len : mg "len" = none
 b_list : mg "list" = none
 b_range : mg "range" = none
 b_set : mg "set" = none
 b_sorted : mg "sorted" = none
 b_tuple : mg "tuple" = none
 d_is_strict : DefAt K mg "is_strict" QaZ QdC
 d_leans_of : DefAt K mg "leans_of" Qbk QdX
 d_l_of : DefAt K mg "_law_of" QeQ P_l_of
 d_l_names : DefAt K mg "_law_names" Qby QfD
 d_l_part : DefAt K mg "_law_part" Qcb Qhk
 d_l_rule : DefAt K mg "_law_rule" Qca Qhj
 d_l_rules : DefAt K mg "_law_rules" Qbx QfC
 d_l_due : DefAt K mg "_law_due" Qdf Qkn
 d_law : DefAt K mg "law" Qhv P_law
section
variable {P : Program} {w : World} {K : PySem.W.Frag} {mg : Str->Option Value} {base : Heap}
theorem tx0 (t : Tx P w K mg) : TX P w K mg base gl0 0 := by
 exact (TX.dcon1 (TX.blt1 (TX.blt1 (TX.blt1 (TX.blt1 (TX.blt1 (TX.blt1 (TX.blt1 (TX.blt1 TX.nil t.b_tuple) t.b_sorted) t.b_set) t.b_range) t.b_list) t.b_len) t.b_isinstance) t.b_bool) t.k_PATTERN_PARTS)
theorem tx1 (t : Tx P w K mg) : TX P w K mg base gl1 3 := by
 have T0 : TX P w K mg base gl0 0 := tx0 t
 have T : TX P w K mg base gl0 0 := T0.mono (by decide)
 exact (TX.cons (TX.cons (TX.cons (TX.cons (TX.cons (T.mono (by decide)) (TX.fnOf (fz := 0) T t.d_is_strict QeP Qfo)) (TX.fnOf (fz := 0) T t.d_l_of sc_l_of de_l_of)) (TX.fnOf (fz := 1) T t.d_l_names Qhu QhS)) (TX.fnOf (fz := 0) T t.d_l_part Qiq QjS)) (TX.fnOf (fz := 1) T t.d_l_due sc_l_due de_l_due))
theorem tx2 (t : Tx P w K mg) : TX P w K mg base gl2 6 := by
 have T0 : TX P w K mg base gl1 3 := tx1 t
 have T : TX P w K mg base gl1 3 := T0.mono (by decide)
 exact (TX.cons (TX.cons (T.mono (by decide)) (TX.fnOf (fz := 2) T t.d_leans_of QfI Qgo)) (TX.fnOf (fz := 1) T t.d_l_rule Qip QjR))
theorem tx3 (t : Tx P w K mg) : TX P w K mg base gl3 9 := by
 have T0 : TX P w K mg base gl2 6 := tx2 t
 have T : TX P w K mg base gl2 6 := T0.mono (by decide)
 exact (TX.cons (T.mono (by decide)) (TX.fnOf (fz := 0) T t.d_l_rules Qht QhR))
theorem law_ok (t : Tx P w K mg) {f : Addr} {fd : FuncData} (F : Fun K "law" "law" Qhv f fd) : FnOk P w K mg base CX0 12 f fd P_law (SpD K 1 op_law) :=
 def_ok (fz := 0) (tx3 t : TX P w K mg base gl3 9) F sc_law de_law
end
theorem all_mk {l : PySem.W.OpenLaw} {w : World} {K : PySem.W.Frag} {h : Heap} {mg : Str->Option Value} {fa : Addr} (X : K.In h) (G : h.Ns mainGlobals mg) (hfa : mg "law" = some (.ref fa))
  {a_PATTERN_PARTS : Addr} {o_PATTERN_PARTS : Option Addr} {s_lPATTERN_PARTS : Array (Option Value)}
  {t0_PATTERN_PARTS t1_PATTERN_PARTS : Tok} {n_PATTERN_PARTS : Nat}
  (k1_PATTERN_PARTS : PySem.W.nsIn K mainGlobals "PATTERN_PARTS" = some (some (.ref a_PATTERN_PARTS)))
  (k2_PATTERN_PARTS : K.lookup a_PATTERN_PARTS = some ⟨.type "tuple", o_PATTERN_PARTS, .seq (List.toArray [Value.str "has" t0_PATTERN_PARTS, Value.str "not" t1_PATTERN_PARTS]) n_PATTERN_PARTS, s_lPATTERN_PARTS⟩)
  (b_bool : PySem.W.nsIn K mainGlobals "bool" = some none)
  (b_isinstance : PySem.W.nsIn K mainGlobals "isinstance" = some none)
  (b_len : PySem.W.nsIn K mainGlobals "len" = some none)
  (b_list : PySem.W.nsIn K mainGlobals "list" = some none)
  (b_range : PySem.W.nsIn K mainGlobals "range" = some none)
  (b_set : PySem.W.nsIn K mainGlobals "set" = some none)
  (b_sorted : PySem.W.nsIn K mainGlobals "sorted" = some none)
  (b_tuple : PySem.W.nsIn K mainGlobals "tuple" = some none)
  (d_is_strict : DIn K "is_strict" QaZ)
  (d_leans_of : DIn K "leans_of" Qbk)
  (d_l_of : DIn K "_law_of" QeQ)
  (d_l_names : DIn K "_law_names" Qby)
  (d_l_part : DIn K "_law_part" Qcb)
  (d_l_rule : DIn K "_law_rule" Qca)
  (d_l_rules : DIn K "_law_rules" Qbx)
  (d_l_due : DIn K "_law_due" Qdf)
  (d_law : DIn K "law" Qhv)
  : ∃ fd : FuncData, (∀ (s : Shared) (v : Value), BindsTo s fd ⟨[v], []⟩ [("_law_script", v)])/\∀ base : Heap, K.In base->base.Ns mainGlobals mg->FnOk l.prog w K mg base CX0 12 fa fd ["_law_script"] (SpD K 1 op_law) := by
 have kk_PATTERN_PARTS : KDs l.prog w K mg "PATTERN_PARTS" [] Qao := kds_txts (PySem.W.mg_of X G k1_PATTERN_PARTS) k2_PATTERN_PARTS (by show 2<=sizeLine; decide) (.cons ⟨_, rfl⟩ (.cons ⟨_, rfl⟩ (.nil)))
 have t : Tx l.prog w K mg := ⟨kk_PATTERN_PARTS, PySem.W.mg_none_of X G b_bool, PySem.W.mg_none_of X G b_isinstance, PySem.W.mg_none_of X G b_len, PySem.W.mg_none_of X G b_list, PySem.W.mg_none_of X G b_range, PySem.W.mg_none_of X G b_set, PySem.W.mg_none_of X G b_sorted, PySem.W.mg_none_of X G b_tuple, (d_is_strict.at_ X G fun _ _ _ _ _ _ us hl => match us, hl with | [_, _], _ => rfl), (d_leans_of.at_ X G fun _ _ _ _ _ _ us hl => match us, hl with | [_], _ => rfl), (d_l_of.at_ X G fun _ _ _ _ _ _ us hl => match us, hl with | [_, _], _ => rfl), (d_l_names.at_ X G fun _ _ _ _ _ _ us hl => match us, hl with | [_, _], _ => rfl), (d_l_part.at_ X G fun _ _ _ _ _ _ us hl => match us, hl with | [_, _], _ => rfl), (d_l_rule.at_ X G fun _ _ _ _ _ _ us hl => match us, hl with | [_, _], _ => rfl), (d_l_rules.at_ X G fun _ _ _ _ _ _ us hl => match us, hl with | [_], _ => rfl), (d_l_due.at_ X G fun _ _ _ _ _ _ us hl => match us, hl with | [_], _ => rfl), (d_law.at_ X G fun _ _ _ _ _ _ us hl => match us, hl with | [_], _ => rfl)⟩
 exact d_law.law X G hfa (fun _ _ _ _ _ _ s v => .of_eq rfl) fun fd F base _ _ => law_ok t F
end DL.My
namespace DL.My
open PySem L2
theorem QcB {r : Run} {Γ : Ga} {st : S} {w : W} (h : r Γ st = .ok w st) : sSeq (sRet r) Qaq Γ st = .ok (.rt w) st := by
 rw [Qai, ev_ret, h]; rfl
theorem Qcz {re : Run} {Γc : Ga} {st : S} (f : W->W) : ∀ (items acc : List W), (∀ x ∈ items, re (some x :: Γc) st = .ok (f x) st)->Qbc (rCon (.bl true)) re Γc items acc st = .ok (acc ++ items.map f) st
 | [], acc, _ => by simp [Qbc]
 | x :: xs, acc, h => by
  show ((rCon (.bl true) (some x :: Γc) st).calm.bind fun b st1 => match b with
   | .bl true => (re (some x :: Γc) st1).calm.bind fun y st2 => Qbc (rCon (.bl true)) re Γc xs (acc ++ [y]) st2
   | .bl false => Qbc (rCon (.bl true)) re Γc xs acc st1
   | _ => .stuck) = _
  show ((re (some x :: Γc) st).calm.bind fun y st2 => Qbc (rCon (.bl true)) re Γc xs (acc ++ [y]) st2) = _
  rw [h x Qkv, QjI, Qab, Qcz f xs (acc ++ [f x]) fun y hy => h y (QkA _ hy)]
  simp
theorem comp_map {src : Src} {cap : List Nat} {re : Run} {Γ : Ga} {st : S} {items : List W} (f : W->W) (hs : src Γ st = .ok items st) (hl : items.length < sizeLine) (h : ∀ x ∈ items, re (some x :: capG cap Γ) st = .ok (f x) st) :
  QaE false src cap (rCon (.bl true)) re Γ st = .ok (.lst (items.map f)) st := by
 unfold QaE
 rw [hs, Qab, if_pos hl, Qcz f items [] h, Qab, List.nil_append]
 exact Qds _ (by rw [Qkz]; exact Nat.le_of_lt hl)
theorem Qfr {re : Run} {Γc : Ga} {st : S} (P : W->Prop) : ∀ (items acc : List W), (∀ x ∈ items, ∃ y, P y/\re (some x :: Γc) st = .ok y st)->∃ ys : List W, ys.length = items.length/\(∀ y ∈ ys, P y)/\Qbc (rCon (.bl true)) re Γc items acc st = .ok (acc ++ ys) st
 | [], acc, _ => ⟨[], rfl, (fun y h => by cases h), by simp [Qbc]⟩
 | x :: xs, acc, h => by
  obtain ⟨y, hy, e⟩ := h x Qkv
  obtain ⟨ys, h1, h2, h3⟩ := Qfr P xs (acc ++ [y]) fun z hz => h z (QkA _ hz)
  refine ⟨y :: ys, by rw [QkH, QkH, h1], fun z hz => ?_, ?_⟩
  ·rcases List.mem_cons.mp hz with rfl | hz
   ·exact hy
   ·exact h2 z hz
  ·show ((re (some x :: Γc) st).calm.bind fun y st2 => Qbc (rCon (.bl true)) re Γc xs (acc ++ [y]) st2) = _
   rw [e, QjI, Qab, h3]
   simp
theorem Qka {src : Src} {cap : List Nat} {re : Run} {Γ : Ga} {st : S} {items : List W} (P : W->Prop) (hs : src Γ st = .ok items st) (hl : items.length<=1000) (h : ∀ x ∈ items, ∃ y, P y/\re (some x :: capG cap Γ) st = .ok y st) :
  ∃ ys : List W, ys.length = items.length/\(∀ y ∈ ys, P y)/\QaE false src cap (rCon (.bl true)) re Γ st = .ok (.lst ys) st := by
 obtain ⟨ys, h1, h2, h3⟩ := Qfr P items [] h
 refine ⟨ys, h1, h2, ?_⟩
 unfold QaE
 rw [hs, Qab, if_pos (QkN hl (by decide)), h3, Qab, List.nil_append]
 exact Qds _ (by rw [h1]; exact Qaw hl)
theorem QjZ {src : Src} {cap : List Nat} {re : Run} {Γ : Ga} {st : S} {items : List W} (f : W->W) (hs : src Γ st = .ok items st) (hl : items.length < sizeLine) (h : ∀ x ∈ items, re (some x :: capG cap Γ) st = .ok (f x) st) :
  QaE true src cap (rCon (.bl true)) re Γ st = .ok (.ref st.nxt) (st.new (.lst (items.map f))) := by
 unfold QaE
 rw [hs, Qab, if_pos hl, Qcz f items [] h, Qab, List.nil_append]
 exact if_pos (by rw [Qkz]; exact Nat.le_of_lt hl)
theorem QfU (st : S) (a b : MO) : (st.new a).put st.nxt b = st.new b := by
 unfold S.put S.new
 congr 1
 funext m
 by_cases h : m = st.nxt <;> simp [h]
theorem QbO (st : S) (a : MO) : (st.new a).mu st.nxt = some a := if_pos rfl
theorem QbS (st : S) (a : MO) : ∀ n, n < st.nxt->(st.new a).mu n = st.mu n := fun n h => if_neg (QkF h)
theorem QdP {n : Nat} {w : W} (h : w ∈ QaH 0 n) : ∃ k : Nat, k < n/\w = .int k := by
 unfold QaH at h
 obtain ⟨i, hi, rfl⟩ := List.mem_map.mp h
 exact ⟨i, List.mem_range.mp hi, by rw [Int.zero_add]⟩
theorem QbL (n : Nat) : (QaH 0 n).length = n := by unfold QaH; rw [Qkz, List.length_range]
theorem Qia (zs : List Str) : QcH (zs.map W.str) = some zs := by
 induction zs with
 | nil => rfl
 | cons z zs ih => show (QcH (zs.map W.str)).map (z :: ·) = _; rw [ih]; rfl
theorem mod_lt (i : Int) (k : Int) (h : 0 < k) : 0<=i % k/\i % k < k := ⟨Int.emod_nonneg i (by omega), Int.emod_lt_of_pos i h⟩
theorem cp_mk (cs : List Nat) : cp ⟨cs.toArray⟩ = cs := by unfold cp; simp
theorem len_mk (cs : List Nat) : (⟨cs.toArray⟩ : Str).length = cs.length := by rw [<-Qfp, cp_mk]
theorem QgT {i : Nat} {body : RunS} (P : Nat->Ga->S->Prop) {Γ : Ga} {s : S} (n : Nat) (h : P 0 Γ s) (st : ∀ k Γ s, k < n->P k Γ s->∃ Γ' s', body (Γ.set i (some (.int k))) s = .ok (.nx Γ') s'/\P (k + 1) Γ' s') :
  ∃ Γ' s', Qbe i body (QaH 0 n) Γ s = .ok (.nx Γ') s'/\P n Γ' s' := by
 have go : ∀ (m k : Nat) (Γ : Ga) (s : S), k + m = n->P k Γ s->∃ Γ' s', Qbe i body ((List.range' k m).map fun (j : Nat) => W.int j) Γ s = .ok (.nx Γ') s'/\P n Γ' s' := by
  intro m
  induction m with
  | zero => intro k Γ s e p; rw [show k = n by omega] at p; exact ⟨Γ, s, rfl, p⟩
  | succ m ih =>
   intro k Γ s e p
   obtain ⟨Γ1, s1, e1, p1⟩ := st k Γ s (by omega) p
   obtain ⟨Γ2, s2, e2, p2⟩ := ih (k + 1) Γ1 s1 (by omega) p1
   refine ⟨Γ2, s2, ?_, p2⟩
   rw [List.range'_succ, List.map_cons]
   show ((body (Γ.set i (some (.int k))) s).bind fun fl st' => match fl with
    | .nx Γ' => Qbe i body ((List.range' (k + 1) m).map fun (j : Nat) => W.int j) Γ' st'
    | .ct Γ' => Qbe i body ((List.range' (k + 1) m).map fun (j : Nat) => W.int j) Γ' st'
    | .bk Γ' => .ok (.nx Γ') st'
    | .rt w => .ok (.rt w) st') = _
   rw [e1]; exact e2
 have e : QaH 0 n = (List.range' 0 n).map fun (j : Nat) => W.int j := by
  unfold QaH
  rw [List.range_eq_range']
  apply List.map_congr_left
  intro j _
  rw [Int.zero_add]
 rw [e]
 exact go n 0 Γ s (by omega) h
theorem hasK_iff (k : DKey) (ks : List DKey) : hasK k ks = true ↔ k ∈ ks := by
 induction ks with
 | nil => simp [hasK]
 | cons j ks ih => simp [hasK]; exact ⟨fun h => h.imp Eq.symm id, fun h => h.imp Eq.symm id⟩
theorem putW_new {ks : List DKey} {vs : List W} {k : DKey} {v : W} (h : k ∉ ks) : putW ks vs k v = (ks ++ [k], vs ++ [v]) := by
 unfold putW
 rw [if_neg (fun z => h ((hasK_iff k ks).mp z))]
theorem QcZ : ∀ {ks : List DKey} {vs : List W} {k : DKey}, ks.length = vs.length->(valW ks vs k = none ↔ k ∉ ks)
 | [], [], _, _ => by simp [valW]
 | j :: ks, v :: vs, k, h => by
  have ih := QcZ (k := k) (show ks.length = vs.length by simpa using h)
  by_cases e : j = k
  ·subst e; simp [valW]
  ·have : valW (j :: ks) (v :: vs) k = valW ks vs k := if_neg e
   rw [this, ih, List.mem_cons]
   exact ⟨fun h z => z.elim (fun q => e q.symm) h, fun h z => h (.inr z)⟩
theorem Qgx : ∀ {ks : List DKey} {vs : List W} {k : DKey} {v : W} (j : DKey), ks.length = vs.length->k ∉ ks->valW (ks ++ [k]) (vs ++ [v]) j = if j = k then some v else valW ks vs j
 | [], [], k, v, j, _, _ => by
  show (if k = j then some v else valW [] [] j) = _
  by_cases e : j = k
  ·rw [if_pos e, if_pos e.symm]
  ·rw [if_neg e, if_neg (fun h => e h.symm)]
 | i :: ks, w :: vs, k, v, j, h, hk => by
  have ih := Qgx (v := v) j (show ks.length = vs.length by simpa using h) (fun h => hk (QkA _ h))
  show (if i = j then some w else valW (ks ++ [k]) (vs ++ [v]) j) = if j = k then some v else (if i = j then some w else valW ks vs j)
  rw [ih]
  by_cases e : i = j
  ·rw [if_pos e, if_pos e, if_neg (fun h => hk (by rw [<-h, <-e]; exact Qkv))]
  ·rw [if_neg e, if_neg e]
theorem QeS (k : DKey) (v : W) : ∀ (ks : List DKey) (vs : List W), ks.length = vs.length->(QcJ k v ks vs).length = vs.length
 | [], [], _ => rfl
 | _ :: ks, _ :: vs, h => by
  show (QcJ k v ks vs).length + 1 = vs.length + 1
  rw [QeS k v ks vs (by simpa using h)]
theorem QeF (k : DKey) (v : W) (j : DKey) : ∀ (ks : List DKey) (vs : List W), ks.length = vs.length->k ∈ ks->valW ks (QcJ k v ks vs) j = if j = k then some v else valW ks vs j
 | [], _, _, h => by cases h
 | i :: ks, w :: vs, hl, h => by
  have hl' : ks.length = vs.length := by simpa using hl
  show (if i = j then some (if i = k then v else w) else valW ks (QcJ k v ks vs) j) = if j = k then some v else (if i = j then some w else valW ks vs j)
  by_cases e : i = j
  ·rw [if_pos e, if_pos e]
   by_cases e2 : i = k
   ·rw [if_pos e2, if_pos (e.symm.trans e2)]
   ·rw [if_neg e2, if_neg (fun q => e2 (e.trans q))]
  ·rw [if_neg e, if_neg e]
   by_cases hk : k ∈ ks
   ·exact QeF k v j ks vs hl' hk
   ·have ei : i = k := ((List.mem_cons.mp h).resolve_right hk).symm
    have e3 : ¬ j = k := fun q => e (ei.trans q.symm)
    have e4 : ∀ (ks : List DKey) (vs : List W), k ∉ ks->ks.length = vs.length->QcJ k v ks vs = vs := by
     intro ks
     induction ks with
     | nil => intro vs _ hl; cases vs with | nil => rfl | cons _ _ => simp at hl
     | cons a ks ih =>
      intro vs hn hl
      cases vs with
      | nil => simp at hl
      | cons b vs =>
       show (if a = k then v else b) :: QcJ k v ks vs = b :: vs
       rw [if_neg (fun q => hn (by rw [q]; exact Qkv)), ih vs (fun q => hn (QkA _ q)) (by simpa using hl)]
    rw [if_neg e3, e4 ks vs hk hl']
section
variable {op : OpN} {Γ : Ga} {st s' : S} {a b c d : Run} {x y z u w' : W}
theorem Qhg (ha : a Γ st = .ok x st) (h : op [x] st = .ok w' s') : runN (Qaa a Qac) (Qav op) Γ st = .ok w' s' := by
 rw [Qbs, Qan, ha, Qab, Qbp, Qab, Qab, Qfk, h]; rfl
theorem Qdz (ha : a Γ st = .ok x st) (hb : b Γ st = .ok y st) (h : op [x, y] st = .ok w' s') : runN (Qaa a (Qaa b Qac)) (Qav op) Γ st = .ok w' s' := by
 rw [Qbs, Qan, ha, Qab, Qan, hb, Qab, Qbp, Qab, Qab, Qab, Qfk, h]; rfl
theorem QgG (h : a Γ st = .ok x s') : sSeq (sRet a) Qaq Γ st = .ok (.rt x) s' := by
 rw [Qai, ev_ret, h]; rfl
end
theorem ev_setIx (ro ri rv : Run) (Γ : Ga) (st : S) : Qcc ro ri rv Γ st = (rv Γ st).bind fun v st1 => (ro Γ st1).bind fun o st2 => (ri Γ st2).bind fun i st3 => (Qbh o i v st3).bind fun _ st4 => .ok (.nx Γ) st4 := Eq.trans rfl rfl
end DL.My
namespace DL.My
open PySem L2
inductive Dat : Nat->W->Prop
 | bl (n : Nat) (b : Bool) : Dat n (.bl b)
 | int (n : Nat) (i : Int) : Dat n (.int i)
 | str (n : Nat) (x : Str) : Dat n (.str x)
 | tup {n : Nat} {xs : List W} : (∀ x ∈ xs, Dat n x)->Dat (n + 1) (.tup xs)
 | lst {n : Nat} {xs : List W} : (∀ x ∈ xs, Dat n x)->Dat (n + 1) (.lst xs)
theorem Qcw {f : W->Option W} : ∀ {ws : List W}, (∀ w ∈ ws, f w = some w)->frzs f ws = some ws
 | [], _ => rfl
 | w :: ws, h => by
  show (match f w, frzs f ws with | some y, some ys => some (y :: ys) | _, _ => none) = _
  rw [h w Qkv, Qcw fun x hx => h x (QkA _ hx)]
theorem Dat.frz {n : Nat} {w : W} (h : Dat n w) (N : Nat) (mu : Nat->Option MO) : ∀ m, n < m->DL.frz N mu m w = some w := by
 induction h with
 | bl n b => intro m hm; cases m with | zero => omega | succ m => rfl
 | int n i => intro m hm; cases m with | zero => omega | succ m => rfl
 | str n x => intro m hm; cases m with | zero => omega | succ m => rfl
 | @tup n xs _ ih =>
  intro m hm
  cases m with
  | zero => omega
  | succ m =>
   show (frzs (DL.frz N mu m) xs).map W.tup = _
   rw [Qcw fun x hx => ih x hx m (by omega)]; rfl
 | @lst n xs _ ih =>
  intro m hm
  cases m with
  | zero => omega
  | succ m =>
   show (frzs (DL.frz N mu m) xs).map W.lst = _
   rw [Qcw fun x hx => ih x hx m (by omega)]; rfl
theorem Qet {f : W->W->Option Bool} : ∀ {ws : List W}, (∀ w ∈ ws, f w w = some true)->Qak f ws ws = some true
 | [], _ => by unfold Qak; rfl
 | w :: ws, h => by
  unfold Qak
  rw [h w Qkv, Qet fun x hx => h x (QkA _ hx)]; rfl
theorem Dat.eq {n : Nat} {w : W} (h : Dat n w) : ∀ m, n < m->eqD m w w = some true := by
 induction h with
 | bl n b =>
  intro m hm
  cases m with
  | zero => omega
  | succ m => show some (b == b) = _; simp
 | int n i =>
  intro m hm
  cases m with
  | zero => omega
  | succ m => show some (i == i) = _; simp
 | str n x =>
  intro m hm
  cases m with
  | zero => omega
  | succ m => show some (x == x) = _; simp
 | @tup n xs _ ih =>
  intro m hm
  cases m with
  | zero => omega
  | succ m =>
   show (Qak (eqD m) xs xs).map (fun r => r && xs.length == xs.length) = _
   rw [Qet fun x hx => ih x hx m (by omega)]; simp
 | @lst n xs _ ih =>
  intro m hm
  cases m with
  | zero => omega
  | succ m =>
   show (if xs.length = xs.length then Qak (eqD m) xs xs else some false) = _
   rw [if_pos rfl, Qet fun x hx => ih x hx m (by omega)]
theorem Dat.mono {n : Nat} {w : W} (h : Dat n w) : ∀ m, n<=m->Dat m w := by
 induction h with
 | bl n b => intro m _; exact .bl m b
 | int n i => intro m _; exact .int m i
 | str n x => intro m _; exact .str m x
 | tup _ ih =>
  intro m hm
  cases m with
  | zero => omega
  | succ m => exact .tup fun x hx => ih x hx m (by omega)
 | lst _ ih =>
  intro m hm
  cases m with
  | zero => omega
  | succ m => exact .lst fun x hx => ih x hx m (by omega)
theorem keep_ref {st s' : S} {n k : Nat} {xs : List W} (ho : ∀ m, m < st.nxt->s'.mu m = st.mu m) (hn : st.nxt<=n) (hm : s'.mu n = some (.lst xs)) (h : ∀ x ∈ xs, Dat k x) (hk : k<=9) : keep st s' (.ref n) = .ok (.lst xs) st := by
 refine Qeq ho ?_
 show (if n < st.nxt then some (W.ref n) else (match s'.mu n with
   | some (.lst ys) => (frzs (frz st.nxt s'.mu 11) ys).map W.lst
   | some (.dct ks ys) => (frzs (frz st.nxt s'.mu 11) ys).map (W.dct ks)
   | none => none)) = _
 rw [if_neg (by omega), hm]
 show (frzs (frz st.nxt s'.mu 11) xs).map W.lst = _
 rw [Qcw fun x hx => (h x hx).frz _ _ 11 (by omega)]; rfl
theorem QgW {st s' : S} {w : W} {k : Nat} (ho : ∀ m, m < st.nxt->s'.mu m = st.mu m) (h : Dat k w) (hk : k<=10) : keep st s' w = .ok w st := Qeq ho (h.frz _ _ 12 (by omega))
theorem keep_new {st : S} {k : Nat} {xs : List W} (h : ∀ x ∈ xs, Dat k x) (hk : k<=9) : keep st (st.new (.lst xs)) (.ref st.nxt) = .ok (.lst xs) st := keep_ref (QbS st _) (Qky _) (QbO st _) h hk
section
variable {Γ : Ga} {s st : S}
theorem QcA {xs : List W} {ro re : Run} {w : W} (ho : ro Γ (st.new (.lst xs)) = .ok (.ref st.nxt) (st.new (.lst xs))) (he : re Γ (st.new (.lst xs)) = .ok w (st.new (.lst xs))) (hl : xs.length<=1000) :
  runM "list" ro (Qaa re Qac) Qat Γ (st.new (.lst xs)) = .ok .non (st.new (.lst (xs ++ [w]))) := by
 have hk : Qch (st.new (.lst xs)) (.ref st.nxt) = some "list" := by
  show MO.kind ((st.new (.lst xs)).mu st.nxt) = _
  rw [QbO]; rfl
 unfold runM
 rw [ho, Qab, if_pos hk, Qan, he, Qab, Qbp, Qab, Qab]
 show (match (st.new (.lst xs)).mu st.nxt with
  | some (.lst xs) => if xs.length < sizeLine then R.ok W.non ((st.new (.lst _)).put st.nxt (.lst (xs ++ [w]))) else .stuck
  | _ => .stuck) = _
 rw [QbO]
 show (if xs.length < sizeLine then _ else _) = _
 rw [if_pos (QkN hl (by decide)), QfU]
theorem QeR {a : Run} {op : OpN} {x : W} (ha : a Γ s = .ok x s) : runN (Qaa a Qac) op Γ s = op [x] s := by
 rw [Qbs, Qan, ha, Qab, Qbp, Qab, Qab]
theorem Qec {r : Run} {xs : List W} (h : r Γ s = .ok (.lst xs) s) : QaB r Γ s = .ok xs s := by
 unfold QaB; rw [h]; rfl
theorem src_tup {r : Run} {xs : List W} (h : r Γ s = .ok (.tup xs) s) : QaB r Γ s = .ok xs s := by
 unfold QaB; rw [h]; rfl
end
theorem QaJ (i : Nat) (body : RunS) (x : W) (xs : List W) (Γ Γ' : Ga) (s s' : S) (h : body (Γ.set i (some x)) s = .ok (.nx Γ') s') : Qbe i body (x :: xs) Γ s = Qbe i body xs Γ' s' := by
 show ((body (Γ.set i (some x)) s).bind fun fl st' => match fl with
  | .nx Γ' => Qbe i body xs Γ' st'
  | .ct Γ' => Qbe i body xs Γ' st'
  | .bk Γ' => .ok (.nx Γ') st'
  | .rt w => .ok (.rt w) st') = _
 rw [h]; rfl
section
variable {Γ : Ga} {s : S} {a b : Run} {i j : Int}
theorem Qgg (ha : a Γ s = .ok (.int i) s) (hb : b Γ s = .ok (.int j) s) : run2 a b Qas Γ s = .ok (.int (i + j)) s := by rw [Qah, ha, Qab, hb, Qab, QjJ]
theorem i_mulL (ha : a Γ s = .ok (.int i) s) (hb : b Γ s = .ok (.int j) s) (h0 : -1000000<=i) (h1 : i<=1000000) : run2 a b Qbb Γ s = .ok (.int (i * j)) s := by rw [Qah, ha, Qab, hb, Qab, ev_mulL _ _ h0 h1]
theorem Qjw (ha : a Γ s = .ok (.int i) s) (hb : b Γ s = .ok (.int j) s) (h0 : -1000000<=j) (h1 : j<=1000000) : run2 a b Qbb Γ s = .ok (.int (i * j)) s := by rw [Qah, ha, Qab, hb, Qab, ev_mulR _ _ h0 h1]
theorem QhO (ha : a Γ s = .ok (.int i) s) (h0 : 0 < j) (h1 : j < 1073741824) : run2 a (rCon (W.int j)) QaM Γ s = .ok (.int (i / j)) s := by rw [Qah, ha, Qab, Qad, Qab, QjH _ _ h0 h1]
theorem Qcj (ha : a Γ s = .ok (.int i) s) (hb : b Γ s = .ok (.int j) s) (h0 : 0 < j) : run2 a b Qaz Γ s = .ok (.int (i % j)) s := by rw [Qah, ha, Qab, hb, Qab, ev_modI _ _ h0]
theorem i_dm {c d : Int} (ha : a Γ s = .ok (.int i) s) (h0 : 0 < c) (h1 : c < 1073741824) (h2 : 0 < d) : run2 (run2 a (rCon (W.int c)) QaM) (rCon (W.int d)) Qaz Γ s = .ok (.int (i / c % d)) s := Qcj (QhO ha h0 h1) (Qad _) h2
theorem list1 {x : W} (ha : a Γ s = .ok x s) : runN (Qaa a Qac) (opL false) Γ s = .ok (.lst [x]) s := (QeR ha).trans (Qds [x] (show 1<=sizeLine by decide))
theorem l_add {xs ys : List W} (ha : a Γ s = .ok (.lst xs) s) (hb : b Γ s = .ok (.lst ys) s) (h : xs.length + ys.length<=1000) : run2 a b Qas Γ s = .ok (.lst (xs ++ ys)) s := by
 rw [Qah, ha, Qab, hb, Qab]
 exact if_pos (Qaw h)
theorem rng1 {n : Int} (ha : a Γ s = .ok (.int n) s) (h0 : -1000<=n) (h1 : n<=1000) : QaF a Γ s = .ok (QaH 0 n.toNat) s := ev_rng1 _ _ ha (by omega) (by omega)
end
theorem Qgq (ns : List Int) (k : Nat) (st : S) (hn : ns.length<=63) : QaL [.lst (ns.map W.int), .int (k : Nat)] st = .ok (.int (ns.getD k 0)) st := by
 unfold QaL
 rw [Qfj]
 unfold Qix
 have e1 : Qcq false (rVar 0) (rVar 1) (run2 (rVar 1) (rCon (W.int 1)) Qas) (some (.lst (ns.map W.int)) :: some (.int k) :: List.replicate (2 - 2) none) st = .ok (.lst (((ns.drop k).take 1).map W.int)) st := by
  unfold Qcq
  rw [Qbi, Qab, QaU, Qab]
  show ((run2 (rVar 1) (rCon (W.int 1)) Qas _ st).bind _) = _
  rw [Qah, QaU, Qab, Qad, Qab, QjJ, Qab]
  show opSl false (some (k : Int)) (some ((k : Int) + 1)) (.lst (ns.map W.int)) st = _
  have ec : cutW (ns.map W.int) (some (k : Int)) (some ((k : Int) + 1)) = ((ns.drop k).take 1).map W.int := by
   unfold cutW
   rw [show ((k : Int) + 1) = ((k + 1 : Nat) : Int) by omega, HT.sIx_nat, HT.sIx_nat, Qkz, <-List.map_drop, <-List.map_take]
   congr 1
   by_cases h : k < ns.length
   ·rw [Nat.min_eq_left (Nat.le_of_lt h), Nat.min_eq_left h, show k + 1 - k = 1 by omega]
   ·rw [List.drop_of_length_le (by omega), List.drop_of_length_le (by omega)]; simp
  show Qem (cutW (ns.map W.int) (some (k : Int)) (some ((k : Int) + 1))) st = _
  rw [ec]
  exact if_pos (by rw [Qkz, List.length_take]; exact Qaw (by omega))
 have e2 : run2 (run2 (Qcq false (rVar 0) (rVar 1) (run2 (rVar 1) (rCon (W.int 1)) Qas)) (runN (Qaa (rCon (W.int 0)) Qac) (opL false)) Qas) (rCon (W.int 0)) Qae (some (.lst (ns.map W.int)) :: some (.int k) :: List.replicate (2 - 2) none) st = .ok (.int (ns.getD k 0)) st := by
  rw [Qah, l_add e1 (list1 (Qad _)) (by rw [Qkz, List.length_take, QkJ]; omega), Qab, Qad, Qab]
  refine Qgj _ 0 _ (Qhh _ 0 _ ?_)
  by_cases h : k < ns.length
  ·rw [QkM h, List.take_succ_cons, List.take_zero, List.map_cons, List.cons_append, List.getElem?_cons_zero, QkD, Qks h]; rfl
  ·rw [List.drop_of_length_le (by omega), QkD, List.getElem?_eq_none (show ns.length<=k by omega)]; rfl
 rw [QcB e2]; rfl
def OneC (w : W) : Prop := ∃ c : Nat, w = .str ⟨#[c]⟩
theorem QdR : ∀ (ys : List W), (∀ y ∈ ys, OneC y)->∃ cs : List Nat, ys = cs.map (fun c => W.str ⟨#[c]⟩)
 | [], _ => ⟨[], rfl⟩
 | y :: ys, h => by
  obtain ⟨c, rfl⟩ := h y Qkv
  obtain ⟨cs, h1⟩ := QdR ys fun z hz => h z (QkA _ hz)
  exact ⟨c :: cs, by rw [h1]; rfl⟩
theorem sum_ones (cs : List Nat) : (((cs.map fun c => (⟨#[c]⟩ : Str)).map (·.length)).sum) = cs.length := by
 induction cs with
 | nil => rfl
 | cons c cs ih => rw [List.map_cons, List.map_cons, List.sum_cons, ih, QkH]; show 1 + _ = _; omega
theorem Qfi : ∀ cs : List Nat, (cs.map fun c => [c]).flatten = cs
 | [] => rfl
 | c :: cs => by rw [List.map_cons, List.flatten_cons, Qfi cs]; rfl
theorem Qfd (cs : List Nat) (st : S) (h : cs.length<=1000) : QcD (.str "") [.lst (cs.map fun c => W.str ⟨#[c]⟩)] st = .ok (.str ⟨cs.toArray⟩) st := by
 have e1 : QcH (cs.map fun c => W.str ⟨#[c]⟩) = some (cs.map fun c => (⟨#[c]⟩ : Str)) := by
  have := Qia (cs.map fun c => (⟨#[c]⟩ : Str))
  rw [List.map_map] at this
  exact this
 have e2 : Txt.join "" (cs.map fun c => (⟨#[c]⟩ : Str)) = ⟨cs.toArray⟩ := by
  apply cp_ext
  rw [cp_join0, List.map_map]
  show ((cs.map fun c => [c])).flatten = cs.toArray.toList
  rw [List.toList_toArray]
  exact Qfi cs
 show (match QcH (cs.map fun c => W.str ⟨#[c]⟩) with
  | some (ys : List Str) => if (("" : Str).length<=16/\(ys.map (fun (y : Str) => y.length)).sum + ys.length<=1048576) then R.ok (W.str (Txt.join "" ys)) st else .stuck
  | none => .stuck) = _
 rw [e1]
 show (if (("" : Str).length<=16/\((cs.map fun c => (⟨#[c]⟩ : Str)).map (·.length)).sum + (cs.map fun c => (⟨#[c]⟩ : Str)).length<=1048576) then R.ok (W.str (Txt.join "" (cs.map fun c => (⟨#[c]⟩ : Str)))) st else .stuck) = _
 rw [if_pos ⟨by decide, by rw [sum_ones, Qkz]; omega⟩, e2]
theorem one_at {z : Str} (hz : z.length<=1000) {i : Int} (h0 : 0<=i) (h1 : i < (z.length : Nat)) (st : S) : ∃ c : Nat, Qae (.str z) (.int i) st = .ok (.str ⟨#[c]⟩) st := by
 obtain ⟨c, hc, _⟩ := at_in z.cps.toList i h0 (by rw [show z.cps.toList.length = z.length from Qfp z]; exact h1)
 exact ⟨c, ev_idxS z i c (Qaw hz) hc⟩
section
variable {Γ : Ga} {st : S} {a b : Run} {x y : Str} {k : Int}
theorem QbX (ha : a Γ st = .ok (.str x) st) (hb : b Γ st = .ok (.str y) st) (hl : x.length + y.length<=1000) : run2 a b Qas Γ st = .ok (.str (x ++ y)) st := by
 rw [Qah, ha, Qab, hb, Qab]
 exact ev_addS x y (Qaw hl)
theorem Qik (ha : a Γ st = .ok (.str x) st) (hb : b Γ st = .ok (.int k) st) (hl : x.length<=1000) : QaV false a b Γ st = .ok (.str (Txt.slice x none (some k))) st := by
 rw [QjC, ha, Qab, hb, Qab]
 exact if_pos (Qaw hl)
theorem Qij (ha : a Γ st = .ok (.str x) st) (hb : b Γ st = .ok (.int k) st) (hl : x.length<=1000) : QbP false a b Γ st = .ok (.str (Txt.slice x (some k) none)) st := by
 rw [ev_slSN, ha, Qab, hb, Qab]
 exact if_pos (Qaw hl)
end
theorem QfY (x y : Str) : (x ++ y).length = x.length + y.length := by rw [<-Qfp, QjX, QkB, Qfp, Qfp]
end DL.My
namespace DL.My
open PySem L2
inductive PrtOk : W->Prop
 | has (nm : Str) (r : List W) : PrtOk (.tup [.str "has", .tup (.str nm :: r)])
 | not (nm : Str) (r : List W) : PrtOk (.tup [.str "not", .tup (.str nm :: r)])
 | oth (k : Str) (r : List W) : (k == ("has" : Str)) = false->(k == ("not" : Str)) = false->PrtOk (.tup (.str k :: r))
def pk : W->Option (Str × Bool)
 | .tup [.str k, .tup (.str nm :: _)] => if (k == ("has" : Str)) = true then some (nm, false) else if (k == ("not" : Str)) = true then some (nm, true) else none
 | _ => none
theorem pk_has (nm : Str) (r : List W) : pk (.tup [.str "has", .tup (.str nm :: r)]) = some (nm, false) := by
 show (if (("has" : Str) == ("has" : Str)) = true then some (nm, false) else if (("has" : Str) == ("not" : Str)) = true then some (nm, true) else none) = _
 rw [if_pos (by decide +kernel)]
theorem pk_not (nm : Str) (r : List W) : pk (.tup [.str "not", .tup (.str nm :: r)]) = some (nm, true) := by
 show (if (("not" : Str) == ("has" : Str)) = true then some (nm, false) else if (("not" : Str) == ("not" : Str)) = true then some (nm, true) else none) = _
 rw [if_neg (by decide +kernel), if_pos (by decide +kernel)]
theorem pk_oth {k : Str} (r : List W) (h1 : (k == ("has" : Str)) = false) (h2 : (k == ("not" : Str)) = false) : pk (.tup (.str k :: r)) = none := by
 unfold pk
 split
 ·rename_i e
  have e' := W.tup.inj e
  injection e' with e1 e2
  injection e1 with e3
  subst e3
  rw [h1, if_neg Qkr, h2, if_neg Qkr]
 ·rfl
inductive Rl : W->Str->Bool->List W->Prop
 | rule (h : Str) (r ps : List W) : Rl (.tup [.str "rule", .tup (.str h :: r), .tup ps]) h false ps
 | gath (h : Str) (r ps : List W) : Rl (.tup [.str "gather", .tup (.str h :: r), .str "count", .str "N", .str "", .tup [], .tup ps]) h true ps
def key2 (h n : Str) : DKey := [.inr h, .inr n]
def occ (h : Str) (g : Bool) (ps : List W) : List (DKey × Bool) := ps.filterMap fun p => (pk p).map fun q => (key2 h q.1, g || q.2)
inductive Rs : List W->List (DKey × Bool)->Prop
 | nil : Rs [] []
 | cons {w : W} {h : Str} {g : Bool} {ps ws : List W} {os : List (DKey × Bool)} : Rl w h g ps->(∀ p ∈ ps, PrtOk p)->ps.length<=3->Rs ws os->Rs (w :: ws) (occ h g ps ++ os)
theorem QgN {h : Str} {g : Bool} {p : W} {ps : List W} (e : pk p = none) : occ h g (p :: ps) = occ h g ps := by
 unfold occ; rw [List.filterMap_cons, e]; rfl
theorem QcT {h : Str} {g : Bool} {p : W} {ps : List W} {q : Str × Bool} (e : pk p = some q) : occ h g (p :: ps) = (key2 h q.1, g || q.2) :: occ h g ps := by
 unfold occ; rw [List.filterMap_cons, e]; rfl
theorem QfS (h : Str) (g : Bool) (ps : List W) : (occ h g ps).length<=ps.length := List.length_filterMap_le _ _
theorem occ_pr {h : Str} {g : Bool} {ps : List W} : ∀ o ∈ occ h g ps, isPr o.1 = true := fun o ho => by
 obtain ⟨p, _, e⟩ := List.mem_filterMap.mp ho
 cases ep : pk p with
 | none => rw [ep] at e; cases e
 | some q => rw [ep] at e; cases e; rfl
theorem Rs.pr {ws : List W} {os : List (DKey × Bool)} (h : Rs ws os) : ∀ o ∈ os, isPr o.1 = true := by
 induction h with
 | nil => intro o ho; cases ho
 | cons _ _ _ _ ih =>
  intro o ho
  rcases List.mem_append.mp ho with ho | ho
  ·exact occ_pr o ho
  ·exact ih o ho
theorem Rs.len {ws : List W} {os : List (DKey × Bool)} (h : Rs ws os) : os.length<=3 * ws.length := by
 induction h with
 | nil => exact Nat.zero_le _
 | @cons w h g ps ws os _ _ h3 _ ih =>
  have := QfS h g ps
  rw [QkB, QkH]; omega
section
variable {Γ : Ga} {s : S}
theorem rl_last {w : W} {h : Str} {g : Bool} {ps : List W} (hw : Rl w h g ps) : Qae w (.int (-1)) s = .ok (.tup ps) s := by
 cases hw with
 | rule h r ps => exact Qdt _ _ _ rfl
 | gath h r ps => exact Qdt _ _ _ rfl
theorem rl_pat {w : W} {h : Str} {g : Bool} {ps : List W} (hw : Rl w h g ps) : ∃ r, Qae w (.int 1) s = .ok (.tup (.str h :: r)) s := by
 cases hw with
 | rule h r ps => exact ⟨r, Qjv _ _ _⟩
 | gath h r ps => exact ⟨r, Qjv _ _ _⟩
theorem QgF {w : W} {h : Str} {g : Bool} {ps : List W} (hw : Rl w h g ps) : ∃ f, Qae w (.int 0) s = .ok (.str f) s/\(f == ("gather" : Str)) = g := by
 cases hw with
 | rule h r ps => exact ⟨_, QcK _ _, by decide +kernel⟩
 | gath h r ps => exact ⟨_, QcK _ _, by decide +kernel⟩
theorem Qiv {ro : Run} {w : W} {h : Str} {g : Bool} {ps : List W} (hw : Rl w h g ps) (ho : ro Γ s = .ok w s) : run2 (run2 ro (rCon (W.int 1)) Qae) (rCon (W.int 0)) Qae Γ s = .ok (.str h) s := by
 obtain ⟨r, e⟩ := rl_pat (s := s) hw
 rw [Qah, Qah, ho, Qab, Qad, Qab, e, Qab, Qad, Qab, QcK]
theorem QgR {ro : Run} {w : W} {h : Str} {g : Bool} {ps : List W} (hw : Rl w h g ps) (ho : ro Γ s = .ok w s) : run2 ro (run1 (rCon (W.int 1)) Qce) Qae Γ s = .ok (.tup ps) s := by
 rw [Qah, ho, Qab, Qcx, Qad, Qab, Qgi, Qab, rl_last hw]
theorem tup2 {a b : Run} {x y : W} (ha : a Γ s = .ok x s) (hb : b Γ s = .ok y s) : runN (Qaa a (Qaa b Qac)) Qap Γ s = .ok (.tup [x, y]) s := by
 rw [Qbs, Qan, ha, Qab, Qan, hb, Qab, Qbp, Qab, Qab, Qab]; exact QdV [x, y] (show 2<=sizeLine by decide)
theorem tup1 {a : Run} {x : W} (ha : a Γ s = .ok x s) : runN (Qaa a Qac) Qap Γ s = .ok (.tup [x]) s := (QeR ha).trans (QdV [x] (show 1<=sizeLine by decide))
theorem tup3 {a b c : Run} {x y z : W} (ha : a Γ s = .ok x s) (hb : b Γ s = .ok y s) (hc : c Γ s = .ok z s) : runN (Qaa a (Qaa b (Qaa c Qac))) Qap Γ s = .ok (.tup [x, y, z]) s := by
 rw [Qbs, Qan, ha, Qab, Qan, hb, Qab, Qan, hc, Qab, Qbp, Qab, Qab, Qab, Qab]; exact QdV [x, y, z] (show 3<=sizeLine by decide)
end
def vb (d : List DKey × List W) (k : DKey) : Bool := match valW d.1 d.2 k with
 | some (.bl b) => b
 | _ => false
def dstep (d : List DKey × List W) (o : DKey × Bool) : List DKey × List W := putW d.1 d.2 o.1 (.bl (vb d o.1 || o.2))
structure DOk (os : List (DKey × Bool)) (d : List DKey × List W) : Prop where
 ks : d.1 = dedK (os.map (·.1))
 ln : d.1.length = d.2.length
 vs : ∀ k, k ∈ d.1->valW d.1 d.2 k = some (.bl (os.any fun o => decide (o.1 = k) && o.2))
theorem Qfn : ∀ (a b acc : List DKey), Qdx (a ++ b) acc = Qdx b (Qdx a acc)
 | [], b, acc => rfl
 | x :: a, b, acc => Qfn a b _
theorem Qfm (ks : List DKey) (k : DKey) : dedK (ks ++ [k]) = if hasK k (dedK ks) = true then dedK ks else dedK ks ++ [k] := by
 unfold dedK; rw [Qfn]; rfl
theorem DOk.vb {os : List (DKey × Bool)} {d : List DKey × List W} (h : DOk os d) (k : DKey) : vb d k = os.any fun o => decide (o.1 = k) && o.2 := by
 unfold My.vb
 by_cases q : k ∈ d.1
 ·rw [h.vs k q]
 ·have e : valW d.1 d.2 k = none := (QcZ h.ln).mpr q
  rw [e]
  have nk : k ∉ os.map (·.1) := fun z => q (by rw [h.ks]; exact ((Qez _).2 k).mpr z)
  symm
  rw [List.any_eq_false]
  intro o ho z
  rw [QkK] at z
  exact nk (List.mem_map.mpr ⟨o, ho, of_decide_eq_true z.1⟩)
theorem DOk.step {os : List (DKey × Bool)} {d : List DKey × List W} (h : DOk os d) (o : DKey × Bool) : DOk (os ++ [o]) (dstep d o) := by
 have hv := h.vb o.1
 unfold dstep
 have ha : ∀ k, ((os ++ [o]).any fun o => decide (o.1 = k) && o.2) = ((os.any fun o => decide (o.1 = k) && o.2) || (decide (o.1 = k) && o.2)) := fun k => by rw [List.any_append, List.any_cons, List.any_nil, Bool.or_false]
 by_cases q : o.1 ∈ d.1
 ·have hk : hasK o.1 d.1 = true := (hasK_iff _ _).mpr q
  have ep : putW d.1 d.2 o.1 (.bl (My.vb d o.1 || o.2)) = (d.1, QcJ o.1 (.bl (My.vb d o.1 || o.2)) d.1 d.2) := by unfold putW; rw [if_pos hk]
  rw [ep]
  refine ⟨?_, ?_, fun k hk' => ?_⟩
  ·show d.1 = _
   rw [List.map_append, List.map_cons, List.map_nil, Qfm, <-h.ks, if_pos hk]
  ·show d.1.length = (QcJ _ _ d.1 d.2).length
   rw [QeS _ _ _ _ h.ln]; exact h.ln
  ·show valW d.1 (QcJ o.1 (.bl (My.vb d o.1 || o.2)) d.1 d.2) k = _
   rw [QeF _ _ _ _ _ h.ln q, ha]
   by_cases e : k = o.1
   ·subst e
    rw [if_pos rfl, hv, decide_eq_true rfl, Bool.true_and]
   ·rw [if_neg e, h.vs k hk', decide_eq_false (fun z => e z.symm), Bool.false_and, Bool.or_false]
 ·have hk : ¬ hasK o.1 d.1 = true := fun z => q ((hasK_iff _ _).mp z)
  rw [putW_new q]
  refine ⟨?_, ?_, fun k hk' => ?_⟩
  ·show d.1 ++ [o.1] = _
   rw [List.map_append, List.map_cons, List.map_nil, Qfm, <-h.ks, if_neg hk]
  ·show (d.1 ++ [o.1]).length = (d.2 ++ [_]).length
   rw [QkB, QkB, h.ln]; rfl
  ·show valW (d.1 ++ [o.1]) (d.2 ++ [.bl (My.vb d o.1 || o.2)]) k = _
   rw [Qgx _ h.ln q, ha]
   by_cases e : k = o.1
   ·subst e
    rw [if_pos rfl, hv, decide_eq_true rfl, Bool.true_and]
   ·rw [if_neg e, decide_eq_false (fun z => e z.symm), Bool.false_and, Bool.or_false]
    exact h.vs k ((List.mem_append.mp hk').elim id fun z => absurd (List.mem_singleton.mp z) e)
theorem DOk.fold {d : List DKey × List W} : ∀ (os pre : List (DKey × Bool)) {d : List DKey × List W}, DOk pre d->DOk (pre ++ os) (os.foldl dstep d)
 | [], pre, d, h => by rw [List.append_nil]; exact h
 | o :: os, pre, d, h => by
  have := DOk.fold (d := d) os (pre ++ [o]) (h.step o)
  rw [List.append_assoc] at this
  exact this
theorem DOk.nil : DOk [] ([], []) := ⟨rfl, rfl, fun k hk => by cases hk⟩
theorem DOk.len {os : List (DKey × Bool)} {d : List DKey × List W} (h : DOk os d) : d.1.length<=os.length := by
 rw [h.ks]
 have : ∀ (ks acc : List DKey), (Qdx ks acc).length<=acc.length + ks.length := by
  intro ks
  induction ks with
  | nil => intro acc; exact Qky _
  | cons k ks ih =>
   intro acc
   show (Qdx ks (if hasK k acc = true then acc else acc ++ [k])).length<=_
   have := ih (if hasK k acc = true then acc else acc ++ [k])
   rw [QkH]
   split at this
   ·rename_i z; rw [if_pos z]; omega
   ·rename_i z; rw [if_neg z]; rw [QkB, QkJ] at this; omega
 have := this (os.map (·.1)) []
 rw [List.length_nil, Qkz, Nat.zero_add] at this
 exact this
def stK (st : S) (d : List DKey × List W) : S := st.new (.dct d.1 d.2)
theorem QeI (st : S) (d : List DKey × List W) : (stK st d).mu st.nxt = some (.dct d.1 d.2) := QbO _ _
theorem Qib {w p : W} {h : Str} {g : Bool} {ps : List W} {k : Str} {r : List W} (hw : Rl w h g ps) (hp : p = .tup (.str k :: r)) (s : S) : QaI [w, p] s = .ok (.bl (g || (k == ("not" : Str)))) s := by
 subst hp
 obtain ⟨f, ef, eg⟩ := QgF (s := s) hw
 unfold QaI
 rw [Qfj]
 unfold QbQ
 have e : Qbu (run2 (run2 (rVar 0) (rCon (W.int 0)) Qae) (rCon (W.str "gather")) opEq) (run2 (run2 (rVar 1) (rCon (W.int 0)) Qae) (rCon (W.str "not")) opEq) (some w :: some (.tup (.str k :: r)) :: List.replicate (2 - 2) none) s = .ok (.bl (g || (k == ("not" : Str)))) s := by
  rw [QhQ, Qah, Qah, Qbi, Qab, Qad, Qab, ef, Qab, Qad, Qab, QgY, Qab, QaK, eg]
  cases g with
  | true => rw [if_pos rfl]; rfl
  | false => rw [if_neg Qkr, Qah, Qah, QaU, Qab, Qad, Qab, QcK, Qab, Qad, Qab, QgY, Bool.false_or]
 rw [QcB e]; rfl
noncomputable def lnP : RunS := (sSeq (sIf (run1 (run2 (rVar 3) (rCon (W.int 0)) Qae) (QdF Qao))
  (sSeq (sSet 4 (runN (Qaa (run2 (run2 (rVar 2) (rCon (W.int 1)) Qae) (rCon (W.int 0)) Qae) (Qaa (run2 (run2 (rVar 3) (rCon (W.int 1)) Qae) (rCon (W.int 0)) Qae) Qac)) Qap))
 (sSeq (Qcc (rVar 1) (rVar 4) (Qbu (runM "dict" (rVar 1) (Qaa (rVar 4) (Qaa (rCon (W.bl false)) Qac)) Qen) (runN (Qaa (rVar 2) (Qaa (rVar 3) Qac)) (Qav QaI))))
 Qaq))
  Qaq)
 Qaq)
theorem inT_ok (k : Str) (s : S) : QdF Qao (.str k) s = .ok (.bl ((("has" : Str) == k) || (("not" : Str) == k))) s := by
 unfold QdF
 have e : inD (.str k) Qao = some ((("has" : Str) == k) || (("not" : Str) == k)) := by
  show (match some (("has" : Str) == k), (match some (("not" : Str) == k), some false with | some a, some b => some (a || b) | _, _ => none) with | some a, some b => some (a || b) | _, _ => none) = _
  show some ((("has" : Str) == k) || ((("not" : Str) == k) || false)) = _
  rw [Bool.or_false]
 rw [e]
theorem ln_go {st : S} {a w p : W} {h k nm : Str} {g : Bool} {ps r : List W} {os : List (DKey × Bool)} {d : List DKey × List W} (x4 : Option W) (hw : Rl w h g ps) (hp : p = .tup [.str k, .tup (.str nm :: r)]) (hk : ((("has" : Str) == k) || (("not" : Str) == k)) = true) (hd : DOk os d) (hl : os.length<=900) :
  lnP [some a, some (.ref st.nxt), some w, some p, x4] (stK st d) = .ok (.nx [some a, some (.ref st.nxt), some w, some p, some (.tup [.str h, .str nm])]) (stK st (dstep d (key2 h nm, g || (k == ("not" : Str))))) := by
 have ld := hd.len
 have kd : Qch (stK st d) (.ref st.nxt) = some "dict" := by
  show MO.kind ((stK st d).mu st.nxt) = _
  rw [QeI]; rfl
 have eg : runM "dict" (rVar 1) (Qaa (rVar 4) (Qaa (rCon (W.bl false)) Qac)) Qen [some a, some (.ref st.nxt), some w, some p, some (.tup [.str h, .str nm])] (stK st d) = .ok (.bl (vb d (key2 h nm))) (stK st d) := by
  unfold runM
  rw [QaU, Qab, if_pos kd, Qan, Qcl, Qab, Qan, Qad, Qab, Qbp, Qab, Qab, Qab]
  unfold Qen
  rw [show QbW (stK st d) (.ref st.nxt) = some (d.1, d.2) from by show (match (stK st d).mu st.nxt with | some (.dct ks ws) => some (ks, ws) | _ => none) = _; rw [QeI]]
  show R.ok ((valW d.1 d.2 (key2 h nm)).getD (.bl false)) _ = _
  unfold vb
  by_cases q : key2 h nm ∈ d.1
  ·rw [hd.vs _ q]; rfl
  ·rw [(QcZ hd.ln).mpr q]; rfl
 have eo : Qbu (runM "dict" (rVar 1) (Qaa (rVar 4) (Qaa (rCon (W.bl false)) Qac)) Qen) (runN (Qaa (rVar 2) (Qaa (rVar 3) Qac)) (Qav QaI)) [some a, some (.ref st.nxt), some w, some p, some (.tup [.str h, .str nm])] (stK st d) = .ok (.bl (vb d (key2 h nm) || (g || (k == ("not" : Str))))) (stK st d) := by
  rw [QhQ, eg, Qab, QaK]
  cases vb d (key2 h nm) with
  | true => rw [if_pos rfl]; rfl
  | false => rw [if_neg Qkr, Qdz (QbV _ _ _) (QcL _ _ _ _) (Qib hw hp _)]; rfl
 have es : Qbh (.ref st.nxt) (.tup [.str h, .str nm]) (.bl (vb d (key2 h nm) || (g || (k == ("not" : Str))))) (stK st d) = .ok () (stK st (dstep d (key2 h nm, g || (k == ("not" : Str))))) := by
  show QgD st.nxt _ _ _ ((stK st d).mu st.nxt) (some (key2 h nm)) = _
  rw [QeI]
  show (if d.1.length < sizeLine then R.ok () ((stK st d).put st.nxt (.dct _ _)) else .stuck) = _
  rw [if_pos (QkN (show d.1.length<=1000 by omega) (by decide))]
  unfold stK
  rw [QfU]; rfl
 have e0 : run1 (run2 (rVar 3) (rCon (W.int 0)) Qae) (QdF Qao) [some a, some (.ref st.nxt), some w, some p, x4] (stK st d) = .ok (.bl true) (stK st d) := by
  rw [Qcx, Qah, QcL, Qab, Qad, Qab, hp, QcK, Qab, inT_ok, hk]
 have e4 : run2 (run2 (rVar 3) (rCon (W.int 1)) Qae) (rCon (W.int 0)) Qae [some a, some (.ref st.nxt), some w, some p, x4] (stK st d) = .ok (.str nm) (stK st d) := by
  rw [Qah, Qah, QcL, Qab, Qad, Qab, hp, Qjv, Qab, Qad, Qab, QcK]
 unfold lnP
 rw [Qai, Qcm, e0, Qab, QaK, if_pos rfl, Qai, QaX, tup2 (Qiv hw (QbV _ _ _)) e4, Qab, ks4, Qab, Qaf, Qai, ev_setIx, eo, Qab, QaU, Qab, Qcl, Qab, es, Qab, Qab, Qaf, Qax, Qab, Qaf, Qax]
theorem QcV {st : S} {a w : W} {h : Str} {g : Bool} {ps0 : List W} (hw : Rl w h g ps0) : ∀ (ps : List W) (os : List (DKey × Bool)) (d : List DKey × List W) (x3 x4 : Option W), (∀ p ∈ ps, PrtOk p)->DOk os d->os.length + ps.length<=900 ->
  ∃ y3 y4, Qbe 3 lnP ps [some a, some (.ref st.nxt), some w, x3, x4] (stK st d) = .ok (.nx [some a, some (.ref st.nxt), some w, y3, y4]) (stK st ((occ h g ps).foldl dstep d))
 | [], os, d, x3, x4, _, _, _ => ⟨x3, x4, rfl⟩
 | p :: ps, os, d, x3, x4, hp, hd, hl => by
  rw [QkH] at hl
  have hp2 := fun q hq => hp q (QkA _ hq)
  cases hp p Qkv with
  | has nm r =>
   have eb := ln_go (st := st) (a := a) x4 hw rfl (k := "has") (nm := nm) (r := r) (by decide +kernel) hd (by omega)
   obtain ⟨y3, y4, e⟩ := QcV hw ps (os ++ [_]) _ (some (.tup [.str "has", .tup (.str nm :: r)])) (some (.tup [.str h, .str nm])) hp2 (hd.step (key2 h nm, g || (("has" : Str) == ("not" : Str)))) (by rw [QkB, QkJ]; omega)
   refine ⟨y3, y4, ?_⟩
   rw [QaJ 3 lnP _ ps [some a, some (.ref st.nxt), some w, x3, x4] _ _ _ eb, QcT (pk_has nm r)]
   have eb2 : (("has" : Str) == ("not" : Str)) = false := by decide +kernel
   rw [eb2] at e ⊢
   exact e
  | not nm r =>
   have eb := ln_go (st := st) (a := a) x4 hw rfl (k := "not") (nm := nm) (r := r) (by decide +kernel) hd (by omega)
   obtain ⟨y3, y4, e⟩ := QcV hw ps (os ++ [_]) _ (some (.tup [.str "not", .tup (.str nm :: r)])) (some (.tup [.str h, .str nm])) hp2 (hd.step (key2 h nm, g || (("not" : Str) == ("not" : Str)))) (by rw [QkB, QkJ]; omega)
   refine ⟨y3, y4, ?_⟩
   rw [QaJ 3 lnP _ ps [some a, some (.ref st.nxt), some w, x3, x4] _ _ _ eb, QcT (pk_not nm r)]
   have eb2 : (("not" : Str) == ("not" : Str)) = true := by decide +kernel
   rw [eb2] at e ⊢
   exact e
  | oth k r h1 h2 =>
   have h1' : (("has" : Str) == k) = false := by rw [beq_eq_false_iff_ne] at h1 ⊢; exact fun z => h1 z.symm
   have h2' : (("not" : Str) == k) = false := by rw [beq_eq_false_iff_ne] at h2 ⊢; exact fun z => h2 z.symm
   have eb : lnP [some a, some (.ref st.nxt), some w, some (.tup (.str k :: r)), x4] (stK st d) = .ok (.nx [some a, some (.ref st.nxt), some w, some (.tup (.str k :: r)), x4]) (stK st d) := by
    unfold lnP
    rw [Qai, Qcm, Qcx, Qah, QcL, Qab, Qad, Qab, QcK, Qab, inT_ok, h1', h2', Qab, QaK, if_neg (by decide), Qax, Qab, Qaf, Qax]
   obtain ⟨y3, y4, e⟩ := QcV hw ps os d (some (.tup (.str k :: r))) x4 hp2 hd (by omega)
   refine ⟨y3, y4, ?_⟩
   rw [QaJ 3 lnP _ ps [some a, some (.ref st.nxt), some w, x3, x4] _ _ _ eb, QgN (pk_oth r h1 h2)]
   exact e
noncomputable def lnR : RunS := (sSeq (sFor 3 (QaB (run2 (rVar 2) (run1 (rCon (W.int 1)) Qce) Qae)) lnP)
 Qaq)
theorem ln_rules {st : S} {a : W} : ∀ {ws : List W} {os : List (DKey × Bool)}, Rs ws os->∀ (pre : List (DKey × Bool)) (d : List DKey × List W) (x2 x3 x4 : Option W), DOk pre d->pre.length + 3 * ws.length<=900 ->
  ∃ y2 y3 y4, Qbe 2 lnR ws [some a, some (.ref st.nxt), x2, x3, x4] (stK st d) = .ok (.nx [some a, some (.ref st.nxt), y2, y3, y4]) (stK st (os.foldl dstep d)) := by
 intro ws os h
 induction h with
 | nil => intro pre d x2 x3 x4 _ _; exact ⟨x2, x3, x4, rfl⟩
 | @cons w h g ps ws os hw hp h3 _ ih =>
  intro pre d x2 x3 x4 hd hl
  rw [QkH] at hl
  obtain ⟨y3, y4, e⟩ := QcV (st := st) (a := a) hw ps pre d x3 x4 hp hd (by omega)
  have lo := QfS h g ps
  obtain ⟨z2, z3, z4, e'⟩ := ih (pre ++ occ h g ps) ((occ h g ps).foldl dstep d) (some w) y3 y4 (DOk.fold (d := d) _ _ hd) (by rw [QkB]; omega)
  refine ⟨z2, z3, z4, ?_⟩
  have eb : lnR [some a, some (.ref st.nxt), some w, x3, x4] (stK st d) = .ok (.nx [some a, some (.ref st.nxt), some w, y3, y4]) (stK st ((occ h g ps).foldl dstep d)) := by
   unfold lnR
   rw [Qai, Qdu, src_tup (QgR hw (QbV _ _ _)), Qab, e, Qab, Qaf, Qax]
  rw [QaJ 2 lnR _ ws [some a, some (.ref st.nxt), x2, x3, x4] _ _ _ eb, List.foldl_append]
  exact e'
end DL.My
namespace DL.My
open PySem L2
def outW (os : List (DKey × Bool)) (k : DKey) : W := .tup (k.map Qfb ++ [.bl (os.any fun o => decide (o.1 = k) && o.2)])
theorem QbE : ∀ k : DKey, keyW (keyT k) = some k := by
 have go : ∀ ks : List Key, Qga (ks.map Qfb) = some ks := by
  intro ks
  induction ks with
  | nil => rfl
  | cons k ks ih =>
   show (match keyW0 (Qfb k), Qga (ks.map Qfb) with | some k, some ks => some (k :: ks) | _, _ => none) = _
   rw [ih]
   cases k <;> rfl
 exact fun k => go k
def fW (os : List (DKey × Bool)) (x : W) : W := match keyW x with
 | some k => outW os k
 | none => x
theorem fW_map (os : List (DKey × Bool)) (ls : List DKey) : (ls.map keyT).map (fW os) = ls.map (outW os) := by
 rw [List.map_map]
 apply List.map_congr_left
 intro k _
 show (match keyW (keyT k) with | some k => outW os k | none => keyT k) = _
 rw [QbE]
theorem QdN {k : DKey} (h : isPr k = true) : ∃ x y, k = key2 x y := Qeu h
theorem QfQ {os : List (DKey × Bool)} {k : DKey} (h : isPr k = true) : Dat 1 (outW os k) := by
 obtain ⟨x, y, rfl⟩ := QdN h
 refine .tup fun z hz => ?_
 have hz : z ∈ [W.str x, W.str y, .bl (os.any fun o => decide (o.1 = key2 x y) && o.2)] := hz
 simp only [List.mem_cons, List.not_mem_nil, or_false] at hz
 rcases hz with rfl | rfl | rfl
 ·exact .str _ _
 ·exact .str _ _
 ·exact .bl _ _
structure Srt (os : List (DKey × Bool)) (ls : List DKey) : Prop where
 eq : QaD .non ((dedK (os.map (·.1))).map keyT) (keyB true ((dedK (os.map (·.1))).map keyT)) = ls.map keyT
 mem : ∀ k ∈ ls, k ∈ dedK (os.map (·.1))/\isPr k = true
 len : ls.length<=os.length
theorem srt_ex {os : List (DKey × Bool)} (h : ∀ o ∈ os, isPr o.1 = true) : ∃ ls, Srt os ls := by
 obtain ⟨nd, mem⟩ := Qez (os.map (·.1))
 have hp : (dedK (os.map (·.1))).all isPr = true := List.all_eq_true.mpr fun k hk => by
  obtain ⟨o, ho, rfl⟩ := List.mem_map.mp ((mem k).mp hk)
  exact h o ho
 obtain ⟨pm, _⟩ := Qdc hp nd
 obtain ⟨ls, p1, e⟩ := Qej keyT pm
 refine ⟨ls, e, fun k hk => ⟨p1.mem_iff.mp hk, List.all_eq_true.mp hp k (p1.mem_iff.mp hk)⟩, ?_⟩
 rw [p1.length_eq]
 have hd : DOk os (os.foldl dstep ([], [])) := by have := DOk.fold (d := ([], [])) os [] DOk.nil; exact this
 have := hd.len
 rw [hd.ks] at this
 exact this
theorem idx_dict {st : S} {d : List DKey × List W} {os : List (DKey × Bool)} {k : DKey} (hd : DOk os d) (hk : k ∈ d.1) : Qae (.ref st.nxt) (keyT k) (stK st d) = .ok (.bl (os.any fun o => decide (o.1 = k) && o.2)) (stK st d) := by
 unfold Qae
 rw [show QbW (stK st d) (.ref st.nxt) = some (d.1, d.2) from by show (match (stK st d).mu st.nxt with | some (.dct ks ws) => some (ks, ws) | _ => none) = _; rw [QeI], QbE]
 show (match valW d.1 d.2 k with | some u => R.ok u (stK st d) | none => .stuck) = _
 rw [hd.vs k hk]
theorem leans_ok {ws : List W} {os : List (DKey × Bool)} {ls : List DKey} (h : Rs ws os) (hl : ws.length<=20) (hs : Srt os ls) (st : S) : QaQ [.lst ws] st = .ok (.ref st.nxt) (st.new (.lst (ls.map (outW os)))) := by
 have lo := h.len
 have ll := hs.len
 obtain ⟨y2, y3, y4, e⟩ := ln_rules (st := st) (a := .lst ws) h [] ([], []) none none none DOk.nil (by rw [List.length_nil]; omega)
 have hd : DOk os (os.foldl dstep ([], [])) := by have := DOk.fold (d := ([], [])) os [] DOk.nil; exact this
 generalize os.foldl dstep ([], []) = d at e hd
 have ld := hd.len
 have rn : ∀ Γ : Ga, QgJ Γ st = .ok (.ref st.nxt) (stK st ([], [])) := fun Γ => rfl
 have sf : sFor 2 (QaB (rVar 0)) lnR [some (.lst ws), some (.ref st.nxt), none, none, none] (stK st ([], [])) = .ok (.nx [some (.lst ws), some (.ref st.nxt), y2, y3, y4]) (stK st d) := by
  rw [Qdu, Qec (Qbi _), Qab, e]
 have pr : (dedK (os.map (·.1))).all isPr = true := List.all_eq_true.mpr fun k hk => by
  obtain ⟨o, ho, rfl⟩ := List.mem_map.mp (((Qez _).2 k).mp hk)
  exact h.pr o ho
 have es : QaB (runN (Qaa (rVar 1) Qac) (Qcs false)) [some (.lst ws), some (.ref st.nxt), y2, y3, y4] (stK st d) = .ok (ls.map keyT) (stK st d) := by
  refine Qec ((QeR (QaU _ _)).trans ?_)
  unfold Qcs
  show (match QbW (stK st d) (.ref st.nxt) with | some (ks, _) => QdL false ks (stK st d) | none => .stuck) = _
  rw [show QbW (stK st d) (.ref st.nxt) = some (d.1, d.2) from by show (match (stK st d).mu st.nxt with | some (.dct ks ws) => some (ks, ws) | _ => none) = _; rw [QeI]]
  show QdL false d.1 (stK st d) = _
  unfold QdL
  rw [if_pos ⟨by omega, by rw [hd.ks]; exact pr_ok pr⟩, hd.ks, hs.eq]
  exact Qds _ (Qaw (by rw [Qkz]; omega))
 have ec := QjZ (cap := [1]) (re := run2 (rVar 0) (runN (Qaa (run2 (rVar 1) (rVar 0) Qae) Qac) Qap) Qas) (fW os) es (by rw [Qkz]; exact QkN (show ls.length<=1000 by omega) (by decide)) (fun x hx => by
  obtain ⟨k, hk, rfl⟩ := List.mem_map.mp hx
  obtain ⟨hk1, hk2⟩ := hs.mem k hk
  rw [<-hd.ks] at hk1
  show run2 (rVar 0) (runN (Qaa (run2 (rVar 1) (rVar 0) Qae) Qac) Qap) Qas [some (keyT k), some (.ref st.nxt)] (stK st d) = .ok (match keyW (keyT k) with | some k => outW os k | none => keyT k) (stK st d)
  rw [QbE]
  rw [Qah, Qbi, Qab, tup1 (show run2 (rVar 1) (rVar 0) Qae [some (keyT k), some (.ref st.nxt)] (stK st d) = _ by rw [Qah, QaU, Qab, Qbi, Qab]; exact idx_dict hd hk1), Qab]
  obtain ⟨x, y, rfl⟩ := QdN hk2
  show (if [W.str x, W.str y] ≠ []/\2 + 1<=sizeLine then R.ok (W.tup ([W.str x, W.str y] ++ [.bl (os.any fun o => decide (o.1 = key2 x y) && o.2)])) (stK st d) else .stuck) = _
  rw [if_pos ⟨by simp, by decide⟩]; rfl)
 rw [fW_map] at ec
 unfold lnR lnP at sf
 unfold QaQ
 rw [QgX]
 unfold Qcr
 rw [show List.replicate (5 - 1) (none : Option W) = [none, none, none, none] from rfl, Qai, QaX, rn, Qab, ks1, Qab, Qaf, Qai, sf, Qab, Qaf, QgG ec, ev_rtL]
 show (if (stK st d).nxt < st.nxt then _ else @ite _ (∀ m, m < st.nxt->((stK st d).new (.lst (ls.map (outW os)))).mu m = st.mu m) (Classical.propDecidable _) (match ((stK st d).new (.lst (ls.map (outW os)))).mu (stK st d).nxt with
  | some o => (match QhP st.nxt (((stK st d).new (.lst (ls.map (outW os)))).less (stK st d).nxt).mu o with
   | some o' => R.ok (W.ref st.nxt) (st.new o')
   | none => .stuck)
  | none => .stuck) .stuck) = _
 have en : (stK st d).nxt = st.nxt + 1 := rfl
 rw [if_neg (by rw [en]; omega), if_pos (fun m hm => (QbS (stK st d) _ m (by rw [en]; omega)).trans (QbS st _ m hm)), QbO]
 show (match (frzs (frz st.nxt (((stK st d).new (.lst (ls.map (outW os)))).less (stK st d).nxt).mu 12) (ls.map (outW os))).map MO.lst with
   | some o' => R.ok (W.ref st.nxt) (st.new o')
   | none => .stuck) = _
 rw [Qcw fun x hx => by
  obtain ⟨k, hk, rfl⟩ := List.mem_map.mp hx
  exact (QfQ (hs.mem k hk).2).frz _ _ 12 (by decide)]
 rfl
end DL.My
namespace DL.My
open PySem L2
theorem at_last {γ : Type} (xs : List γ) (x : γ) : atI (xs ++ [x]) (-1) = some x := by
 unfold atI ixN
 rw [if_neg (by decide), QkB, QkJ, if_pos (by omega)]
 show (xs ++ [x])[((-1 : Int) + ((xs.length + 1 : Nat) : Int)).toNat]? = _
 rw [show ((-1 : Int) + ((xs.length + 1 : Nat) : Int)).toNat = xs.length by omega, List.getElem?_append_right (Qky _), Nat.sub_self]; rfl
theorem idx_last {row : List W} {n : Nat} {p : W} {st : S} (hm : st.mu n = some (.lst (row ++ [p]))) : Qae (.ref n) (.int (-1)) st = .ok p st := by
 have ed : QbW st (.ref n) = none := by
  show (match st.mu n with | some (.dct ks ws) => some (ks, ws) | _ => none) = _
  rw [hm]
 unfold Qae
 rw [ed]
 show (match MO.items (st.mu n) with
   | some ws => (match atI ws (-1) with | some w => R.ok w st | none => .stuck)
   | none => .stuck) = _
 rw [hm]
 show (match atI (row ++ [p]) (-1) with | some w => R.ok w st | none => .stuck) = _
 rw [at_last]
theorem Qkk {Γ : Ga} {s : S} {n : Nat} {xs : List W} {ro re : Run} {w : W} (hm : s.mu n = some (.lst xs)) (ho : ro Γ s = .ok (.ref n) s) (he : re Γ s = .ok w s) (hl : xs.length<=1000) :
  runM "list" ro (Qaa re Qac) Qat Γ s = .ok .non (s.put n (.lst (xs ++ [w]))) := by
 have hk : Qch s (.ref n) = some "list" := by
  show MO.kind (s.mu n) = _
  rw [hm]; rfl
 unfold runM
 rw [ho, Qab, if_pos hk, Qan, he, Qab, Qbp, Qab, Qab]
 show (match s.mu n with
  | some (.lst xs) => if xs.length < sizeLine then R.ok W.non (s.put n (.lst (xs ++ [w]))) else .stuck
  | _ => .stuck) = _
 rw [hm]
 show (if xs.length < sizeLine then _ else _) = _
 rw [if_pos (QkN hl (by decide))]
def st2 (st : S) (ps ss : List W) : S := (st.new (.lst ps)).new (.lst ss)
theorem st2_0 (st : S) (ps ss : List W) : (st2 st ps ss).mu st.nxt = some (.lst ps) := (QbS (st.new (.lst ps)) (.lst ss) st.nxt (Nat.lt_succ_self _)).trans (QbO _ _)
theorem st2_1 (st : S) (ps ss : List W) : (st2 st ps ss).mu (st.nxt + 1) = some (.lst ss) := QbO (st.new (.lst ps)) _
theorem put_0 (st : S) (ps ss ps' : List W) : (st2 st ps ss).put st.nxt (.lst ps') = st2 st ps' ss := by
 unfold st2 S.put S.new
 congr 1
 funext m
 by_cases h : m = st.nxt
 ·subst h
  have : st.nxt ≠ st.nxt + 1 := by omega
  simp [this]
 ·simp [h]
theorem put_1 (st : S) (ps ss ss' : List W) : (st2 st ps ss).put (st.nxt + 1) (.lst ss') = st2 st ps ss' := QfU (st.new (.lst ps)) _ _
def prs (os : List (DKey × Bool)) : List W := os.map fun o => keyT o.1
def sts (os : List (DKey × Bool)) : List W := (os.filter (·.2)).map fun o => keyT o.1
noncomputable def duP : RunS := (sSeq (sIf (run2 (run2 (rVar 4) (rCon (W.int 0)) Qae) (runN (Qaa (rCon (W.str "has")) (Qaa (rCon (W.str "not")) Qac)) Qap) opIn)
  (sSeq (Qcp (runM "list" (rVar 1) (Qaa (runN (Qaa (run2 (run2 (rVar 3) (rCon (W.int 1)) Qae) (rCon (W.int 0)) Qae) (Qaa (run2 (run2 (rVar 4) (rCon (W.int 1)) Qae) (rCon (W.int 0)) Qae) Qac)) Qap) Qac) Qat))
 (sSeq (sIf (Qbu (run2 (run2 (rVar 4) (rCon (W.int 0)) Qae) (rCon (W.str "not")) opEq) (run2 (run2 (rVar 3) (rCon (W.int 0)) Qae) (rCon (W.str "gather")) opEq))
  (sSeq (Qcp (runM "list" (rVar 2) (Qaa (run2 (rVar 1) (run1 (rCon (W.int 1)) Qce) Qae) Qac) Qat))
 Qaq)
  Qaq)
 Qaq))
  Qaq)
 Qaq)
theorem in2 (k : Str) (s : S) : opIn (.str k) (.tup [.str "has", .str "not"]) s = .ok (.bl ((("has" : Str) == k) || (("not" : Str) == k))) s := by
 show (match (some (some ((("has" : Str) == k) || ((("not" : Str) == k) || false)))) with | some (some r) => R.ok (W.bl r) s | _ => .stuck) = _
 rw [Bool.or_false]
abbrev ga5 (a : W) (st : S) (x3 x4 : Option W) : Ga := [some a, some (.ref st.nxt), some (.ref (st.nxt + 1)), x3, x4]
theorem du_go {st : S} {a w p : W} {h k nm : Str} {g : Bool} {ps r : List W} {os : List (DKey × Bool)} (hw : Rl w h g ps) (hp : p = .tup [.str k, .tup (.str nm :: r)]) (hk : ((("has" : Str) == k) || (("not" : Str) == k)) = true) (hl : os.length<=900) :
  duP (ga5 a st (some w) (some p)) (st2 st (prs os) (sts os)) = .ok (.nx (ga5 a st (some w) (some p))) (st2 st (prs (os ++ [(key2 h nm, g || (k == ("not" : Str)))])) (sts (os ++ [(key2 h nm, g || (k == ("not" : Str)))]))) := by
 have l1 : (prs os).length<=1000 := by unfold prs; rw [Qkz]; omega
 have l2 : (sts os).length<=1000 := by unfold sts; rw [Qkz]; exact QkI (List.length_filter_le _ _) (by omega)
 have p1 : prs (os ++ [(key2 h nm, g || (k == ("not" : Str)))]) = prs os ++ [.tup [.str h, .str nm]] := by unfold prs; rw [List.map_append]; rfl
 have e0 : run2 (run2 (rVar 4) (rCon (W.int 0)) Qae) (runN (Qaa (rCon (W.str "has")) (Qaa (rCon (W.str "not")) Qac)) Qap) opIn (ga5 a st (some w) (some p)) (st2 st (prs os) (sts os)) = .ok (.bl true) (st2 st (prs os) (sts os)) := by
  rw [Qah, Qah, Qcl, Qab, Qad, Qab, hp, QcK, Qab, tup2 (Qad _) (Qad _), Qab, in2, hk]
 have e4 : ∀ s : S, run2 (run2 (rVar 4) (rCon (W.int 1)) Qae) (rCon (W.int 0)) Qae (ga5 a st (some w) (some p)) s = .ok (.str nm) s := fun s => by
  rw [Qah, Qah, Qcl, Qab, Qad, Qab, hp, Qjv, Qab, Qad, Qab, QcK]
 have ea : runM "list" (rVar 1) (Qaa (runN (Qaa (run2 (run2 (rVar 3) (rCon (W.int 1)) Qae) (rCon (W.int 0)) Qae) (Qaa (run2 (run2 (rVar 4) (rCon (W.int 1)) Qae) (rCon (W.int 0)) Qae) Qac)) Qap) Qac) Qat (ga5 a st (some w) (some p)) (st2 st (prs os) (sts os)) = .ok .non (st2 st (prs os ++ [.tup [.str h, .str nm]]) (sts os)) := by
  rw [Qkk (st2_0 _ _ _) (QaU _ _) (tup2 (Qiv hw (QcL _ _ _ _)) (e4 _)) l1, put_0]
 have ec : ∀ s : S, Qbu (run2 (run2 (rVar 4) (rCon (W.int 0)) Qae) (rCon (W.str "not")) opEq) (run2 (run2 (rVar 3) (rCon (W.int 0)) Qae) (rCon (W.str "gather")) opEq) (ga5 a st (some w) (some p)) s = .ok (.bl (g || (k == ("not" : Str)))) s := fun s => by
  obtain ⟨f, ef, eg⟩ := QgF (s := s) hw
  rw [QhQ, Qah, Qah, Qcl, Qab, Qad, Qab, hp, QcK, Qab, Qad, Qab, QgY, Qab, QaK]
  cases c : (k == ("not" : Str)) with
  | true => rw [if_pos rfl, Bool.or_true]
  | false => rw [if_neg Qkr, Qah, Qah, QcL, Qab, Qad, Qab, ef, Qab, Qad, Qab, QgY, eg, Bool.or_false]
 unfold duP
 rw [Qai, Qcm, e0, Qab, QaK, if_pos rfl, Qai, Qdv, ea, Qab, Qab, Qaf, Qai, Qcm, ec, Qab, QaK, p1]
 cases c : (g || (k == ("not" : Str))) with
 | false =>
  have s1 : sts (os ++ [(key2 h nm, false)]) = sts os := by unfold sts; rw [List.filter_append]; simp
  rw [if_neg Qkr, Qax, Qab, Qaf, Qax, Qab, Qaf, Qax, s1]
 | true =>
  have s1 : sts (os ++ [(key2 h nm, true)]) = sts os ++ [.tup [.str h, .str nm]] := by unfold sts; rw [List.filter_append, List.map_append]; rfl
  have eb : runM "list" (rVar 2) (Qaa (run2 (rVar 1) (run1 (rCon (W.int 1)) Qce) Qae) Qac) Qat (ga5 a st (some w) (some p)) (st2 st (prs os ++ [.tup [.str h, .str nm]]) (sts os)) = .ok .non (st2 st (prs os ++ [.tup [.str h, .str nm]]) (sts os ++ [.tup [.str h, .str nm]])) := by
   rw [Qkk (st2_1 _ _ _) (QbV _ _ _) (show run2 (rVar 1) (run1 (rCon (W.int 1)) Qce) Qae (ga5 a st (some w) (some p)) (st2 st (prs os ++ [.tup [.str h, .str nm]]) (sts os)) = .ok (.tup [.str h, .str nm]) (st2 st (prs os ++ [.tup [.str h, .str nm]]) (sts os)) by
    rw [Qah, QaU, Qab, Qcx, Qad, Qab, Qgi, Qab]; exact idx_last (st2_0 _ _ _)) l2, put_1]
  rw [if_pos rfl, Qai, Qdv, eb, Qab, Qab, Qaf, Qax, Qab, Qaf, Qax, Qab, Qaf, Qax, s1]
theorem QcW {st : S} {a w : W} {h : Str} {g : Bool} {ps0 : List W} (hw : Rl w h g ps0) : ∀ (ps : List W) (os : List (DKey × Bool)) (x4 : Option W), (∀ p ∈ ps, PrtOk p)->os.length + ps.length<=900 ->
  ∃ y4, Qbe 4 duP ps (ga5 a st (some w) x4) (st2 st (prs os) (sts os)) = .ok (.nx (ga5 a st (some w) y4)) (st2 st (prs (os ++ occ h g ps)) (sts (os ++ occ h g ps)))
 | [], os, x4, _, _ => ⟨x4, by rw [show occ h g [] = [] from rfl, List.append_nil]; rfl⟩
 | p :: ps, os, x4, hp, hl => by
  rw [QkH] at hl
  have hp2 := fun q hq => hp q (QkA _ hq)
  cases hp p Qkv with
  | has nm r =>
   have eb := du_go (st := st) (a := a) (os := os) hw rfl (k := "has") (nm := nm) (r := r) (by decide +kernel) (by omega)
   obtain ⟨y4, e⟩ := QcW (st := st) (a := a) hw ps (os ++ [(key2 h nm, g || (("has" : Str) == ("not" : Str)))]) (some (.tup [.str "has", .tup (.str nm :: r)])) hp2 (by rw [QkB, QkJ]; omega)
   refine ⟨y4, ?_⟩
   rw [QaJ 4 duP _ ps (ga5 a st (some w) x4) _ _ _ eb, QcT (pk_has nm r), e, List.append_assoc]
   have eb2 : (("has" : Str) == ("not" : Str)) = false := by decide +kernel
   rw [eb2]; rfl
  | not nm r =>
   have eb := du_go (st := st) (a := a) (os := os) hw rfl (k := "not") (nm := nm) (r := r) (by decide +kernel) (by omega)
   obtain ⟨y4, e⟩ := QcW (st := st) (a := a) hw ps (os ++ [(key2 h nm, g || (("not" : Str) == ("not" : Str)))]) (some (.tup [.str "not", .tup (.str nm :: r)])) hp2 (by rw [QkB, QkJ]; omega)
   refine ⟨y4, ?_⟩
   rw [QaJ 4 duP _ ps (ga5 a st (some w) x4) _ _ _ eb, QcT (pk_not nm r), e, List.append_assoc]
   have eb2 : (("not" : Str) == ("not" : Str)) = true := by decide +kernel
   rw [eb2]; rfl
  | oth k r h1 h2 =>
   have h1' : (("has" : Str) == k) = false := by rw [beq_eq_false_iff_ne] at h1 ⊢; exact fun z => h1 z.symm
   have h2' : (("not" : Str) == k) = false := by rw [beq_eq_false_iff_ne] at h2 ⊢; exact fun z => h2 z.symm
   have eb : duP (ga5 a st (some w) (some (.tup (.str k :: r)))) (st2 st (prs os) (sts os)) = .ok (.nx (ga5 a st (some w) (some (.tup (.str k :: r))))) (st2 st (prs os) (sts os)) := by
    unfold duP
    rw [Qai, Qcm, Qah, Qah, Qcl, Qab, Qad, Qab, QcK, Qab, tup2 (Qad _) (Qad _), Qab, in2, h1', h2', Qab, QaK, if_neg (by decide), Qax, Qab, Qaf, Qax]
   obtain ⟨y4, e⟩ := QcW (st := st) (a := a) hw ps os (some (.tup (.str k :: r))) hp2 (by omega)
   refine ⟨y4, ?_⟩
   rw [QaJ 4 duP _ ps (ga5 a st (some w) x4) _ _ _ eb, QgN (pk_oth r h1 h2), e]
noncomputable def duR : RunS := (sSeq (sFor 4 (QaB (run2 (rVar 3) (run1 (rCon (W.int 1)) Qce) Qae)) duP)
 Qaq)
theorem du_rules {st : S} {a : W} : ∀ {ws : List W} {os : List (DKey × Bool)}, Rs ws os->∀ (pre : List (DKey × Bool)) (x3 x4 : Option W), pre.length + 3 * ws.length<=900 ->
  ∃ y3 y4, Qbe 3 duR ws (ga5 a st x3 x4) (st2 st (prs pre) (sts pre)) = .ok (.nx (ga5 a st y3 y4)) (st2 st (prs (pre ++ os)) (sts (pre ++ os))) := by
 intro ws os h
 induction h with
 | nil => intro pre x3 x4 _; exact ⟨x3, x4, by rw [List.append_nil]; rfl⟩
 | @cons w h g ps ws os hw hp h3 _ ih =>
  intro pre x3 x4 hl
  rw [QkH] at hl
  obtain ⟨y4, e⟩ := QcW (st := st) (a := a) hw ps pre x4 hp (by omega)
  have lo := QfS h g ps
  obtain ⟨z3, z4, e'⟩ := ih (pre ++ occ h g ps) (some w) y4 (by rw [QkB]; omega)
  refine ⟨z3, z4, ?_⟩
  have eb : duR (ga5 a st (some w) x4) (st2 st (prs pre) (sts pre)) = .ok (.nx (ga5 a st (some w) y4)) (st2 st (prs (pre ++ occ h g ps)) (sts (pre ++ occ h g ps))) := by
   unfold duR
   rw [Qai, Qdu, src_tup (QgR hw (QcL _ _ _ _)), Qab, e, Qab, Qaf, Qax]
  rw [QaJ 3 duR _ ws (ga5 a st x3 x4) _ _ _ eb, e', List.append_assoc]
theorem eq_key {k l : DKey} (hk : isPr k = true) (hl : isPr l = true) (n : Nat) : eqD (n + 2) (keyT k) (keyT l) = some (decide (k = l)) := by
 obtain ⟨x, y, rfl⟩ := QdN hk
 obtain ⟨u, v, rfl⟩ := QdN hl
 have e : eqD (n + 2) (keyT (key2 x y)) (keyT (key2 u v)) = some (((x == u) && ((y == v) && true)) && ([W.str x, W.str y].length == [W.str u, W.str v].length)) := by
  show (Qak (eqD (n + 1)) [W.str x, W.str y] [W.str u, W.str v]).map (fun r => r && [W.str x, W.str y].length == [W.str u, W.str v].length) = _
  unfold Qak
  unfold Qak
  unfold Qak
  rfl
 rw [e]
 congr 1
 unfold key2
 by_cases q : x = u
 ·by_cases r : y = v
  ·subst q; subst r; simp
  ·simp [q, r]
 ·simp [q]
theorem Qju {k : DKey} (hk : isPr k = true) : ∀ (ks : List DKey), (∀ l ∈ ks, isPr l = true)->inD (keyT k) (ks.map keyT) = some (ks.any fun l => decide (l = k))
 | [], _ => rfl
 | l :: ks, h => by
  show (match eqD 12 (keyT l) (keyT k), inD (keyT k) (ks.map keyT) with | some a, some b => some (a || b) | _, _ => none) = _
  rw [eq_key (h l Qkv) hk 10, Qju hk ks fun z hz => h z (QkA _ hz)]
  rfl
theorem Qjt {os : List (DKey × Bool)} {k : DKey} {s : S} {n : Nat} (hp : ∀ o ∈ os, isPr o.1 = true) (hk : isPr k = true) (hm : s.mu n = some (.lst (sts os))) : opIn (keyT k) (.ref n) s = .ok (.bl (os.any fun o => decide (o.1 = k) && o.2)) s := by
 have e1 : sts os = ((os.filter (·.2)).map (·.1)).map keyT := by unfold sts; rw [List.map_map]; rfl
 have e2 : inD (keyT k) (sts os) = some (os.any fun o => decide (o.1 = k) && o.2) := by
  rw [e1, Qju hk _ (fun l hl => by
   obtain ⟨o, ho, rfl⟩ := List.mem_map.mp hl
   exact hp o (List.mem_filter.mp ho).1)]
  congr 1
  rw [List.any_map, List.any_filter]
  congr 1
  funext o
  show (o.2 && decide (o.1 = k)) = _
  rw [Bool.and_comm]
 unfold opIn
 have e3 : Qfg s (keyT k) (.ref n) = none := by
  unfold Qfg
  rw [show QbW s (.ref n) = none from by show (match s.mu n with | some (.dct ks ws) => some (ks, ws) | _ => none) = _; rw [hm]]
  cases keyW (keyT k) <;> rfl
 rw [e3]
 show opIn0 (keyT k) (.ref n) s = _
 show (match (match MO.items (s.mu n) with | some ys => inD (keyT k) ys | none => none) with | some r => R.ok (W.bl r) s | none => .stuck) = _
 rw [hm]
 show (match inD (keyT k) (sts os) with | some r => R.ok (W.bl r) s | none => .stuck) = _
 rw [e2]
theorem Qjh : ∀ ks : List DKey, Qci (ks.map keyT) = some ks
 | [] => rfl
 | k :: ks => by
  show (match keyW (keyT k), Qci (ks.map keyT) with | some k, some ks => some (k :: ks) | _, _ => none) = _
  rw [QbE, Qjh ks]
theorem due_ok {ws : List W} {os : List (DKey × Bool)} {ls : List DKey} (h : Rs ws os) (hl : ws.length<=20) (hs : Srt os ls) (st : S) : QcR [.lst ws] st = .ok (.lst (ls.map (outW os))) st := by
 have lo := h.len
 have ll := hs.len
 obtain ⟨y3, y4, e⟩ := du_rules (st := st) (a := .lst ws) h [] none none (by rw [List.length_nil]; omega)
 rw [List.nil_append] at e
 have n1 : ∀ Γ : Ga, runN Qac (opL true) Γ st = .ok (.ref st.nxt) (st.new (.lst [])) := fun _ => rfl
 have n2 : ∀ Γ : Ga, runN Qac (opL true) Γ (st.new (.lst [])) = .ok (.ref (st.nxt + 1)) (st2 st (prs []) (sts [])) := fun _ => rfl
 have sf : sFor 3 (QaB (rVar 0)) duR (ga5 (.lst ws) st none none) (st2 st (prs []) (sts [])) = .ok (.nx (ga5 (.lst ws) st y3 y4)) (st2 st (prs os) (sts os)) := by
  rw [Qdu, Qec (Qbi _), Qab, e]
 have es : QaB (run1 (rVar 1) (QbA false)) (ga5 (.lst ws) st y3 y4) (st2 st (prs os) (sts os)) = .ok (ls.map keyT) (st2 st (prs os) (sts os)) := by
  refine Qec ?_
  rw [Qcx, QaU, Qab]
  unfold QbA
  have e1 : (QeY (st2 st (prs os) (sts os)) (.ref st.nxt)).bind Qci = some (os.map (·.1)) := by
   have : QeY (st2 st (prs os) (sts os)) (.ref st.nxt) = some (prs os) := by
    show (match (st2 st (prs os) (sts os)).mu st.nxt with | some (.lst xs) => some xs | _ => none) = _
    rw [st2_0]
   rw [this]
   show Qci (prs os) = _
   have : prs os = (os.map (·.1)).map keyT := by unfold prs; rw [List.map_map]; rfl
   rw [this, Qjh]
  rw [e1]
  show (if (os.map (·.1)).length < 64/\(os.map (·.1)).all isPr = true then _ else _) = _
  rw [if_pos ⟨by rw [Qkz]; omega, List.all_eq_true.mpr fun k hk => by obtain ⟨o, ho, rfl⟩ := List.mem_map.mp hk; exact h.pr o ho⟩, hs.eq]
  exact Qds _ (Qaw (by rw [Qkz]; omega))
 have ec := comp_map (cap := [2]) (re := runN (Qaa (run2 (rVar 0) (rCon (W.int 0)) Qae) (Qaa (run2 (rVar 0) (rCon (W.int 1)) Qae) (Qaa (run2 (rVar 0) (rVar 1) opIn) Qac))) Qap) (fW os) es (by rw [Qkz]; exact QkN (show ls.length<=1000 by omega) (by decide)) (fun x hx => by
  obtain ⟨k, hk, rfl⟩ := List.mem_map.mp hx
  obtain ⟨_, hk2⟩ := hs.mem k hk
  show runN (Qaa (run2 (rVar 0) (rCon (W.int 0)) Qae) (Qaa (run2 (rVar 0) (rCon (W.int 1)) Qae) (Qaa (run2 (rVar 0) (rVar 1) opIn) Qac))) Qap [some (keyT k), some (.ref (st.nxt + 1))] (st2 st (prs os) (sts os)) = .ok (match keyW (keyT k) with | some k => outW os k | none => keyT k) (st2 st (prs os) (sts os))
  rw [QbE]
  have i3 : run2 (rVar 0) (rVar 1) opIn [some (keyT k), some (.ref (st.nxt + 1))] (st2 st (prs os) (sts os)) = .ok (.bl (os.any fun o => decide (o.1 = k) && o.2)) (st2 st (prs os) (sts os)) := by
   rw [Qah, Qbi, Qab, QaU, Qab]; exact Qjt h.pr hk2 (st2_1 _ _ _)
  obtain ⟨x, y, rfl⟩ := QdN hk2
  exact tup3 (by rw [Qah, Qbi, Qab, Qad, Qab]; exact QcK _ _) (by rw [Qah, Qbi, Qab, Qad, Qab]; exact Qjv _ _ _) i3)
 rw [fW_map] at ec
 unfold duR duP at sf
 unfold QcR
 rw [QgX]
 unfold QfL
 rw [show List.replicate (5 - 1) (none : Option W) = [none, none, none, none] from rfl, Qai, QaX, n1, Qab, ks1, Qab, Qaf, Qai, QaX, n2, Qab, ks2, Qab, Qaf, Qai, sf, Qab, Qaf, QgG ec, QjD]
 refine QgW (k := 2) (fun m hm => ?_) (.lst fun x hx => ?_) (by decide)
 ·exact (QbS (st.new (.lst (prs os))) _ m (Nat.lt_succ_of_lt hm)).trans (QbS st _ m hm)
 ·obtain ⟨k, hk, rfl⟩ := List.mem_map.mp hx
  exact QfQ (hs.mem k hk).2
end DL.My
namespace DL.My
open PySem L2
section
variable {Γ : Ga} {s : S} {a b : Run} {i j : Int}
theorem i_divr (ha : a Γ s = .ok (.int i) s) (hb : b Γ s = .ok (.int j) s) (h0 : 0 < j) (h1 : j < 1073741824) : run2 a b QaM Γ s = .ok (.int (i / j)) s := by rw [Qah, ha, Qab, hb, Qab, QjH _ _ h0 h1]
theorem i_eq (ha : a Γ s = .ok (.int i) s) : run2 a (rCon (W.int j)) opEq Γ s = .ok (.bl (i == j)) s := by rw [Qah, ha, Qab, Qad, Qab, ev_eqI]
theorem i_gt (ha : a Γ s = .ok (.int i) s) : run2 a (rCon (W.int j)) opGt Γ s = .ok (.bl (decide (j < i))) s := by rw [Qah, ha, Qab, Qad, Qab, ev_gtI]
end
theorem cut_mem {ws : List W} {lo hi : Option Int} {x : W} (h : x ∈ cutW ws lo hi) : x ∈ ws := List.mem_of_mem_drop (List.mem_of_mem_take h)
theorem cut_len (ws : List W) (lo hi : Option Int) : (cutW ws lo hi).length<=ws.length := by unfold cutW; rw [List.length_take, List.length_drop]; omega
theorem QiT {zs : List Str} {i : Int} (h0 : 0<=i) (h1 : i < (zs.length : Nat)) (s : S) : ∃ z : Str, Qae (.lst (zs.map W.str)) (.int i) s = .ok (.str z) s := by
 obtain ⟨c, hc, hm⟩ := at_in (zs.map W.str) i h0 (by rw [Qkz]; exact h1)
 obtain ⟨z, _, rfl⟩ := List.mem_map.mp hm
 exact ⟨z, Qgj _ i _ hc⟩
theorem QgL {Γ : Ga} {s : S} {ra rb ri rm : Run} {z : Str} {x y : W} {m : Int} (hz : run2 ra ri Qae Γ s = .ok (.str z) s) (hb : rb Γ s = .ok (.tup [x, y]) s) (hm : rm Γ s = .ok (.int m) s) :
  run2 (runN (Qaa (run2 ra ri Qae) Qac) Qap) (QaV false rb rm) Qas Γ s = .ok (.tup (.str z :: cutW [x, y] none (some m))) s := by
 rw [Qah, tup1 hz, Qab, QjC, hb, Qab, hm, Qab, kHi_int, ev_slT, Qab]
 have := cut_len [x, y] none (some m)
 have : (cutW [x, y] none (some m)).length<=2 := this
 show (if [W.str z] ≠ []/\1 + (cutW [x, y] none (some m)).length<=sizeLine then R.ok (W.tup ([W.str z] ++ cutW [x, y] none (some m))) s else .stuck) = _
 rw [if_pos ⟨by simp, Qaw (by omega)⟩]; rfl
inductive Flt : W->Prop
 | int (i : Int) : Flt (.int i)
 | str (x : Str) : Flt (.str x)
theorem Flt.dat {w : W} (h : Flt w) (n : Nat) : Dat n w := by cases h <;> constructor
theorem Qel {z : Str} {x y : W} {m : Int} (hx : Flt x) (hy : Flt y) : Dat 1 (.tup (.str z :: cutW [x, y] none (some m))) := by
 refine .tup fun w hw => ?_
 rcases List.mem_cons.mp hw with rfl | hw
 ·exact .str _ _
 ·have := cut_mem hw
  simp only [List.mem_cons, List.not_mem_nil, or_false] at this
  rcases this with rfl | rfl
  ·exact hx.dat _
  ·exact hy.dat _
theorem part_ok (zs : List Str) (hz : 0 < zs.length) (hz2 : zs.length<=6) (n : Int) (st : S) : ∃ p, PrtOk p/\Dat 3 p/\Qbm [.lst (zs.map W.str), .int n] st = .ok p st := by
 have ek : run2 (run2 (rVar 1) (rCon (W.int 8)) QaM) (runN (Qaa (rVar 0) Qac) Qdj) Qaz [some (.lst (zs.map W.str)), some (.int n), none] st = .ok (.int (n / 8 % ((zs.map W.str).length : Nat))) st :=
  Qcj (QhO (QaU _ _) (by decide) (by decide)) ((QeR (Qbi _)).trans (QjG _)) (by rw [Qkz]; omega)
 rw [Qkz] at ek
 obtain ⟨k0, k1⟩ := mod_lt (n / 8) (zs.length : Nat) (by omega)
 generalize n / 8 % (zs.length : Nat) = k at ek k0 k1
 obtain ⟨z, ez⟩ := QiT k0 k1 st
 have i0 : run2 (rVar 0) (rVar 2) Qae [some (.lst (zs.map W.str)), some (.int n), some (.int k)] st = .ok (.str z) st := by rw [Qah, Qbi, Qab, QbV, Qab, ez]
 have im : run2 (rVar 2) (rCon (W.int 3)) Qaz [some (.lst (zs.map W.str)), some (.int n), some (.int k)] st = .ok (.int (k % 3)) st := Qcj (QbV _ _ _) (Qad _) (by decide)
 have c1 : run2 (run2 (rVar 1) (rCon (W.int 8)) Qaz) (rCon (W.int 7)) opEq [some (.lst (zs.map W.str)), some (.int n), some (.int k)] st = .ok (.bl (n % 8 == 7)) st := i_eq (Qcj (QaU _ _) (Qad _) (by decide))
 have c2 : run2 (run2 (rVar 1) (rCon (W.int 8)) Qaz) (rCon (W.int 4)) opGt [some (.lst (zs.map W.str)), some (.int n), some (.int k)] st = .ok (.bl (decide (4 < n % 8))) st := i_gt (Qcj (QaU _ _) (Qad _) (by decide))
 have go : ∀ p, (∃ r : RunS, r = QbH/\r [some (.lst (zs.map W.str)), some (.int n), none] st = .ok (.rt p) st)->Qbm [.lst (zs.map W.str), .int n] st = .ok p st := fun p ⟨r, er, e⟩ => by
  subst er
  unfold Qbm
  rw [Qfj, show List.replicate (3 - 2) (none : Option W) = [none] from rfl, e, ev_rt]
 cases h1 : (n % 8 == 7) with
 | true =>
  obtain ⟨m0, m1⟩ := mod_lt (n / 8) 3 (by decide)
  have el : ∀ (x y u : W), runN (Qaa (rCon x) (Qaa (rCon y) (Qaa (rCon u) Qac))) Qap [some (.lst (zs.map W.str)), some (.int n), some (.int k)] st = .ok (.tup [x, y, u]) st := fun x y u => tup3 (Qad _) (Qad _) (Qad _)
  have e4 : runN (Qaa (rCon (W.str "plus")) (Qaa (rCon (W.int 1)) (Qaa (rCon (W.int 2)) (Qaa (rCon (W.str "W")) Qac)))) Qap [some (.lst (zs.map W.str)), some (.int n), some (.int k)] st = .ok (.tup [.str "plus", .int 1, .int 2, .str "W"]) st := by
   rw [Qbs, Qan, Qad, Qab, Qan, Qad, Qab, Qan, Qad, Qab, Qan, Qad, Qab, Qbp, Qab, Qab, Qab, Qab, Qab]; exact QdV [W.str "plus", .int 1, .int 2, .str "W"] (show 4<=sizeLine by decide)
  have eL : runN (Qaa (runN (Qaa (rCon (W.str "less")) (Qaa (rCon (W.int 3)) (Qaa (rCon (W.int 2)) Qac))) Qap) (Qaa (runN (Qaa (rCon (W.str "same")) (Qaa (rCon (W.str "a")) (Qaa (rCon (W.int 1)) Qac))) Qap) (Qaa (runN (Qaa (rCon (W.str "plus")) (Qaa (rCon (W.int 1)) (Qaa (rCon (W.int 2)) (Qaa (rCon (W.str "W")) Qac)))) Qap) Qac))) (opL false) [some (.lst (zs.map W.str)), some (.int n), some (.int k)] st = .ok (.lst [.tup [.str "less", .int 3, .int 2], .tup [.str "same", .str "a", .int 1], .tup [.str "plus", .int 1, .int 2, .str "W"]]) st := by
   rw [Qbs, Qan, el, Qab, Qan, el, Qab, Qan, e4, Qab, Qbp, Qab, Qab, Qab, Qab]
   exact Qds _ (show 3<=sizeLine by decide)
  obtain ⟨p, hp, hm⟩ := at_in [W.tup [.str "less", .int 3, .int 2], .tup [.str "same", .str "a", .int 1], .tup [.str "plus", .int 1, .int 2, .str "W"]] (n / 8 % 3) m0 (show n / 8 % 3 < ((3 : Nat) : Int) from m1)
  have er : run2 (runN (Qaa (runN (Qaa (rCon (W.str "less")) (Qaa (rCon (W.int 3)) (Qaa (rCon (W.int 2)) Qac))) Qap) (Qaa (runN (Qaa (rCon (W.str "same")) (Qaa (rCon (W.str "a")) (Qaa (rCon (W.int 1)) Qac))) Qap) (Qaa (runN (Qaa (rCon (W.str "plus")) (Qaa (rCon (W.int 1)) (Qaa (rCon (W.int 2)) (Qaa (rCon (W.str "W")) Qac)))) Qap) Qac))) (opL false)) (run2 (run2 (rVar 1) (rCon (W.int 8)) QaM) (rCon (W.int 3)) Qaz) Qae [some (.lst (zs.map W.str)), some (.int n), some (.int k)] st = .ok p st := by
   rw [Qah, eL, Qab, i_dm (QaU _ _) (by decide) (by decide) (by decide), Qab]
   exact Qgj _ _ _ hp
  refine ⟨p, ?_, ?_, go p ⟨_, rfl, ?_⟩⟩
  ·simp only [List.mem_cons, List.not_mem_nil, or_false] at hm
   rcases hm with rfl | rfl | rfl <;> exact .oth _ _ (by decide +kernel) (by decide +kernel)
  ·simp only [List.mem_cons, List.not_mem_nil, or_false] at hm
   rcases hm with rfl | rfl | rfl <;> (refine .tup fun w hw => ?_; simp only [List.mem_cons, List.not_mem_nil, or_false] at hw; rcases hw with rfl | rfl | rfl | rfl <;> constructor)
  ·unfold QbH
   rw [Qai, QaX, ek, Qab, ks2, Qab, Qaf, Qai, Qcm, c1, Qab, QaK, h1, if_pos rfl, QcB er, Qab, Qgd]
 | false =>
  cases h2 : decide (4 < n % 8) with
  | true =>
   have ep := QgL (x := .str "a") (y := .int 7) i0 (tup2 (Qad _) (Qad _)) im
   refine ⟨.tup [.str "not", .tup (.str z :: cutW [.str "a", .int 7] none (some (k % 3)))], .not z _, .tup fun w hw => ?_, go _ ⟨_, rfl, ?_⟩⟩
   rotate_left
   ·unfold QbH
    rw [Qai, QaX, ek, Qab, ks2, Qab, Qaf, Qai, Qcm, c1, Qab, QaK, h1, if_neg Qkr, Qax, Qab, Qaf, Qai, Qcm, c2, Qab, QaK, h2, if_pos rfl, QcB (tup2 (Qad _) ep), Qab, Qgd]
   ·simp only [List.mem_cons, List.not_mem_nil, or_false] at hw
    rcases hw with rfl | rfl
    ·exact .str _ _
    ·exact (Qel (.str _) (.int _)).mono 2 (by decide)
  | false =>
   have ep := QgL (x := .str "X") (y := .str "Yo") i0 (tup2 (Qad _) (Qad _)) im
   refine ⟨.tup [.str "has", .tup (.str z :: cutW [.str "X", .str "Yo"] none (some (k % 3)))], .has z _, .tup fun w hw => ?_, go _ ⟨_, rfl, ?_⟩⟩
   rotate_left
   ·unfold QbH
    rw [Qai, QaX, ek, Qab, ks2, Qab, Qaf, Qai, Qcm, c1, Qab, QaK, h1, if_neg Qkr, Qax, Qab, Qaf, Qai, Qcm, c2, Qab, QaK, h2, if_neg Qkr, Qax, Qab, Qaf, QcB (tup2 (Qad _) ep)]
   ·simp only [List.mem_cons, List.not_mem_nil, or_false] at hw
    rcases hw with rfl | rfl
    ·exact .str _ _
    ·exact (Qel (.str _) (.str _)).mono 2 (by decide)
end DL.My
namespace DL.My
open PySem L2
noncomputable def QgP : RunS := (sSeq (sSet 5 (run2 (run2 (rVar 0) (rCon (W.int 2)) QaM) (run2 (run2 (rVar 4) (rCon (W.int 48271)) Qbb) (run2 (rVar 0) (rCon (W.int 2)) Qaz) Qbb) Qas))
 (sSeq (sSet 6 (runM "str" (rCon (W.str "")) (Qaa (QaE false (QaF (run2 (rVar 5) (rCon (W.int 7)) Qaz)) [5, 2] (rCon (.bl true)) (run2 (rVar 2) (run2 (run2 (run2 (rVar 1) (rCon (W.int 7)) QaM) (run2 (rCon (W.int 6)) (rVar 0) Qbb) Qas) (rCon (W.int 25)) Qaz) Qae)) Qac) QcD))
 (sSeq (sSet 7 (run2 (run2 (rVar 5) (rCon (W.int 175)) QaM) (run2 (runN (Qaa (rVar 6) Qac) Qdj) (rCon (W.int 1)) Qas) Qaz))
 (sSeq (Qcp (runM "list" (rVar 3) (Qaa (run2 (run2 (run2 (QaV false (rVar 6) (rVar 7)) (rCon (W.str "z")) Qas) (run2 (rVar 2) (rVar 4) Qae) Qas) (QbP false (rVar 6) (rVar 7)) Qas) Qac) Qat))
 Qaq))))
abbrev abc : Str := "abcdefghijklmnopqrstuvwxy"
theorem QeC : abc.length = 25 := by decide +kernel
abbrev ga8 (c m : Int) (st : S) (x4 x5 x6 x7 : Option W) : Ga := [some (.int c), some (.int m), some (.str abc), some (.ref st.nxt), x4, x5, x6, x7]
theorem nm_turn (c m : Int) (st : S) (k : Nat) (hk : k < 6) (zs : List Str) (hl : zs.length = k) (x5 x6 x7 : Option W) : ∃ (z : Str) (y5 y6 y7 : Option W), QgP (ga8 c m st (some (.int k)) x5 x6 x7) (st.new (.lst (zs.map W.str))) = .ok (.nx (ga8 c m st (some (.int k)) y5 y6 y7)) (st.new (.lst ((zs ++ [z]).map W.str))) := by
 generalize es : st.new (.lst (zs.map W.str)) = s
 obtain ⟨c0, c1⟩ := mod_lt c 2 (by decide)
 have e5 : run2 (run2 (rVar 0) (rCon (W.int 2)) QaM) (run2 (run2 (rVar 4) (rCon (W.int 48271)) Qbb) (run2 (rVar 0) (rCon (W.int 2)) Qaz) Qbb) Qas (ga8 c m st (some (.int k)) x5 x6 x7) s = .ok (.int (c / 2 + (k : Int) * 48271 * (c % 2))) s :=
  Qgg (QhO (Qbi _) (by decide) (by decide)) (Qjw (Qjw (Qcl _ _ _ _ _) (Qad _) (by decide) (by decide)) (Qcj (Qbi _) (Qad _) (by decide)) (by omega) (by omega))
 generalize c / 2 + (k : Int) * 48271 * (c % 2) = more at e5
 obtain ⟨m0, m1⟩ := mod_lt more 7 (by decide)
 obtain ⟨ys, ly, hy, hc⟩ := Qka (cap := [5, 2]) (src := QaF (run2 (rVar 5) (rCon (W.int 7)) Qaz)) (re := run2 (rVar 2) (run2 (run2 (run2 (rVar 1) (rCon (W.int 7)) QaM) (run2 (rCon (W.int 6)) (rVar 0) Qbb) Qas) (rCon (W.int 25)) Qaz) Qae)
  (Γ := ga8 c m st (some (.int k)) (some (.int more)) x6 x7) (st := s) (items := QaH 0 (more % 7).toNat) OneC (rng1 (Qcj (QjB _ _ _ _ _ _) (Qad _) (by decide)) (by omega) (by omega)) (by rw [QbL]; omega) (fun x hx => by
   obtain ⟨j, hj, rfl⟩ := QdP hx
   obtain ⟨n0, n1⟩ := mod_lt (more / 7 + 6 * (j : Int)) 25 (by decide)
   obtain ⟨ch, hc⟩ := one_at (z := abc) (by rw [QeC]; decide) n0 (by rw [QeC]; exact n1) s
   refine ⟨_, ⟨ch, rfl⟩, ?_⟩
   show run2 (rVar 2) (run2 (run2 (run2 (rVar 1) (rCon (W.int 7)) QaM) (run2 (rCon (W.int 6)) (rVar 0) Qbb) Qas) (rCon (W.int 25)) Qaz) Qae [some (.int (j : Nat)), some (.int more), some (.str abc)] s = _
   rw [Qah, QbV, Qab, Qcj (Qgg (QhO (QaU _ _) (by decide) (by decide)) (i_mulL (Qad _) (Qbi _) (by decide) (by decide))) (Qad _) (by decide), Qab]
   exact hc)
 obtain ⟨cs, rfl⟩ := QdR ys hy
 rw [Qkz, QbL] at ly
 have l7 : (⟨cs.toArray⟩ : Str).length<=7 := by rw [len_mk]; omega
 generalize ez : (⟨cs.toArray⟩ : Str) = tail at l7
 have e6 : runM "str" (rCon (W.str "")) (Qaa (QaE false (QaF (run2 (rVar 5) (rCon (W.int 7)) Qaz)) [5, 2] (rCon (.bl true)) (run2 (rVar 2) (run2 (run2 (run2 (rVar 1) (rCon (W.int 7)) QaM) (run2 (rCon (W.int 6)) (rVar 0) Qbb) Qas) (rCon (W.int 25)) Qaz) Qae)) Qac) QcD (ga8 c m st (some (.int k)) (some (.int more)) x6 x7) s = .ok (.str tail) s := by
  unfold runM
  rw [Qad, Qab, if_pos (show Qch s (.str "") = some "str" from rfl), Qan, hc, Qab, Qbp, Qab, Qab, Qfd cs s (by omega), ez]
 have e7 : run2 (run2 (rVar 5) (rCon (W.int 175)) QaM) (run2 (runN (Qaa (rVar 6) Qac) Qdj) (rCon (W.int 1)) Qas) Qaz (ga8 c m st (some (.int k)) (some (.int more)) (some (.str tail)) x7) s = .ok (.int (more / 175 % ((tail.length : Nat) + 1))) s :=
  Qcj (QhO (QjB _ _ _ _ _ _) (by decide) (by decide)) (Qgg ((QeR (ev_v6 _ _ _ _ _ _ _)).trans (ev_lenS _ (Qaw (by omega)))) (Qad _)) (by omega)
 generalize more / 175 % ((tail.length : Nat) + 1) = p at e7
 obtain ⟨ch, hch⟩ := one_at (z := abc) (by rw [QeC]; decide) (i := (k : Int)) (by omega) (by rw [QeC]; omega) s
 have l1 := Txt.slice_le tail none (some p)
 have l2 := Txt.slice_le tail (some p) none
 have lc : (⟨#[ch]⟩ : Str).length = 1 := rfl
 have lz : ("z" : Str).length = 1 := by decide +kernel
 have e3 : run2 (rVar 2) (rVar 4) Qae (ga8 c m st (some (.int k)) (some (.int more)) (some (.str tail)) (some (.int p))) s = .ok (.str ⟨#[ch]⟩) s := by
  rw [Qah, QbV, Qab, Qcl, Qab]; exact hch
 have e4 := QbX (QbX (QbX (Qik (x := tail) (k := p) (a := rVar 6) (b := rVar 7) (Γ := ga8 c m st (some (.int k)) (some (.int more)) (some (.str tail)) (some (.int p))) (st := s) (ev_v6 _ _ _ _ _ _ _) (ev_v7 _ _ _ _ _ _ _ _) (by omega)) (Qad (W.str "z")) (by rw [lz]; omega)) e3 (by rw [QfY, lz, lc]; omega)) (Qij (x := tail) (k := p) (a := rVar 6) (b := rVar 7) (ev_v6 _ _ _ _ _ _ _) (ev_v7 _ _ _ _ _ _ _ _) (by omega)) (by rw [QfY, QfY, lz, lc]; omega)
 generalize Txt.slice tail none (some p) ++ ("z" : Str) ++ ⟨#[ch]⟩ ++ Txt.slice tail (some p) none = z at e4
 refine ⟨z, some (.int more), some (.str tail), some (.int p), ?_⟩
 have ea : runM "list" (rVar 3) (Qaa (run2 (run2 (run2 (QaV false (rVar 6) (rVar 7)) (rCon (W.str "z")) Qas) (run2 (rVar 2) (rVar 4) Qae) Qas) (QbP false (rVar 6) (rVar 7)) Qas) Qac) Qat (ga8 c m st (some (.int k)) (some (.int more)) (some (.str tail)) (some (.int p))) s = .ok .non (st.new (.lst ((zs ++ [z]).map W.str))) := by
  subst es
  rw [QcA (QcL _ _ _ _) e4 (by rw [Qkz]; omega), List.map_append]; rfl
 unfold QgP
 rw [Qai, QaX, e5, Qab, ks5, Qab, Qaf, Qai, QaX, e6, Qab, ks6, Qab, Qaf, Qai, QaX, e7, Qab, ks7, Qab, Qaf, Qai, Qdv, ea, Qab, Qab, Qaf, Qax]
theorem names_ok (c : Int) (m : Nat) (hm : m<=6) (st : S) : ∃ zs : List Str, zs.length = m/\Qbn [.int c, .int (m : Nat)] st = .ok (.lst (zs.map W.str)) st := by
 obtain ⟨Γ1, s1, el, zs, x4, x5, x6, x7, hl, rfl, rfl⟩ := QgT (i := 4) (body := QgP) (Γ := ga8 c m st none none none none) (s := st.new (.lst []))
  (fun k Γ s => ∃ (zs : List Str) (x4 x5 x6 x7 : Option W), zs.length = k/\Γ = ga8 c m st x4 x5 x6 x7/\s = st.new (.lst (zs.map W.str))) m ⟨[], none, none, none, none, rfl, rfl, rfl⟩ (fun k Γ s hk ⟨zs, x4, x5, x6, x7, hl, hΓ, hs⟩ => by
   subst hΓ hs
   obtain ⟨z, y5, y6, y7, e⟩ := nm_turn c m st k (by omega) zs hl x5 x6 x7
   exact ⟨_, _, e, zs ++ [z], _, _, _, _, by simp [hl], rfl, rfl⟩)
 refine ⟨zs, hl, ?_⟩
 have rg : QaF (rVar 1) (ga8 c m st none none none none) (st.new (.lst [])) = .ok (QaH 0 m) (st.new (.lst [])) := by
  have := rng1 (a := rVar 1) (Γ := ga8 c m st none none none none) (s := st.new (.lst [])) (n := ((m : Nat) : Int)) (QaU _ _) (by omega) (by omega)
  rwa [Int.toNat_natCast] at this
 have nl : ∀ Γ : Ga, runN Qac (opL true) Γ st = .ok (.ref st.nxt) (st.new (.lst [])) := fun _ => rfl
 unfold QgP at el
 unfold Qbn
 rw [Qfj]
 unfold Qdh
 rw [show List.replicate (8 - 2) (none : Option W) = [none, none, none, none, none, none] from rfl, Qai, QaX, Qad, Qab, ks2, Qab, Qaf, Qai, QaX, nl, Qab, ks3, Qab, Qaf, Qai, Qdu, rg, Qab, el, Qab, Qaf, QgG (QcL _ _ _ _), QjD]
 exact keep_new (k := 0) (fun x hx => by obtain ⟨z, _, rfl⟩ := List.mem_map.mp hx; exact .str _ _) (by decide)
noncomputable def QgI : RunS := (sSeq (Qcp (runM "list" (rVar 2) (Qaa (runN (Qaa (rVar 0) (Qaa (run2 (rVar 1) (run2 (rCon (W.int 21)) (run2 (rCon (W.int 40)) (rVar 3) Qbb) Qas) QaM) Qac)) (Qav Qbm)) Qac) Qat))
 Qaq)
theorem rule_ok (zs : List Str) (hz : 0 < zs.length) (hz2 : zs.length<=6) (n : Int) (st : S) : ∃ w h g ps, Rl w h g ps/\(∀ p ∈ ps, PrtOk p)/\ps.length<=3/\Dat 5 w/\Qba [.lst (zs.map W.str), .int n] st = .ok w st := by
 have e1 : run2 (run2 (rVar 1) (rCon (W.int 48271)) Qbb) (rCon (W.int 2147483647)) Qaz [some (.lst (zs.map W.str)), some (.int n), none, none, none, none] st = .ok (.int (n * 48271 % 2147483647)) st :=
  Qcj (Qjw (QaU _ _) (Qad _) (by decide) (by decide)) (Qad _) (by decide)
 generalize n * 48271 % 2147483647 = m at e1
 obtain ⟨b0, b1⟩ := mod_lt (m / 7) 3 (by decide)
 obtain ⟨Γ1, s1, el, ps, x3, hl, hp, rfl, rfl⟩ := QgT (i := 3) (body := QgI) (Γ := [some (.lst (zs.map W.str)), some (.int m), some (.ref st.nxt), none, none, none]) (s := st.new (.lst []))
  (fun k Γ s => ∃ (ps : List W) (x3 : Option W), ps.length = k/\(∀ p ∈ ps, PrtOk p/\Dat 3 p)/\Γ = [some (.lst (zs.map W.str)), some (.int m), some (.ref st.nxt), x3, none, none]/\s = st.new (.lst ps)) (1 + m / 7 % 3).toNat ⟨[], none, rfl, (fun p hp => by cases hp), rfl, rfl⟩ (fun k Γ s hk ⟨ps, x3, hl, hp, hΓ, hs⟩ => by
   subst hΓ hs
   have hk3 : k < 3 := by omega
   obtain ⟨p, h1, h2, ep⟩ := part_ok zs hz hz2 (m / (21 + 40 * (k : Int))) (st.new (.lst ps))
   refine ⟨[some (.lst (zs.map W.str)), some (.int m), some (.ref st.nxt), some (.int k), none, none], st.new (.lst (ps ++ [p])), ?_, ps ++ [p], some (.int k), by simp [hl], fun q hq => ?_, rfl, rfl⟩
   ·show QgI [some (.lst (zs.map W.str)), some (.int m), some (.ref st.nxt), some (.int k), none, none] (st.new (.lst ps)) = _
    unfold QgI
    rw [Qai, Qdv, QcA (QbV _ _ _) (Qdz (Qbi _) (i_divr (QaU _ _) (Qgg (Qad _) (i_mulL (Qad _) (QcL _ _ _ _) (by decide) (by decide))) (by omega) (by omega)) ep) (by omega), Qab, Qab, Qaf, Qax]
   ·rcases List.mem_append.mp hq with hq | hq
    ·exact hp q hq
    ·rw [List.mem_singleton.mp hq]; exact ⟨h1, h2⟩)
 have l3 : ps.length<=3 := by omega
 have rg : QaF (run2 (rCon (W.int 1)) (run2 (run2 (rVar 1) (rCon (W.int 7)) QaM) (rCon (W.int 3)) Qaz) Qas) [some (.lst (zs.map W.str)), some (.int m), some (.ref st.nxt), none, none, none] (st.new (.lst [])) = .ok (QaH 0 (1 + m / 7 % 3).toNat) (st.new (.lst [])) :=
  rng1 (Qgg (Qad _) (i_dm (QaU _ _) (by decide) (by decide) (by decide))) (by omega) (by omega)
 have nl : ∀ Γ : Ga, runN Qac (opL true) Γ st = .ok (.ref st.nxt) (st.new (.lst [])) := fun _ => rfl
 generalize es : st.new (.lst ps) = s at el
 have eh : run2 (run2 (rVar 1) (rCon (W.int 1009)) QaM) (runN (Qaa (rVar 0) Qac) Qdj) Qaz [some (.lst (zs.map W.str)), some (.int m), some (.ref st.nxt), x3, none, none] s = .ok (.int (m / 1009 % ((zs.map W.str).length : Nat))) s :=
  Qcj (QhO (QaU _ _) (by decide) (by decide)) ((QeR (Qbi _)).trans (QjG _)) (by rw [Qkz]; omega)
 rw [Qkz] at eh
 obtain ⟨k0, k1⟩ := mod_lt (m / 1009) (zs.length : Nat) (by omega)
 generalize m / 1009 % (zs.length : Nat) = k at eh k0 k1
 obtain ⟨z, ez⟩ := QiT k0 k1 s
 have i0 : ∀ x5 : Option W, run2 (rVar 0) (rVar 4) Qae [some (.lst (zs.map W.str)), some (.int m), some (.ref st.nxt), x3, some (.int k), x5] s = .ok (.str z) s := fun x5 => by rw [Qah, Qbi, Qab, Qcl, Qab, ez]
 have im : ∀ x5 : Option W, run2 (rVar 4) (rCon (W.int 3)) Qaz [some (.lst (zs.map W.str)), some (.int m), some (.ref st.nxt), x3, some (.int k), x5] s = .ok (.int (k % 3)) s := fun x5 => Qcj (Qcl _ _ _ _ _) (Qad _) (by decide)
 have c1 : run2 (run2 (rVar 1) (rCon (W.int 5)) Qaz) (rCon (W.int 0)) opEq [some (.lst (zs.map W.str)), some (.int m), some (.ref st.nxt), x3, some (.int k), none] s = .ok (.bl (m % 5 == 0)) s := i_eq (Qcj (QaU _ _) (Qad _) (by decide))
 have et : ∀ x5 : Option W, runN (Qaa (rVar 2) Qac) QbR [some (.lst (zs.map W.str)), some (.int m), some (.ref st.nxt), x3, some (.int k), x5] s = .ok (.tup ps) s := fun x5 => by
  refine (QeR (QbV _ _ _)).trans ?_
  show (match MO.items (s.mu st.nxt) with | some xs => Qap xs s | none => .stuck) = _
  rw [<-es, QbO]
  exact QdV ps (Qaw (by omega))
 have dp : Dat 4 (.tup ps) := .tup fun p h => (hp p h).2
 have hold : ∀ m, m < st.nxt->s.mu m = st.mu m := by rw [<-es]; exact QbS st _
 have go : ∀ w, Dat 5 w->(∃ r : RunS, r = Qcd/\r [some (.lst (zs.map W.str)), some (.int n), none, none, none, none] st = .ok (.rt w) s)->Qba [.lst (zs.map W.str), .int n] st = .ok w st := fun w dw ⟨r, er, e⟩ => by
  subst er
  unfold Qba
  rw [Qfj, show List.replicate (6 - 2) (none : Option W) = [none, none, none, none] from rfl, e, QjD]
  exact QgW hold dw (by decide)
 unfold QgI at el
 cases h1 : (m % 5 == 0) with
 | true =>
  have ep := QgL (x := .str "N") (y := .int 5) (i0 none) (tup2 (Qad _) (Qad _)) (im none)
  have dd : Dat 5 (.tup [.str "gather", .tup (.str z :: cutW [.str "N", .int 5] none (some (k % 3))), .str "count", .str "N", .str "", .tup [], .tup ps]) := by
   refine .tup fun w hw => ?_
   simp only [List.mem_cons, List.not_mem_nil, or_false] at hw
   rcases hw with rfl | rfl | rfl | rfl | rfl | rfl | rfl
   ·exact .str _ _
   ·exact (Qel (.str _) (.int _)).mono 4 (by decide)
   ·exact .str _ _
   ·exact .str _ _
   ·exact .str _ _
   ·exact .tup fun w hw => by cases hw
   ·exact dp
  refine ⟨_, z, true, ps, .gath z _ ps, fun p h => (hp p h).1, l3, dd, go _ dd ⟨_, rfl, ?_⟩⟩
  have t0 : ∀ Γ : Ga, runN Qac Qap Γ s = .ok (.tup []) s := fun _ => rfl
  have er : runN (Qaa (rCon (W.str "gather")) (Qaa (rVar 5) (Qaa (rCon (W.str "count")) (Qaa (rCon (W.str "N")) (Qaa (rCon (W.str "")) (Qaa (runN Qac Qap) (Qaa (runN (Qaa (rVar 2) Qac) QbR) Qac))))))) Qap [some (.lst (zs.map W.str)), some (.int m), some (.ref st.nxt), x3, some (.int k), some (.tup (.str z :: cutW [.str "N", .int 5] none (some (k % 3))))] s = .ok (.tup [.str "gather", .tup (.str z :: cutW [.str "N", .int 5] none (some (k % 3))), .str "count", .str "N", .str "", .tup [], .tup ps]) s := by
   rw [Qbs, Qan, Qad, Qab, Qan, QjB, Qab, Qan, Qad, Qab, Qan, Qad, Qab, Qan, Qad, Qab, Qan, t0, Qab, Qan, et, Qab, Qbp, Qab, Qab, Qab, Qab, Qab, Qab, Qab, Qab]
   exact QdV [_, _, _, _, _, _, _] (show 7<=sizeLine by decide)
  unfold Qcd
  rw [Qai, QaX, e1, Qab, ks1, Qab, Qaf, Qai, QaX, nl, Qab, ks2, Qab, Qaf, Qai, Qdu, rg, Qab, el, Qab, Qaf, Qai, QaX, eh, Qab, ks4, Qab, Qaf, Qai, Qcm, c1, Qab, QaK, h1, if_pos rfl, Qai, QaX, ep, Qab, ks5, Qab, Qaf, QcB er, Qab, Qgd]
 | false =>
  have ep := QgL (x := .str "b") (y := .int (-5)) (i0 none) (show runN (Qaa (rCon (W.str "b")) (Qaa (run1 (rCon (W.int 5)) Qce) Qac)) Qap [some (.lst (zs.map W.str)), some (.int m), some (.ref st.nxt), x3, some (.int k), none] s = _ from tup2 (Qad _) (by rw [Qcx, Qad, Qab, Qgi])) (im none)
  have dd : Dat 5 (.tup [.str "rule", .tup (.str z :: cutW [.str "b", .int (-5)] none (some (k % 3))), .tup ps]) := by
   refine .tup fun w hw => ?_
   simp only [List.mem_cons, List.not_mem_nil, or_false] at hw
   rcases hw with rfl | rfl | rfl
   ·exact .str _ _
   ·exact (Qel (.str _) (.int _)).mono 4 (by decide)
   ·exact dp
  refine ⟨_, z, false, ps, .rule z _ ps, fun p h => (hp p h).1, l3, dd, go _ dd ⟨_, rfl, ?_⟩⟩
  unfold Qcd
  rw [Qai, QaX, e1, Qab, ks1, Qab, Qaf, Qai, QaX, nl, Qab, ks2, Qab, Qaf, Qai, Qdu, rg, Qab, el, Qab, Qaf, Qai, QaX, eh, Qab, ks4, Qab, Qaf, Qai, Qcm, c1, Qab, QaK, h1, if_neg Qkr, Qax, Qab, Qaf, QcB (tup3 (Qad _) ep (et none))]
def RuleD (w : W) : Prop := ∃ h g ps, Rl w h g ps/\(∀ p ∈ ps, PrtOk p)/\ps.length<=3/\Dat 5 w
theorem rs_of : ∀ (ws : List W), (∀ w ∈ ws, RuleD w)->∃ os, Rs ws os
 | [], _ => ⟨[], .nil⟩
 | w :: ws, h => by
  obtain ⟨hd, g, ps, h1, h2, h3, _⟩ := h w Qkv
  obtain ⟨os, e⟩ := rs_of ws fun x hx => h x (QkA _ hx)
  exact ⟨_, .cons h1 h2 h3 e⟩
theorem rules_ok (ns : List Int) (hn : ns.length<=63) (st : S) : ∃ ws os, Rs ws os/\ws.length<=8/\Dat 6 (.lst ws)/\QbI [.lst (ns.map W.int)] st = .ok (.lst ws) st := by
 have c0 : ∀ Γ : Ga, runN (Qaa (rVar 0) (Qaa (rCon (W.int 0)) Qac)) (Qav QaL) (some (.lst (ns.map W.int)) :: Γ) st = .ok (.int (ns.getD 0 0)) st := fun Γ => Qdz (Qbi _) (Qad _) (Qgq ns 0 st hn)
 have c1 : ∀ Γ : Ga, runN (Qaa (rVar 0) (Qaa (rCon (W.int 1)) Qac)) (Qav QaL) (some (.lst (ns.map W.int)) :: Γ) st = .ok (.int (ns.getD 1 0)) st := fun Γ => Qdz (Qbi _) (Qad _) (Qgq ns 1 st hn)
 generalize ns.getD 0 0 = c at c0
 obtain ⟨m0, m1⟩ := mod_lt (c / 9) 6 (by decide)
 obtain ⟨zs, hz, ez⟩ := names_ok (ns.getD 1 0) (1 + c / 9 % 6).toNat (by omega) st
 have em : (((1 + c / 9 % 6).toNat : Nat) : Int) = 1 + c / 9 % 6 := by omega
 rw [em] at ez
 have e1 : runN (Qaa (runN (Qaa (rVar 0) (Qaa (rCon (W.int 1)) Qac)) (Qav QaL)) (Qaa (run2 (rCon (W.int 1)) (run2 (run2 (runN (Qaa (rVar 0) (Qaa (rCon (W.int 0)) Qac)) (Qav QaL)) (rCon (W.int 9)) QaM) (rCon (W.int 6)) Qaz) Qas) Qac)) (Qav Qbn) [some (.lst (ns.map W.int)), none, none] st = .ok (.lst (zs.map W.str)) st :=
  Qdz (c1 _) (Qgg (Qad _) (i_dm (c0 _) (by decide) (by decide) (by decide))) ez
 obtain ⟨k0, k1⟩ := mod_lt c 9 (by decide)
 have e2 : run2 (runN (Qaa (rVar 0) (Qaa (rCon (W.int 0)) Qac)) (Qav QaL)) (rCon (W.int 9)) Qaz [some (.lst (ns.map W.int)), some (.lst (zs.map W.str)), none] st = .ok (.int (c % 9)) st := Qcj (c0 _) (Qad _) (by decide)
 obtain ⟨ws, lw, hw, hc⟩ := Qka (cap := [1, 0]) (src := QaF (rVar 2)) (re := runN (Qaa (rVar 1) (Qaa (runN (Qaa (rVar 2) (Qaa (run2 (rCon (W.int 2)) (rVar 0) Qas) Qac)) (Qav QaL)) Qac)) (Qav Qba))
  (Γ := [some (.lst (ns.map W.int)), some (.lst (zs.map W.str)), some (.int (c % 9))]) (st := st) (items := QaH 0 (c % 9).toNat) RuleD (rng1 (QbV _ _ _) (by omega) (by omega)) (by rw [QbL]; omega) (fun x hx => by
   obtain ⟨j, hj, rfl⟩ := QdP hx
   obtain ⟨w, h, g, ps, h1, h2, h3, h4, e⟩ := rule_ok zs (by omega) (by omega) (ns.getD (2 + j) 0) st
   refine ⟨w, ⟨h, g, ps, h1, h2, h3, h4⟩, ?_⟩
   show runN (Qaa (rVar 1) (Qaa (runN (Qaa (rVar 2) (Qaa (run2 (rCon (W.int 2)) (rVar 0) Qas) Qac)) (Qav QaL)) Qac)) (Qav Qba) [some (.int (j : Nat)), some (.lst (zs.map W.str)), some (.lst (ns.map W.int))] st = _
   have ei : run2 (rCon (W.int 2)) (rVar 0) Qas [some (.int (j : Nat)), some (.lst (zs.map W.str)), some (.lst (ns.map W.int))] st = .ok (.int ((2 + j : Nat) : Int)) st := by
    rw [Qgg (Qad _) (Qbi _)]; congr 2
   exact Qdz (QaU _ _) (Qdz (QbV _ _ _) ei (Qgq ns (2 + j) st hn)) e)
 rw [QbL] at lw
 obtain ⟨os, hR⟩ := rs_of ws hw
 refine ⟨ws, os, hR, by omega, .lst fun w h => (let ⟨_, _, _, _, _, _, d⟩ := hw w h; d), ?_⟩
 unfold QbI
 rw [QgX]
 unfold Qdg
 rw [show List.replicate (3 - 1) (none : Option W) = [none, none] from rfl, Qai, QaX, e1, Qab, ks1, Qab, Qaf, Qai, QaX, e2, Qab, ks2, Qab, Qaf, QcB hc, ev_rt]
end DL.My
namespace DL.My
open PySem L2
theorem QgZ {xs : List W} {n k : Nat} {s : S} (hm : s.mu n = some (.lst xs)) (h : ∀ x ∈ xs, Dat k x) (hk : k<=8) : eqW s (.ref n) (.lst xs) = some true := by
 have d : Dat (k + 1) (.lst xs) := .lst h
 have f1 : frz 0 s.mu 12 (.ref n) = some (.lst xs) := by
  show (if n < 0 then some (W.ref n) else (match s.mu n with
   | some (.lst ys) => (frzs (frz 0 s.mu 11) ys).map W.lst
   | some (.dct ks ys) => (frzs (frz 0 s.mu 11) ys).map (W.dct ks)
   | none => none)) = _
  rw [if_neg (Nat.not_lt_zero _), hm]
  show (frzs (frz 0 s.mu 11) xs).map W.lst = _
  rw [Qcw fun x hx => (h x hx).frz _ _ 11 (by omega)]; rfl
 have f2 : frz 0 s.mu 12 (.lst xs) = some (.lst xs) := d.frz _ _ 12 (by omega)
 show (match frz 0 s.mu 12 (.ref n), frz 0 s.mu 12 (.lst xs) with
   | some a', some b' => eqD 12 a' b'
   | _, _ => none) = _
 rw [f1, f2]
 exact d.eq 12 (by omega)
theorem eq_live {xs : List W} {n k : Nat} {s : S} (hm : s.mu n = some (.lst xs)) (h : ∀ x ∈ xs, Dat k x) (hk : k<=8) : opEq (.ref n) (.lst xs) s = .ok (.bl true) s := by
 show (match eqW s (.ref n) (.lst xs) with | some r => R.ok (W.bl r) s | none => .stuck) = _
 rw [QgZ hm h hk]
theorem ne_live {xs : List W} {n k : Nat} {s : S} (hm : s.mu n = some (.lst xs)) (h : ∀ x ∈ xs, Dat k x) (hk : k<=8) : opNe (.ref n) (.lst xs) s = .ok (.bl false) s := by
 show (match eqW s (.ref n) (.lst xs) with | some r => R.ok (W.bl (!r)) s | none => .stuck) = _
 rw [QgZ hm h hk]; rfl
theorem ne_self {w : W} {n : Nat} (h : Dat n w) (hn : n<=10) (s : S) : opNe w w s = .ok (.bl false) s := by
 show (match (match (none : Option Bool) with
  | some c => some c
  | none => (match eqD 12 w w with
   | some c => some c
   | none => (match frz 0 s.mu 12 w, frz 0 s.mu 12 w with
    | some a', some b' => eqD 12 a' b'
    | _, _ => none))) with
  | some r => R.ok (W.bl (!r)) s
  | none => .stuck) = _
 rw [h.eq 12 (by omega)]; rfl
theorem Qgf {r : Run} {Γ : Ga} {s : S} {w : W} {k T : String} (h : r Γ s = .ok w s) (hk : Qch s w = some k) (hT : kinds.contains T = true) : runN (Qaa r (Qaa (rCon (.ty T)) Qac)) Qdk Γ s = .ok (.bl (Qdo k T)) s := by
 rw [Qbs, Qan, h, Qab, Qan, Qad, Qab, Qbp, Qab, Qab, Qab, ev_isi, if_pos hT, hk]
theorem QeX {i n : Nat} {body : RunS} {s : S} {xs : List W} (hm : s.mu n = some (.lst xs)) (Γ0 : Option W->Ga) (hset : ∀ x y, (Γ0 x).set i (some y) = Γ0 (some y)) (hb : ∀ x ∈ xs, body (Γ0 (some x)) s = .ok (.nx (Γ0 (some x))) s) :
  ∀ (f k : Nat) (x : Option W), k<=xs.length->xs.length - k < f->∃ y, Qcg i body n f k (Γ0 x) s = .ok (.nx (Γ0 y)) s
 | 0, k, x, _, h => absurd h (Nat.not_lt_zero _)
 | f + 1, k, x, hk, h => by
  unfold Qcg
  rw [hm]
  dsimp only
  cases e : xs[k]? with
  | none => exact ⟨x, rfl⟩
  | some w =>
   have lt : k < xs.length := (List.getElem?_eq_some_iff.mp e).1
   dsimp only
   rw [hset, hb w (List.mem_of_getElem? e)]
   exact QeX hm Γ0 hset hb f (k + 1) (some w) lt (by omega)
noncomputable def lwB : RunS := (sSeq (sIf (Qbu (Qbz (runN (Qaa (rVar 5) (Qaa (rCon (.ty "tuple")) Qac)) Qdk)) (Qbz (runN (Qaa (run2 (rVar 5) (rCon (W.int 2)) Qae) (Qaa (rCon (.ty "bool")) Qac)) Qdk)))
  (sSeq (sRet (rCon (W.bl false)))
 Qaq)
  Qaq)
 Qaq)
theorem law_true (ns : List Int) (hns : ns.length<=63) : ∃ st', op_law [.lst (ns.map W.int)] st0 = .ok (.bl true) st' := by
 obtain ⟨ws, os, hR, lw, dR, er⟩ := rules_ok ns hns st0
 obtain ⟨ls, hs⟩ := srt_ex hR.pr
 have lo := hR.len
 have ll := hs.len
 have ed := due_ok hR (by omega) hs st0
 have ef := leans_ok hR (by omega) hs
 have hD : ∀ x ∈ ls.map (outW os), Dat 1 x := fun x hx => by
  obtain ⟨k, hk, rfl⟩ := List.mem_map.mp hx
  exact QfQ (hs.mem k hk).2
 have h3 : ∀ x ∈ ls.map (outW os), ∃ a b c, x = .tup [.str a, .str b, .bl c] := fun x hx => by
  obtain ⟨k, hk, rfl⟩ := List.mem_map.mp hx
  obtain ⟨a, b, rfl⟩ := QdN (hs.mem k hk).2
  exact ⟨a, b, _, rfl⟩
 have lout : (ls.map (outW os)).length<=100 := by rw [Qkz]; omega
 generalize ls.map (outW os) = out at ed ef hD h3 lout
 generalize e1 : st0.new (.lst out) = s1 at *
 have f0 := ef st0
 rw [e1] at f0
 have m1 : s1.mu st0.nxt = some (.lst out) := by rw [<-e1]; exact QbO _ _
 have k1 : Qch s1 (.ref st0.nxt) = some "list" := by
  show MO.kind (s1.mu st0.nxt) = _
  rw [m1]; rfl
 have el : ∀ Γ : Ga, runN (Qaa (rVar 1) Qac) (QeW false) (some (.lst (ns.map W.int)) :: some (.lst ws) :: Γ) st0 = .ok (.lst ws) st0 := fun Γ => (QeR (QaU _ _)).trans (Qds ws (Qaw (by omega)))
 have c1 : Qbu (Qbz (runN (Qaa (rVar 4) (Qaa (rCon (.ty "list")) Qac)) Qdk)) (Qbu (run2 (rVar 4) (rVar 3) opNe) (run2 (rVar 2) (rVar 1) opNe)) [some (.lst (ns.map W.int)), some (.lst ws), some (.lst ws), some (.lst out), some (.ref st0.nxt), none] s1 = .ok (.bl false) s1 := by
  rw [QhQ, QjE, Qgf (Qcl _ _ _ _ _) k1 (by decide), Qab, Qge, Qab, QaK, if_neg (by decide), QhQ, Qah, Qcl, Qab, QcL, Qab, ne_live m1 hD (by decide), Qab, QaK, if_neg Qkr, Qah, QbV, Qab, QaU, Qab, ne_self dR (by decide)]
 obtain ⟨y, eL⟩ := QeX (i := 5) (n := st0.nxt) (body := lwB) (s := s1) m1 (fun x => [some (.lst (ns.map W.int)), some (.lst ws), some (.lst ws), some (.lst out), some (.ref st0.nxt), x]) (fun x y => rfl) (fun x hx => by
  obtain ⟨a, b, c, rfl⟩ := h3 x hx
  have i2 : run2 (rVar 5) (rCon (W.int 2)) Qae [some (.lst (ns.map W.int)), some (.lst ws), some (.lst ws), some (.lst out), some (.ref st0.nxt), some (.tup [.str a, .str b, .bl c])] s1 = .ok (.bl c) s1 := by
   rw [Qah, QjB, Qab, Qad, Qab]; exact idx2T _ _ _ _
  unfold lwB
  rw [Qai, Qcm, QhQ, QjE, Qgf (QjB _ _ _ _ _ _) (show Qch s1 (.tup [.str a, .str b, .bl c]) = some "tuple" from rfl) (by decide), Qab, Qge, Qab, QaK, if_neg (by decide), QjE, Qgf i2 (show Qch s1 (.bl c) = some "bool" from rfl) (by decide), Qab, Qge, Qab, QaK, if_neg (by decide), Qax, Qab, Qaf, Qax]) 4096 0 none (Nat.zero_le _) (by omega)
 have sl : Qhw 5 (rVar 4) lwB [some (.lst (ns.map W.int)), some (.lst ws), some (.lst ws), some (.lst out), some (.ref st0.nxt), none] s1 = .ok (.nx [some (.lst (ns.map W.int)), some (.lst ws), some (.lst ws), some (.lst out), some (.ref st0.nxt), y]) s1 := by
  unfold Qhw
  rw [Qcl, Qab]
  exact eL
 have ap : runM "list" (rVar 4) (Qaa (runN (Qaa (rCon (W.str "a")) (Qaa (rCon (W.str "b")) (Qaa (rCon (W.bl true)) Qac))) Qap) Qac) Qat [some (.lst (ns.map W.int)), some (.lst ws), some (.lst ws), some (.lst out), some (.ref st0.nxt), y] s1 = .ok .non (st0.new (.lst (out ++ [.tup [.str "a", .str "b", .bl true]]))) := by
  rw [<-e1]
  exact QcA (Qcl _ _ _ _ _) (tup3 (Qad _) (Qad _) (Qad _)) (by omega)
 generalize st0.new (.lst (out ++ [.tup [.str "a", .str "b", .bl true]])) = s2 at ap
 have fin : run2 (runN (Qaa (rVar 2) Qac) (Qav QaQ)) (rVar 3) opEq [some (.lst (ns.map W.int)), some (.lst ws), some (.lst ws), some (.lst out), some (.ref st0.nxt), y] s2 = .ok (.bl true) (s2.new (.lst out)) := by
  rw [Qah, Qhg (QbV _ _ _) (ef s2), Qab, QcL, Qab]
  exact eq_live (QbO _ _) hD (by decide)
 refine ⟨s2.new (.lst out), ?_⟩
 unfold lwB at sl
 unfold op_law
 rw [QgX]
 unfold r_law
 rw [show List.replicate (6 - 1) (none : Option W) = [none, none, none, none, none] from rfl, Qai, QaX, Qhg (Qbi _) er, Qab, ks1, Qab, Qaf, Qai, QaX, el, Qab, ks2, Qab, Qaf, Qai, QaX, Qhg (QaU _ _) ed, Qab, ks3, Qab, Qaf, Qai, QaX, Qhg (QbV _ _ _) f0, Qab, ks4, Qab, Qaf,
  Qai, Qcm, c1, Qab, QaK, if_neg Qkr, Qax, Qab, Qaf, Qai, sl, Qab, Qaf, Qai, Qdv, ap, Qab, Qab, Qaf, QgG fin, ev_rt]
end DL.My
open PySem PySem.W PyProof.Rows
set_option maxRecDepth 100000 in
set_option maxHeartbeats 0 in
theorem PySem.Challenge.cw_whyfacts_k06_leans_holds : PySem.Challenge.rw_whyfacts_k06_leans.Holds := by
 w_on; o_law; k_head; (case hw => w_witness2)
 k_fill
 refine DL.walkD (l := PySem.Challenge.rw_whyfacts_k06_leans) (op := DL.My.op_law) (k := 12) (x := "_law_script") rfl rfl ⟨rfl, by decide, by decide⟩ (fun w h Y => PySem.W.kIn_of Y) DL.My.law_true ?F
 case F =>
  intro w mg fa h KX G hmg
  refine' DL.My.all_mk KX G hmg ?k1_PATTERN_PARTS ?k2_PATTERN_PARTS ?b_bool ?b_isinstance ?b_len ?b_list ?b_range ?b_set ?b_sorted ?b_tuple ?d_is_strict ?d_leans_of ?d_l_of ?d_l_names ?d_l_part ?d_l_rule ?d_l_rules ?d_l_due ?d_law
  (case k1_PATTERN_PARTS => k_is)
  (case k2_PATTERN_PARTS => k_is)
  (case b_bool => k_is)
  (case b_isinstance => k_is)
  (case b_len => k_is)
  (case b_list => k_is)
  (case b_range => k_is)
  (case b_set => k_is)
  (case b_sorted => k_is)
  (case b_tuple => k_is)
  (case d_is_strict => refine' DL.DIn.mk' ?z1a ?z1b ?z1c ?z1d; (case z1a => k_is); (case z1b => k_is); (case z1c => k_is); (case z1d => k_is))
  (case d_leans_of => refine' DL.DIn.mk' ?z2a ?z2b ?z2c ?z2d; (case z2a => k_is); (case z2b => k_is); (case z2c => k_is); (case z2d => k_is))
  (case d_l_of => refine' DL.DIn.mk' ?z3a ?z3b ?z3c ?z3d; (case z3a => k_is); (case z3b => k_is); (case z3c => k_is); (case z3d => k_is))
  (case d_l_names => refine' DL.DIn.mk' ?z4a ?z4b ?z4c ?z4d; (case z4a => k_is); (case z4b => k_is); (case z4c => k_is); (case z4d => k_is))
  (case d_l_part => refine' DL.DIn.mk' ?z5a ?z5b ?z5c ?z5d; (case z5a => k_is); (case z5b => k_is); (case z5c => k_is); (case z5d => k_is))
  (case d_l_rule => refine' DL.DIn.mk' ?z6a ?z6b ?z6c ?z6d; (case z6a => k_is); (case z6b => k_is); (case z6c => k_is); (case z6d => k_is))
  (case d_l_rules => refine' DL.DIn.mk' ?z7a ?z7b ?z7c ?z7d; (case z7a => k_is); (case z7b => k_is); (case z7c => k_is); (case z7d => k_is))
  (case d_l_due => refine' DL.DIn.mk' ?z8a ?z8b ?z8c ?z8d; (case z8a => k_is); (case z8b => k_is); (case z8c => k_is); (case z8d => k_is))
  (case d_law => refine' DL.DIn.mk' ?z9a ?z9b ?z9c ?z9d; (case z9a => k_is); (case z9b => k_is); (case z9c => k_is); (case z9d => k_is))
