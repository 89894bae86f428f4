import PyProof.Rows.All
import Wide.All
import OpenK.AllK
import Wide.FinOn
import Lean
import PyProof.EqAt
import PyProof.EqKinds
import PyProof.TupleCall
import PySem.Challenge.RW_whyfacts_k18_heights_and_leaves
set_option Elab.async false
set_option linter.all false
set_option maxRecDepth 100000
theorem QnE : type_of% @Bool.false_ne_true := @Bool.false_ne_true
theorem QnF : type_of% @List.getElem?_eq_getElem := @List.getElem?_eq_getElem
theorem QnG : type_of% @PySem.Heap.get?_push_of_some := @PySem.Heap.get?_push_of_some
theorem QnH : type_of% @List.mem_append_right := @List.mem_append_right
theorem QnI : type_of% @List.mem_cons_self := @List.mem_cons_self
theorem QnJ : type_of% @PySem.Heap.lt_size := @PySem.Heap.lt_size
theorem QnK : type_of% @List.size_toArray := @List.size_toArray
theorem QnL : type_of% @Nat.le_refl := @Nat.le_refl
theorem QnM : type_of% @List.length_map := @List.length_map
theorem QnN : type_of% @List.mem_cons_of_mem := @List.mem_cons_of_mem
theorem QnO : type_of% @List.length_append := @List.length_append
theorem QnP : type_of% @Nat.lt_of_lt_of_le := @Nat.lt_of_lt_of_le
theorem QnQ : type_of% @List.getD_eq_getElem?_getD := @List.getD_eq_getElem?_getD
theorem QnR : type_of% @PySem.Heap.get?_push_size := @PySem.Heap.get?_push_size
theorem QnS : type_of% @Nat.ne_of_lt := @Nat.ne_of_lt
theorem QnT : type_of% @List.getElem?_map := @List.getElem?_map
theorem QnU : type_of% @List.length_cons := @List.length_cons
theorem QnV : type_of% @Nat.le_trans := @Nat.le_trans
theorem QnW : type_of% @List.length_singleton := @List.length_singleton
theorem QnX : type_of% @Bool.and_eq_true := @Bool.and_eq_true
theorem QnY : type_of% @Nat.lt_irrefl := @Nat.lt_irrefl
theorem QnZ : type_of% @List.drop_eq_getElem_cons := @List.drop_eq_getElem_cons
theorem Qoa : type_of% @Nat.lt_of_le_of_lt := @Nat.lt_of_le_of_lt
namespace L2
open PySem PySem.Spec PyProof.Rows
abbrev Key := Sum Int Str
def QkA : Key->Value->Bool
 | .inl k, v => Value.isInt k v
 | .inr x, v => Value.isStrOf x v
def keyH (w : World) : Key->Int
 | .inl k => hashInt k
 | .inr x => hashStr w x
theorem keyIs_shape : ∀ {k : Key} {v : Value}, QkA k v = true->(∃ i t, k = Sum.inl i/\v = Value.int i t)\/(∃ x t, k = Sum.inr x/\v = Value.str x t)
 | .inl i, v, h => by
  obtain ⟨t, e⟩ := Value.isInt_shape (k := i) (v := v) h
  exact .inl ⟨i, t, rfl, e⟩
 | .inr x, v, h => by
  obtain ⟨t, e⟩ := Value.isStrOf_shape (x := x) (v := v) h
  exact .inr ⟨x, t, rfl, e⟩
theorem Qmr (i : Int) (t : Tok) : QkA (.inl i) (.int i t) = true := by simp [QkA, Value.isInt]
theorem Qmq (x : Str) (t : Tok) : QkA (.inr x) (.str x t) = true := by simp [QkA, Value.isStrOf]
theorem key_ll (a b : Int) : decide ((Sum.inl a : Key) = Sum.inl b) = (a == b) := by
 by_cases e : a = b
 ·subst e; simp
 ·have h : ¬ (Sum.inl a : Key) = Sum.inl b := fun q => e (Sum.inl.inj q)
  rw [decide_eq_false h]
  exact (beq_eq_false_iff_ne.mpr e).symm
theorem key_rr (a b : Str) : decide ((Sum.inr a : Key) = Sum.inr b) = decide (a = b) := by
 by_cases e : a = b
 ·subst e; simp
 ·have h : ¬ (Sum.inr a : Key) = Sum.inr b := fun q => e (Sum.inr.inj q)
  rw [decide_eq_false h, decide_eq_false e]
theorem key_lr (a : Int) (b : Str) : decide ((Sum.inl a : Key) = Sum.inr b) = false := decide_eq_false (fun q => nomatch q)
theorem key_rl (a : Str) (b : Int) : decide ((Sum.inr a : Key) = Sum.inl b) = false := decide_eq_false (fun q => nomatch q)
def QaU (prog : Program) (w : World) : PySem.KeyKind prog w Key where
 is := QkA
 hash := keyH w
 inj := fun v a b ha hb => by
  rcases keyIs_shape ha with ⟨i, t, rfl, rfl⟩ | ⟨x, t, rfl, rfl⟩
  ·rcases keyIs_shape hb with ⟨j, u, rfl, e⟩ | ⟨y, u, rfl, e⟩
   ·injection e with e1 _; rw [e1]
   ·exact nomatch e
  ·rcases keyIs_shape hb with ⟨j, u, rfl, e⟩ | ⟨y, u, rfl, e⟩
   ·exact nomatch e
   ·injection e with e1 _; rw [e1]
 byValue := fun k v h => by
  rcases keyIs_shape h with ⟨i, t, rfl, rfl⟩ | ⟨x, t, rfl, rfl⟩ <;> rfl
 pyHash := fun hv h => by
  rcases keyIs_shape hv with ⟨i, t, rfl, rfl⟩ | ⟨x, t, rfl, rfl⟩
  ·exact wpAny_pyHash_int h
  ·exact wpAny_pyHash_str h
 eqBool := fun hu hv h => by
  rcases keyIs_shape hu with ⟨i, t, rfl, rfl⟩ | ⟨x, t, rfl, rfl⟩
  ·rcases keyIs_shape hv with ⟨j, u, rfl, rfl⟩ | ⟨y, u, rfl, rfl⟩
   ·rw [key_ll] at h; exact wpAny_eqBool_int h
   ·rw [key_lr] at h; exact SeqAt.EqAt.int_str i t y u _ _ _ _ h
  ·rcases keyIs_shape hv with ⟨j, u, rfl, rfl⟩ | ⟨y, u, rfl, rfl⟩
   ·rw [key_rl] at h; exact SeqAt.EqAt.str_int x t j u _ _ _ _ h
   ·rw [key_rr] at h; exact wpAny_eqBool_str h
 «strs» := fun k x t v h => by
  rcases keyIs_shape h with ⟨i, u, rfl, e⟩ | ⟨y, u, rfl, e⟩
  ·exact nomatch e
  ·injection e with e1 _
   subst e1
   cases v <;> rfl
theorem QiR (prog : Program) (w : World) (i : Int) (t : Tok) : (QaU prog w).is (.inl i) (.int i t) = true := Qmr i t
theorem QiQ (prog : Program) (w : World) (x : Str) (t : Tok) : (QaU prog w).is (.inr x) (.str x t) = true := Qmq x t
end L2
namespace L2
open PySem PySem.Spec PyProof.Rows
inductive V where
 | non | bl (b : Bool) | int (i : Int) | str (x : Str) | byt (b : Array UInt8) | flt (b : UInt64) | ref (a : Addr) | ty (n : String)
 deriving DecidableEq
def RelV : V->Value->Prop
 | .non, u => u = Value.none
 | .bl b, u => u = Value.bool b
 | .int i, u => ∃ t, u = Value.int i t
 | .str x, u => ∃ t, u = Value.str x t
 | .byt b, u => ∃ t, u = Value.bytes b t
 | .flt b, u => ∃ t, u = Value.float b t
 | .ref a, u => u = Value.ref a
 | .ty n, u => u = Value.type n
abbrev Vals : List V->List Value->Prop := Paired RelV
theorem Vals.length {xs : List V} {us : List Value} (r : Vals xs us) : xs.length = us.length := Paired.length r
theorem Vals.get : ∀ {xs : List V} {us : List Value} {i : Nat} {x : V}, Vals xs us->xs[i]? = some x->∃ u, us[i]? = some u/\RelV x u
 | _, _, _, _, .nil, e => by simp at e
 | _, _, 0, _, .cons r _, e => by simp at e; subst e; exact ⟨_, rfl, r⟩
 | _, _, i + 1, x, .cons _ t, e => by
  obtain ⟨u, h1, h2⟩ := Vals.get (i := i) (x := x) t (by simpa using e)
  exact ⟨u, by simpa using h1, h2⟩
theorem Vals.set {x : V} {u : Value} (r : RelV x u) : ∀ {xs : List V} {us : List Value} (i : Nat), Vals xs us->Vals (xs.set i x) (us.set i u)
 | _, _, _, .nil => .nil
 | _, _, 0, .cons _ t => .cons r t
 | _, _, i + 1, .cons q t => .cons q (Vals.set r i t)
theorem Vals.append : ∀ {xs ys : List V} {us ws : List Value}, Vals xs us->Vals ys ws->Vals (xs ++ ys) (us ++ ws)
 | _, _, _, _, .nil, s => s
 | _, _, _, _, .cons r t, s => .cons r (Vals.append t s)
theorem Vals.take : ∀ {xs : List V} {us : List Value} (n : Nat), Vals xs us->Vals (xs.take n) (us.take n)
 | _, _, 0, _ => .nil
 | _, _, _ + 1, .nil => .nil
 | _, _, n + 1, .cons r t => .cons r (Vals.take n t)
theorem Vals.drop : ∀ {xs : List V} {us : List Value} (n : Nat), Vals xs us->Vals (xs.drop n) (us.drop n)
 | _, _, 0, r => r
 | _, _, _ + 1, .nil => .nil
 | _, _, n + 1, .cons _ t => Vals.drop n t
def RelO : Option V->Option Value->Prop
 | some v, some u => RelV v u
 | none, none => True
 | _, _ => False
def KV {κ : Type} : List (κ × V)->List (κ × Value)->Prop := Paired fun (p : κ × V) (q : κ × Value) => p.1 = q.1/\RelV p.2 q.2
def kV : Key->V
 | .inl i => .int i
 | .inr x => .str x
inductive HO where
 | lst (xs : List V)
 | tup (xs : List V)
 | dK (kvs : List (Key × V)) | dT (kvs : List (List Key × V))
 | set (S : Int->Bool) (n : Nat)
 | ins (C dx : Addr) (fs : List (Str × V))
 | own (x : Addr)
 | xd (fs : List (Str × V))
 | met (f x : Addr)
 | rng (lo hi : Int)
 | frz (o : Obj) (u : HO)
 | tbl (ps : Array Value)
 | ext (φ : Heap->Prop)
abbrev Hp := Addr->Option HO
def upd (H : Hp) (a : Addr) (o : HO) : Hp := fun b => if b = a then some o else H b
theorem QaA {H : Hp} {a : Addr} {o : HO} : upd H a o a = some o := by unfold upd; rw [if_pos rfl]
theorem Qan {H : Hp} {a b : Addr} {o : HO} (h : b ≠ a) : upd H a o b = H b := by unfold upd; rw [if_neg h]
theorem ne_of {H : Hp} {a b : Addr} {o u : HO} (h : H a = some o) (h' : H b = some u) (d : o ≠ u) : a ≠ b := by
 intro e; subst e; rw [h] at h'; exact d (Option.some.inj h')
theorem Qar {H : Hp} {a b : Addr} {o : HO} (h : H a = some o) (h' : H b = none) : a ≠ b := by
 intro e; subst e; rw [h] at h'; cases h'
section
variable (P : Program) (w : World)
def Qbr (H : Hp) (h : Heap) (a : Addr) : HO->Prop
 | .lst xs => xs.length<=sizeLine/\∃ (its : List Value) (n : Nat), Vals xs its/\h.get? a = some { cls := .type "list", data := .seq its.toArray n }
 | .tup xs => xs.length<=sizeLine/\∃ its : List Value, Vals xs its/\IsTup h a its.toArray
 | .dK kvs => kvs.length<=sizeLine/\(a == sysModules) = false/\∃ vs, KV kvs vs/\h.DictOf (QaU P w) a vs
 | .dT kvs => kvs.length<=sizeLine/\(a == sysModules) = false/\∃ xs : List (List Key × Addr × Value),
   Paired (fun (p : List Key × V) (q : List Key × Addr × Value) => p.1 = q.1/\H q.2.1 = some (.tup (p.1.map kV))/\RelV p.2 q.2.2) kvs xs /\
   ∃ o es ep, h.get? a = some o/\o.ExactDict/\o.data = .dict es ep/\es.toList = xs.map (entryOfKey (tupleKind (QaU P w)))/\(xs.map (·.1)).Nodup
 | .set S n => h.SetOf (intKind P w) a S n
 | .ins C dx fs => H dx = some (.own a)/\fs.length<=1000/\dx ≠ a/\h.get? a = some (PySem.W.instObj C dx) /\
   ∃ mA, h.Ns1 dx mA/\(∀ f, RelO (fs.lookup f) (mA f))/\PySem.Within mA (fs.map (·.1))
 | .own _ => ∃ o, h.get? a = some o
 | .xd fs => ∃ mA, h.Ns1 a mA/\∀ f, RelO (fs.lookup f) (mA f)
 | .rng lo hi => ∃ t u v, h.get? a = some { cls := .type "range", data := .fields #[.int lo t, .int hi u, .int 1 v] }
 | .frz o u => h.get? a = some o/\Qbr H h a u
 | .tbl ps => h.get? a = some { cls := .none, data := .fields ps }
 | .met f x => h.get? a = some (PySem.W.methodObj (.ref f) (.ref x))
 | .ext φ => φ h/\(∃ o, h.get? a = some o)/\∀ h1 h2 : Heap, φ h1->(∀ o, h1.get? a = some o->h2.get? a = some o)->φ h2
def HOk (H : Hp) (h : Heap) : Prop := ∀ a o, H a = some o->Qbr P w H h a o
end
section
variable {P : Program} {w : World} {H H' : Hp} {h h' : Heap} {a : Addr} {o : HO}
theorem Qbr.lt (x : Qbr P w H h a o) : a < h.objs.size := by
 cases o with
 | lst xs => obtain ⟨_, _, _, _, e⟩ := x; exact QnJ e
 | tup xs => obtain ⟨_, _, _, p⟩ := x; exact p.lt
 | dK kvs => obtain ⟨_, _, _, _, o, _, _, e, _⟩ := x; exact QnJ e
 | dT kvs => obtain ⟨_, _, _, _, o, _, _, e, _⟩ := x; exact QnJ e
 | set S n => obtain ⟨o, _, _, _, e, _⟩ := x; exact QnJ e
 | ins C dx fs => obtain ⟨_, _, _, e, _⟩ := x; exact QnJ e
 | own y => obtain ⟨_, e⟩ := x; exact QnJ e
 | xd fs => obtain ⟨_, ⟨_, _, _, e, _⟩, _⟩ := x; exact QnJ e
 | rng lo hi => obtain ⟨_, _, _, e⟩ := x; exact QnJ e
 | frz ob u => obtain ⟨e, _⟩ := x; exact QnJ e
 | tbl ps => exact QnJ (show h.get? a = some _ from x)
 | met f y => exact QnJ (show h.get? a = some _ from x)
 | ext φ => obtain ⟨_, ⟨_, e⟩, _⟩ := x; exact QnJ e
theorem Paired.mapP {α β : Type} {F G : α->β->Prop} : ∀ {l₁ : List α} {l₂ : List β}, Paired F l₁ l₂->(∀ a b, F a b->G a b)->Paired G l₁ l₂
 | _, _, .nil, _ => .nil
 | _, _, .cons r t, f => .cons (f _ _ r) (Paired.mapP t f)
theorem Qbr.stay (x : Qbr P w H h a o) (k : ∀ b u, (b = a\/H b = some (.own a))->h.get? b = some u->h'.get? b = some u)
  (ho : ∀ b, H b = some (.own a)->H' b = some (.own a)) (ht : ∀ b xs, H b = some (.tup xs)->H' b = some (.tup xs)) : Qbr P w H' h' a o := by
 induction o with
 | lst xs => obtain ⟨z, its, n, r, e⟩ := x; exact ⟨z, its, n, r, k _ _ (.inl rfl) e⟩
 | tup xs => obtain ⟨z, its, r, ob, e, c⟩ := x; exact ⟨z, its, r, ob, k _ _ (.inl rfl) e, c⟩
 | dK kvs => obtain ⟨z, y, vs, r, ob, es, ep, e, c⟩ := x; exact ⟨z, y, vs, r, ob, es, ep, k _ _ (.inl rfl) e, c⟩
 | dT kvs =>
  obtain ⟨z, y, xs, r, ob, es, ep, e, c⟩ := x
  exact ⟨z, y, xs, Paired.mapP r fun p q z => ⟨z.1, ht _ _ z.2.1, z.2.2⟩, ob, es, ep, k _ _ (.inl rfl) e, c⟩
 | set S n => obtain ⟨ob, es, ep, t, e, c⟩ := x; exact ⟨ob, es, ep, t, k _ _ (.inl rfl) e, c⟩
 | ins C dx fs =>
  obtain ⟨d, z, ne, e, mA, ⟨od, es, ep, e2, c⟩, r⟩ := x
  exact ⟨ho _ d, z, ne, k _ _ (.inl rfl) e, mA, ⟨od, es, ep, k _ _ (.inr d) e2, c⟩, r⟩
 | own y => obtain ⟨ob, e⟩ := x; exact ⟨ob, k _ _ (.inl rfl) e⟩
 | xd fs => obtain ⟨mA, ⟨od, es, ep, e, c⟩, r⟩ := x; exact ⟨mA, ⟨od, es, ep, k _ _ (.inl rfl) e, c⟩, r⟩
 | rng lo hi => obtain ⟨t, u, v, e⟩ := x; exact ⟨t, u, v, k _ _ (.inl rfl) e⟩
 | frz ob u ih => obtain ⟨e, q⟩ := x; exact ⟨k _ _ (.inl rfl) e, ih q⟩
 | tbl ps =>
  have e : h.get? a = some { cls := .none, data := .fields ps } := x
  show h'.get? a = some { cls := .none, data := .fields ps }
  exact k a _ (.inl rfl) e
 | met f y =>
  have e : h.get? a = some (PySem.W.methodObj (.ref f) (.ref y)) := x
  show h'.get? a = some (PySem.W.methodObj (.ref f) (.ref y))
  exact k a _ (.inl rfl) e
 | ext φ => obtain ⟨p, ⟨o, e⟩, st⟩ := x; exact ⟨st _ _ p fun o q => k _ _ (.inl rfl) q, ⟨o, k _ _ (.inl rfl) e⟩, st⟩
theorem HOk.lt (x : HOk P w H h) (e : H a = some o) : a < h.objs.size := (x a o e).lt
theorem HOk.fresh (x : HOk P w H h) (e : h.objs.size<=a) : H a = none := by
 cases q : H a with
 | none => rfl
 | some u => exact absurd (QnP (x.lt q) e) (QnY _)
theorem HOk.kept (x : HOk P w H h) (k : ∀ b u, h.get? b = some u->h'.get? b = some u) : HOk P w H h' := fun a o e =>
 (x a o e).stay (fun b u _ q => k b u q) (fun _ q => q) fun _ _ q => q
theorem HOk.laid (x : HOk P w H h) (k : ∀ b u, h.get? b = some u->h'.get? b = some u) (hp : h.objs.size<=a) (new : Qbr P w (upd H a o) h' a o) : HOk P w (upd H a o) h' := fun b u e => by
 have hn := x.fresh hp
 by_cases hb : b = a
 ·subst hb; rw [QaA] at e; cases e; exact new
 ·rw [Qan hb] at e
  exact (x b u e).stay (fun c v _ q => k c v q) (fun c q => by rw [Qan (Qar q hn)]; exact q) fun c xs q => by rw [Qan (Qar q hn)]; exact q
end
def Rd (H : Hp) (a : Addr) (u : HO) : Prop := H a = some u\/∃ o, H a = some (.frz o u)
theorem Rd.ok {P : Program} {w : World} {H : Hp} {h : Heap} {a : Addr} {u : HO} (r : Rd H a u) (x : HOk P w H h) : Qbr P w H h a u := by
 rcases r with r | ⟨o, r⟩
 ·exact x a u r
 ·obtain ⟨_, q⟩ := x a _ r
  exact q
def Mut : Option HO->Prop
 | some (.lst _) => True
 | some (.dK _) => True
 | some (.dT _) => True
 | some (.set _ _) => True
 | some (.ins _ _ _) => True
 | some (.ext _) => True
 | _ => False
section
variable {P : Program} {w : World} {H : Hp} {h h' : Heap} {x e : Addr} {o' : HO}
theorem HOk.write (ok : HOk P w H h) (mu : Mut (H x)) (he : e = x\/H e = some (.own x)) (k : ∀ b u, b ≠ e->h.get? b = some u->h'.get? b = some u) (heo : ∃ u, h'.get? e = some u)
  (new : Qbr P w (upd H x o') h' x o') : HOk P w (upd H x o') h' := fun b u q => by
 have nown : ∀ c y, H c = some (.own y)->c ≠ x := fun c y r z => by subst z; rw [r] at mu; exact mu
 have ntup : ∀ c xs, H c = some (.tup xs)->c ≠ x := fun c xs r z => by subst z; rw [r] at mu; exact mu
 by_cases hb : b = x
 ·subst hb; rw [QaA] at q; cases q; exact new
 ·rw [Qan hb] at q
  by_cases hbe : b = e
  ·have q' : H b = some (.own x) := by
    rcases he with z | z
    ·exact absurd (hbe.trans z) hb
    ·rw [hbe]; exact z
   rw [q] at q'; cases q'
   obtain ⟨v, hv⟩ := heo
   exact ⟨v, by rw [hbe]; exact hv⟩
  ·refine (ok b u q).stay (fun c v hc r => k c v ?_ r) (fun c r => by rw [Qan (nown c b r)]; exact r) fun c xs r => by rw [Qan (ntup c xs r)]; exact r
   rcases hc with rfl | hc
   ·exact hbe
   ·rintro rfl
    rcases he with z | z
    ·exact nown c b hc z
    ·rw [hc] at z; cases z; exact hb rfl
end
structure Un (fs ex : List Addr) (H H' : Hp) (h h' : Heap) : Prop where
 keep : ∀ b o, h.get? b = some o->H b = none->b ∉ fs->b ∉ ex->h'.get? b = some o
 slot : ∀ b o, h.get? b = some o->H b = none->b ∈ fs->b ∉ ex->∃ sl, h'.get? b = some { o with slots := sl }
 free : ∀ b o, h.get? b = some o->H b = none->b ∉ ex->H' b = none
 there : ∀ b o, h.get? b = some o->b ∉ ex->∃ o', h'.get? b = some o'
 tups : ∀ b xs, H b = some (.tup xs)->H' b = some (.tup xs)
 frzs : ∀ b o u, H b = some (.frz o u)->H' b = some (.frz o u)
 tbls : ∀ b ps, H b = some (.tbl ps)->∃ more, H' b = some (.tbl (ps ++ more))
section
variable {fs fs' ex ex' : List Addr} {H H1 H2 : Hp} {h h1 h2 h' : Heap} {a x e : Addr} {o : HO}
theorem Un.any (u : Un fs ex H H1 h h1) {b : Addr} {ob : Obj} (q : h.get? b = some ob) (n : H b = none) (hx : b ∉ ex) : ∃ sl, h1.get? b = some { ob with slots := sl } := by
 by_cases hb : b ∈ fs
 ·exact u.slot b ob q n hb hx
 ·exact ⟨ob.slots, u.keep b ob q n hb hx⟩
theorem Un.kept (k : ∀ b u, h.get? b = some u->h'.get? b = some u) : Un fs ex H H h h' :=
 ⟨fun b ob q _ _ _ => k b ob q, fun b ob q _ _ _ => ⟨ob.slots, k b ob q⟩, fun _ _ _ n _ => n, fun b ob q _ => ⟨ob, k b ob q⟩, fun _ _ q => q, fun _ _ _ q => q, fun _ ps q => ⟨#[], by rw [q]; simp⟩⟩
theorem Un.refl : Un fs ex H H h h := Un.kept fun _ _ q => q
theorem Un.laid (k : ∀ b u, h.get? b = some u->h'.get? b = some u) (hp : h.objs.size<=a) (hn : H a = none) : Un fs ex H (upd H a o) h h' where
 keep := fun b u q _ _ _ => k b u q
 slot := fun b u q _ _ _ => ⟨u.slots, k b u q⟩
 free := fun b u q n _ => by rw [Qan (QnS (QnP (QnJ q) hp))]; exact n
 there := fun b u q _ => ⟨u, k b u q⟩
 tups := fun b xs q => by rw [Qan (Qar q hn)]; exact q
 frzs := fun b u xs q => by rw [Qan (Qar q hn)]; exact q
 tbls := fun b ps q => ⟨#[], by rw [Qan (Qar q hn), q]; simp⟩
theorem Un.write (mu : Mut (H x)) (he : e = x\/H e = some (.own x)) (k : ∀ b u, b ≠ e->h.get? b = some u->h'.get? b = some u) (heo : ∃ u, h'.get? e = some u) : Un fs ex H (upd H x o) h h' := by
 have hx : ∀ b, H b = none->b ≠ x := fun b n z => by subst z; rw [n] at mu; exact mu
 have hb : ∀ b, H b = none->b ≠ e := fun b n z => by
  subst z
  rcases he with r | r
  ·exact hx b n r
  ·rw [n] at r; cases r
 have hm : ∀ b u, H b = some u->¬ Mut (some u)->b ≠ x := fun b u q nm z => by subst z; rw [q] at mu; exact nm mu
 refine ⟨fun b u q n _ _ => k b u (hb b n) q, fun b u q n _ _ => ⟨u.slots, k b u (hb b n) q⟩, fun b u q n _ => by rw [Qan (hx b n)]; exact n, fun b u q _ => ?_,
  fun b xs q => by rw [Qan (hm b _ q fun z => z)]; exact q, fun b u xs q => by rw [Qan (hm b _ q fun z => z)]; exact q, fun b ps q => ⟨#[], by rw [Qan (hm b _ q fun z => z), q]; simp⟩⟩
 by_cases hbe : b = e
 ·subst hbe; exact heo
 ·exact ⟨u, k b u hbe q⟩
end
def trk (h : Heap) (H : Hp) : List Addr := (List.range h.objs.size).filter fun a => (H a).isSome
def hidT (h : Heap) (H : Hp) : Heap := PySem.W.hideAll h (trk h H)
theorem QmG (h : Heap) (H : Hp) : (hidT h H).objs.size = h.objs.size := PySem.W.hideAll_size _ _
theorem hidT_get {h : Heap} {H : Hp} {b : Addr} {o : Obj} (e : h.get? b = some o) (n : H b = none) : (hidT h H).get? b = some o :=
 PySem.W.hideAll_get _ e fun hm => by
  have q : (H b).isSome = true := (List.mem_filter.mp hm).2
  rw [n] at q; simp at q
theorem of_hidT {h : Heap} {H : Hp} {b : Addr} {o : Obj} (e : (hidT h H).get? b = some o) : h.get? b = some o/\H b = none := by
 have e' : h.get? b = some o := PySem.W.of_hideAll (trk h H) e
 refine ⟨e', ?_⟩
 cases q : H b with
 | none => rfl
 | some x =>
  have hm : b ∈ trk h H := List.mem_filter.mpr ⟨List.mem_range.mpr (QnJ e'), by simp [q]⟩
  have z : (hidT h H).get? b = none := PySem.W.hideAll_none (trk h H) hm
  rw [z] at e; cases e
def allNews (g h : Heap) (L : Addr) : List (Addr × Obj) := (List.range h.objs.size).filterMap fun a => if a = L\/(g.get? a).isSome = true then none else (h.get? a).map fun o => (a, o)
theorem QbV {g h : Heap} {L a : Addr} {o : Obj} (h1 : a ≠ L) (h2 : g.get? a = none) (h3 : h.get? a = some o) : (a, o) ∈ allNews g h L :=
 List.mem_filterMap.mpr ⟨a, List.mem_range.mpr (QnJ h3), by simp [h1, h2, h3]⟩
theorem QfF {g h : Heap} {L : Addr} {p : Addr × Obj} (hp : p ∈ allNews g h L) : p.1 ≠ L/\g.get? p.1 = none/\h.get? p.1 = some p.2 := by
 obtain ⟨b, _, e⟩ := List.mem_filterMap.mp hp
 split at e
 ·cases e
 ·rename_i hn
  cases q : h.get? b with
  | none => rw [q] at e; simp at e
  | some u =>
   rw [q] at e
   simp only [Option.map_some, Option.some.injEq] at e
   subst e
   refine ⟨fun z => hn (.inl z), ?_, q⟩
   show g.get? b = none
   cases r : g.get? b with
   | none => rfl
   | some v => exact (hn (.inr (by simp [r]))).elim
def rest (g h : Heap) (L d : Addr) : List (Addr × Obj) := (allNews g h L).filter fun p => decide (p.1 ≠ d)
theorem Qgs {g h : Heap} {L d : Addr} : ∀ p ∈ rest g h L d, p.1 ≠ d := fun p hp => of_decide_eq_true (List.mem_filter.mp hp).2
theorem mem_rest {g h : Heap} {L d a : Addr} {o : Obj} (h1 : a ≠ L) (h2 : g.get? a = none) (h3 : h.get? a = some o) (h4 : a ≠ d) : (a, o) ∈ rest g h L d :=
 List.mem_filter.mpr ⟨QbV h1 h2 h3, decide_eq_true h4⟩
theorem QeC {g h : Heap} {L : Addr} : News g L h (allNews g h L) := fun p hp => let ⟨a, b, c⟩ := QfF hp; ⟨c, a, b⟩
theorem QgF {g h : Heap} {L d : Addr} {o : Obj} (h1 : d ≠ L) (h2 : g.get? d = none) (h3 : h.get? d = some o) : News g L h ((d, o) :: rest g h L d) := fun p hp => by
 rcases List.mem_cons.mp hp with rfl | hp
 ·exact ⟨h3, h1, h2⟩
 ·exact QeC p (List.mem_filter.mp hp).1
theorem QcN {g h h' : Heap} {L d : Addr} {m : Str->Option Value} (k : ∀ b o, g.get? b = some o->h.get? b = some o) (F : Fr g L h' m) (N : News g L h' (rest g h L d)) :
  ∀ b o, b ≠ L->b ≠ d->h.get? b = some o->h'.get? b = some o := fun b o h1 h2 e => by
 cases q : g.get? b with
 | some u =>
  have := k b u q
  rw [e] at this; cases this
  exact F.keep b _ q
 | none => exact (N (b, o) (mem_rest h1 q e h2)).1
end L2
namespace L2
open PySem PySem.Spec PyProof.Rows
structure Mod (K : PySem.W.Frag) (mg : Str->Option Value) (base : Heap) : Prop where
 kin : K.In base
 glob : base.Ns mainGlobals mg
 blt : ∃ mb, base.Ns builtinsNs mb/\∀ x : Str, x ≠ "__name__"->mb x = bootBuiltins x
 nolimit : base.NoLimit
structure Cx where
 prog : Program
 w : World
 K : PySem.W.Frag
 mg : Str->Option Value
 base : Heap
 A : Around
 N : List Str
 s₀ : Shared
 H₀ : Hp
 env : Env
 outer : List Env
 stack : List Env
 ex : List Addr
 fn : Str->Bool
 calm : Bool
 pn : List (Addr × Obj)
 xe : Value->Shared->Prop
def frs (l : List Env) : List Addr := l.filterMap (·.frame)
abbrev Cx.fs (X : Cx) : List Addr := frs X.outer
def Vis (sc : Scope) (x : Str) : Prop := sc.names.lookup x = some .local\/sc.names.lookup x = some .cell\/sc.names.lookup x = some .free
def Loc (sc : Scope) (x : Str) : Prop := sc.names.lookup x = some .local\/sc.names.lookup x = some .cell
def Look (env : Env) (h : Heap) (m : Str->Option Value) (x : Str) (u : Value) : Prop :=
 (env.kindOf x = some .local/\m x = some u)\/((env.kindOf x = some .cell\/env.kindOf x = some .free)/\∃ c, env.cells.lookup x = some c/\h.IsCell c (some u))
structure Cx.Ok (X : Cx) : Prop where
 mod : Mod X.K X.mg X.base
 kind : X.env.scope.kind = .function
 glob : X.env.globals = mainGlobals
 blt : X.env.builtins = builtinsNs
 above : X.s₀.heap.objs.size<=X.env.locals
 inj : ∀ x y c, X.env.cells.lookup x = some c->X.env.cells.lookup y = some c->x = y
 has : ∀ x, (X.env.kindOf x = some .cell\/X.env.kindOf x = some .free)->∃ c, X.env.cells.lookup x = some c
 cab : ∀ x c, X.fn x = true->X.env.cells.lookup x = some c->X.s₀.heap.objs.size<=c
 hd : X.calm = true->X.A.handled = none
 frames : X.A.frames = some X.stack
 stk : X.stack = X.outer\/(X.stack = X.env :: X.outer/\X.env.frame = some X.env.locals)
 exf : ∀ b ∈ X.ex, b ≠ X.env.locals/\∀ x c, X.env.cells.lookup x = some c->c ≠ b
 bs : ∀ b o, X.base.get? b = some o->X.s₀.heap.get? b = some o/\X.H₀ b = none
 bsz : X.base.objs.size<=X.s₀.heap.objs.size
 noex : ∀ b o, X.base.get? b = some o->b ∉ X.ex
 exfs : ∀ b ∈ X.ex, b ∉ X.fs
 funs : X.s₀.heap.FunFrames X.base X.outer
 frf : ∀ b ∈ X.fs, X.H₀ b = none
structure Inv (X : Cx) (pins : List (Addr × Obj)) (σ : List (Option V)) (H : Hp) (s : Shared) : Prop where
 ok : X.Ok
 os : s.os = X.s₀.os
 bare : AllBare s.gens
 base : Un X.fs X.ex X.H₀ H X.s₀.heap s.heap
 loc : ∃ m, s.heap.Ns X.env.locals m/\∀ (i : Nat) (x : Str) (v : V), X.N[i]? = some x->σ[i]? = some (some v)->Vis X.env.scope x->∃ u, RelV v u/\Look X.env s.heap m x u
 cell : ∀ x c, X.env.cells.lookup x = some c->∃ v, s.heap.IsCell c v
 free : H X.env.locals = none
 freeC : ∀ x c, X.env.cells.lookup x = some c->H c = none
 pin : ∀ p ∈ X.pn ++ pins, s.heap.get? p.1 = some p.2/\H p.1 = none/\p.1 ≠ X.env.locals/\p.1 ∉ X.fs/\∀ v, p.2.data ≠ .cell v
 hok : HOk X.prog X.w H s.heap
 len : σ.length = X.N.length
section
variable {X : Cx} {pins : List (Addr × Obj)} {σ : List (Option V)} {H H' : Hp} {s : Shared} {h' : Heap}
theorem Cx.Ok.nofr (ok : X.Ok) {b : Addr} {o : Obj} (e : X.base.get? b = some o) : b ∉ X.fs := fun hb => by
 have := (ok.funs.mem hb).1
 rw [e] at this; cases this
theorem Inv.bs (I : Inv X pins σ H s) : ∀ b o, X.base.get? b = some o->s.heap.get? b = some o/\H b = none := fun b o e =>
 ⟨I.base.keep b o (I.ok.bs b o e).1 (I.ok.bs b o e).2 (I.ok.nofr e) (I.ok.noex b o e), I.base.free b o (I.ok.bs b o e).1 (I.ok.bs b o e).2 (I.ok.noex b o e)⟩
theorem Inv.bk (I : Inv X pins σ H s) : ∀ b o, X.base.get? b = some o->s.heap.get? b = some o := fun b o e => (I.bs b o e).1
theorem Inv.mod (I : Inv X pins σ H s) : Mod X.K X.mg X.base := I.ok.mod
theorem Inv.kIn (I : Inv X pins σ H s) : X.K.In s.heap := I.ok.mod.kin.keeps I.bk
theorem Inv.fr (I : Inv X pins σ H s) : ∃ m, Fr X.base X.env.locals s.heap m :=
 let ⟨m, hn, _⟩ := I.loc
 ⟨m, hn, I.bk, QnV I.ok.bsz I.ok.above⟩
theorem Inv.lt (I : Inv X pins σ H s) : X.env.locals < s.heap.objs.size := let ⟨_, hn, _⟩ := I.loc; hn.lt
theorem Inv.sz (I : Inv X pins σ H s) : X.s₀.heap.objs.size<=s.heap.objs.size := QnV I.ok.above (Nat.le_of_lt I.lt)
theorem Inv.nofs (I : Inv X pins σ H s) {a : Addr} (h : s.heap.objs.size<=a) : a ∉ X.fs := fun hb => by
 obtain ⟨_, o, ho, _⟩ := I.ok.funs.mem hb
 exact absurd (QnP (QnJ ho) (QnV I.sz h)) (QnY _)
theorem Inv.cne (I : Inv X pins σ H s) : ∀ x c, X.env.cells.lookup x = some c->c ≠ X.env.locals := fun x c e z => by
 obtain ⟨v, o, ho, hd⟩ := I.cell x c e
 obtain ⟨m, ⟨o', es, ep, ho', hd', _⟩, _⟩ := I.loc
 rw [z, ho'] at ho; cases ho; rw [hd'] at hd; cases hd
theorem Inv.funs (I : Inv X pins σ H s) : s.heap.FunFrames X.base X.outer := by
 have all : ∀ (l : List Env), (∀ b ∈ frs l, b ∈ X.fs)->X.s₀.heap.FunFrames X.base l->s.heap.FunFrames X.base l := by
  intro l
  induction l with
  | nil => intro _ _; trivial
  | cons env r ih =>
   intro hs hl
   obtain ⟨hk, ⟨L, o, hf, hn, ho, hd⟩, hr⟩ := hl
   have hL : L ∈ X.fs := hs L (by unfold frs; rw [List.filterMap_cons, hf]; exact QnI)
   obtain ⟨sl, e⟩ := I.base.slot L o ho (I.ok.frf L hL) hL fun z => I.ok.exfs L z hL
   exact ⟨hk, ⟨L, _, hf, hn, e, hd⟩, ih (fun b hb => hs b (by unfold frs; rw [List.filterMap_cons, hf]; exact QnN _ hb)) hr⟩
 exact all X.outer (fun _ hb => hb) I.ok.funs
theorem Inv.stack (I : Inv X pins σ H s) : s.heap.FunFrames X.base X.stack := by
 rcases I.ok.stk with e | ⟨e, hf⟩
 ·rw [e]; exact I.funs
 ·rw [e]
  obtain ⟨m, hn, _⟩ := I.loc
  refine .cons (by rw [I.ok.kind]; decide) hf hn ?_ I.funs
  exact Heap.get?_none_of_le (QnV I.ok.bsz I.ok.above)
theorem Inv.stkSub (I : Inv X pins σ H s) : ∀ b ∈ frs X.stack, b ∈ X.env.locals :: X.fs := fun b hb => by
 rcases I.ok.stk with e | ⟨e, hf⟩
 ·rw [e] at hb; exact QnN _ hb
 ·rw [e] at hb
  unfold frs at hb
  rw [List.filterMap_cons, hf] at hb
  exact hb
theorem Inv.stkFree (I : Inv X pins σ H s) : ∀ b ∈ frs X.stack, H b = none := fun b hb => by
 rcases List.mem_cons.mp (I.stkSub b hb) with e | hb
 ·rw [e]; exact I.free
 ·obtain ⟨_, o, ho, _⟩ := I.ok.funs.mem hb
  exact I.base.free b o ho (I.ok.frf b hb) fun z => I.ok.exfs b z hb
theorem Inv.step {g' : Array GenState} {t' : Nat} {d' : Drawn} {ch : List Addr} (I : Inv X pins σ H s)
  (hch : ∀ b ∈ ch, (b ∈ X.ex\/X.s₀.heap.objs.size<=b)/\b ≠ X.env.locals/\(∀ x c, X.env.cells.lookup x = some c->c ≠ b)/\∀ p ∈ X.pn ++ pins, p.1 ≠ b)
  (keep : ∀ b o, b ≠ X.env.locals->b ∉ X.fs->b ∉ ch->s.heap.get? b = some o->H b = none->h'.get? b = some o)
  (slot : ∀ b o, b ≠ X.env.locals->b ∈ X.fs->b ∉ ch->s.heap.get? b = some o->H b = none->∃ sl, h'.get? b = some { o with slots := sl }) (free : ∀ b o, b ∉ ch->s.heap.get? b = some o->H b = none->H' b = none)
  (there : ∀ b o, b ∉ ch->s.heap.get? b = some o->∃ o', h'.get? b = some o')
  (tups : ∀ b xs, H b = some (.tup xs)->H' b = some (.tup xs)) (frzs : ∀ b o u, H b = some (.frz o u)->H' b = some (.frz o u)) (tbls : ∀ b ps, H b = some (.tbl ps)->∃ more, H' b = some (.tbl (ps ++ more)))
  (ns : ∀ m, s.heap.Ns X.env.locals m->h'.Ns X.env.locals m) (hok : HOk X.prog X.w H' h') (hg : AllBare g') :
  Inv X pins σ H' { s with heap := h', gens := g', drawn := d', toks := t' } := by
 have neL : ∀ b o, X.s₀.heap.get? b = some o->b ≠ X.env.locals := fun b o e => QnS (QnP (QnJ e) I.ok.above)
 have neC : ∀ b o, X.s₀.heap.get? b = some o->b ∉ X.ex->b ∉ ch := fun b o e hx hb => by
  rcases (hch b hb).1 with z | z
  ·exact hx z
  ·exact absurd (QnP (QnJ e) z) (QnY _)
 have cellK : ∀ x c, X.env.cells.lookup x = some c->∀ v, s.heap.IsCell c v->h'.IsCell c v := fun x c e v ⟨o, ho, hd⟩ => by
  have nch : c ∉ ch := fun z => (hch c z).2.2.1 x c e rfl
  by_cases hc : c ∈ X.fs
  ·obtain ⟨sl, q⟩ := slot c o (I.cne x c e) hc nch ho (I.freeC x c e)
   exact ⟨_, q, hd⟩
  ·exact ⟨o, keep c o (I.cne x c e) hc nch ho (I.freeC x c e), hd⟩
 refine ⟨I.ok, I.os, hg, ⟨fun b o e n hb hx => ?_, fun b o e n hb hx => ?_, fun b o e n hx => ?_, fun b o e hx => ?_, fun b xs e => tups b xs (I.base.tups b xs e), fun b o xs e => frzs b o xs (I.base.frzs b o xs e), fun b ps e => ?_⟩, ?_, fun x c e => ?_, ?_, fun x c e => ?_, fun p hp => ?_, hok, I.len⟩
 ·exact keep b o (neL b o e) hb (neC b o e hx) (I.base.keep b o e n hb hx) (I.base.free b o e n hx)
 ·obtain ⟨sl, e1⟩ := I.base.slot b o e n hb hx
  obtain ⟨sl', e2⟩ := slot b _ (neL b o e) hb (neC b o e hx) e1 (I.base.free b o e n hx)
  exact ⟨sl', e2⟩
 ·obtain ⟨o', e1⟩ := I.base.there b o e hx
  exact free b o' (neC b o e hx) e1 (I.base.free b o e n hx)
 ·obtain ⟨o', e1⟩ := I.base.there b o e hx
  exact there b o' (neC b o e hx) e1
 ·obtain ⟨m1, e1⟩ := I.base.tbls b ps e
  obtain ⟨m2, e2⟩ := tbls b _ e1
  exact ⟨m1 ++ m2, by rw [e2, Array.append_assoc]⟩
 ·obtain ⟨m, hn, hl⟩ := I.loc
  refine ⟨m, ns m hn, fun i x v e1 e2 e3 => ?_⟩
  obtain ⟨u, r, l⟩ := hl i x v e1 e2 e3
  refine ⟨u, r, ?_⟩
  rcases l with l | ⟨k, c, e, z⟩
  ·exact .inl l
  ·exact .inr ⟨k, c, e, cellK x c e _ z⟩
 ·obtain ⟨v, z⟩ := I.cell x c e
  exact ⟨v, cellK x c e v z⟩
 ·obtain ⟨m, ⟨o, _, _, ho, _⟩, _⟩ := I.loc
  exact free _ o (fun z => (hch _ z).2.1 rfl) ho I.free
 ·obtain ⟨v, o, ho, hd⟩ := I.cell x c e
  exact free c o (fun z => (hch c z).2.2.1 x c e rfl) ho (I.freeC x c e)
 ·obtain ⟨e, n, ne, nf, d⟩ := I.pin p hp
  have nch : p.1 ∉ ch := fun z => (hch p.1 z).2.2.2 p hp rfl
  exact ⟨keep p.1 p.2 ne nf nch e n, free p.1 p.2 nch e n, ne, nf, d⟩
theorem Inv.un {t' : Nat} (I : Inv X pins σ H s) (u : Un X.fs [] H H' s.heap h') (hok : HOk X.prog X.w H' h') : Inv X pins σ H' { s with heap := h', toks := t' } := by
 obtain ⟨m, ⟨o, es, ep, ho, r⟩, _⟩ := id I.loc
 obtain ⟨sl, hL⟩ := u.any ho I.free (by simp)
 exact I.step (g' := s.gens) (d' := s.drawn) (ch := []) (fun _ z => nomatch z) (fun b o _ hb _ e n => u.keep b o e n hb (by simp)) (fun b o _ hb _ e n => u.slot b o e n hb (by simp)) (fun b o _ e n => u.free b o e n (by simp)) (fun b o _ e => u.there b o e (by simp)) u.tups u.frzs u.tbls (fun m' hm => by
  obtain ⟨o', es', ep', ho', r'⟩ := hm
  rw [ho] at ho'; cases ho'
  exact ⟨_, es', ep', hL, r'⟩) hok I.bare
theorem Inv.call {g' : Array GenState} {t' : Nat} {d' : Drawn} {ch : List Addr} (I : Inv X pins σ H s) (u : Un (frs X.stack) ch H H' s.heap h') (hok : HOk X.prog X.w H' h') (hg : AllBare g')
  (hch : ∀ b ∈ ch, (b ∈ X.ex\/X.s₀.heap.objs.size<=b)/\b ≠ X.env.locals/\(∀ x c, X.env.cells.lookup x = some c->c ≠ b)/\∀ p ∈ X.pn ++ pins, p.1 ≠ b) :
  Inv X pins σ H' { s with heap := h', gens := g', drawn := d', toks := t' } := by
 obtain ⟨m, ⟨o, es, ep, ho, r⟩, _⟩ := id I.loc
 obtain ⟨sl, hL⟩ := u.any ho I.free fun z => (hch _ z).2.1 rfl
 exact I.step (ch := ch) hch (fun b o hL hb hc e n => u.keep b o e n (fun z => (List.mem_cons.mp (I.stkSub b z)).elim hL hb) hc) (fun b o _ _ hc e n => u.any e n hc) (fun b o hc e n => u.free b o e n hc) (fun b o hc e => u.there b o e hc) u.tups u.frzs u.tbls (fun m' hm => by
  obtain ⟨o', es', ep', ho', r'⟩ := hm
  rw [ho] at ho'; cases ho'
  exact ⟨_, es', ep', hL, r'⟩) hok hg
theorem Inv.turned {t' : Nat} {it : Addr} (I : Inv X pins σ H s) (k : ∀ b o, b ≠ it->s.heap.get? b = some o->h'.get? b = some o) (hn : H it = none) (hL : it ≠ X.env.locals)
  (h1 : it ∈ X.ex\/X.s₀.heap.objs.size<=it) (h2 : ∀ x c, X.env.cells.lookup x = some c->c ≠ it) (h3 : ∀ p ∈ X.pn ++ pins, p.1 ≠ it) : Inv X pins σ H { s with heap := h', toks := t' } := by
 have nit : ∀ b u, H b = some u->b ≠ it := fun b u e z => by rw [z, hn] at e; cases e
 refine I.step (g' := s.gens) (d' := s.drawn) (ch := [it]) (fun b hb => ?_) (fun b o _ _ hc e _ => k b o (fun z => hc (by simp [z])) e) (fun b o _ _ hc e _ => ⟨o.slots, k b o (fun z => hc (by simp [z])) e⟩) (fun _ _ _ _ n => n)
  (fun b o hc e => ⟨o, k b o (fun z => hc (by simp [z])) e⟩) (fun _ _ e => e) (fun _ _ _ e => e) (fun b ps e => ⟨#[], by rw [e]; simp⟩) (fun m hm => ?_) (fun b u e => ?_) I.bare
 ·have e : b = it := by simpa using hb
  subst e
  exact ⟨h1, hL, h2, h3⟩
 ·obtain ⟨o, es, ep, ho, r⟩ := hm
  exact ⟨o, es, ep, k _ o (Ne.symm hL) ho, r⟩
 ·refine (I.hok b u e).stay (fun c v hc q => k c v ?_ q) (fun _ q => q) fun _ _ q => q
  rcases hc with z | z
  ·rw [z]; exact nit b u e
  ·exact nit c _ z
theorem Inv.tok (I : Inv X pins σ H s) (t : Nat) : Inv X pins σ H { s with toks := t } := I.un (h' := s.heap) (t' := t) Un.refl I.hok
theorem Inv.kept {t' : Nat} (I : Inv X pins σ H s) (k : ∀ b u, s.heap.get? b = some u->h'.get? b = some u) : Inv X pins σ H { s with heap := h', toks := t' } := I.un (Un.kept k) (I.hok.kept k)
theorem Inv.laid {a : Addr} {o : HO} {t' : Nat} (I : Inv X pins σ H s) (k : ∀ b u, s.heap.get? b = some u->h'.get? b = some u) (hp : s.heap.objs.size<=a) (new : Qbr X.prog X.w (upd H a o) h' a o) :
  Inv X pins σ (upd H a o) { s with heap := h', toks := t' } := I.un (Un.laid k hp (I.hok.fresh hp)) (I.hok.laid k hp new)
theorem Inv.write {x e : Addr} {o : HO} {t' : Nat} (I : Inv X pins σ H s) (mu : Mut (H x)) (he : e = x\/H e = some (.own x)) (k : ∀ b u, b ≠ e->s.heap.get? b = some u->h'.get? b = some u) (heo : ∃ u, h'.get? e = some u)
  (new : Qbr X.prog X.w (upd H x o) h' x o) : Inv X pins σ (upd H x o) { s with heap := h', toks := t' } := I.un (Un.write mu he k heo) (I.hok.write mu he k heo new)
theorem Inv.pins_of {pins' : List (Addr × Obj)} (I : Inv X pins σ H s) (h : ∀ p ∈ pins', s.heap.get? p.1 = some p.2/\H p.1 = none/\p.1 ≠ X.env.locals/\p.1 ∉ X.fs/\∀ v, p.2.data ≠ .cell v) : Inv X pins' σ H s :=
 ⟨I.ok, I.os, I.bare, I.base, I.loc, I.cell, I.free, I.freeC, fun p hp => (List.mem_append.mp hp).elim (fun z => I.pin p (List.mem_append_left _ z)) (h p), I.hok, I.len⟩
theorem QjG {N : List Str} (hN : N.Nodup) {i j : Nat} {x : Str} (a : N[i]? = some x) (b : N[j]? = some x) : i = j := by
 obtain ⟨h1, e1⟩ := List.getElem?_eq_some_iff.mp a
 obtain ⟨h2, e2⟩ := List.getElem?_eq_some_iff.mp b
 exact (List.getElem_inj hN).mp (e1.trans e2.symm)
theorem Qlg {M : Model} {A : Around} {E : Value->Shared->Prop} {i : Nat} {x : Str} {v : V} {u : Value} {Q : Unit->Shared->Prop} (I : Inv X pins σ H s) (hN : X.N.Nodup) (hi : X.N[i]? = some x) (hx : Loc X.env.scope x) (r : RelV v u)
  (h : ∀ s', Inv X pins (σ.set i (some v)) H s'->(∃ a, Heap.SameBut a s.heap s'.heap/\(a = X.env.locals\/X.env.cells.lookup x = some a))->Q () s') (hf : X.fn x = true\/X.env.scope.names.lookup x = some .local := by first | exact .inl rfl | exact .inr rfl | assumption) : wpAny M A (storeName X.env x u) Q E s := by
 obtain ⟨m, hn, hl⟩ := id I.loc
 have hcls : (X.env.scope.kind == .class || (X.env.scope.kind == .module && X.env.locals != X.env.globals)) = false := by rw [I.ok.kind]; rfl
 have hiσ : i < σ.length := by rw [I.len]; exact (List.getElem?_eq_some_iff.mp hi).1
 have cne := I.cne
 have tracked : ∀ {a : Addr} {h' : Heap}, (∃ o, s.heap.get? a = some o/\H a = none)->Heap.SameBut a s.heap h'->HOk X.prog X.w H h' := fun {a h'} ha hs b ob e => by
  obtain ⟨_, _, hfree⟩ := ha
  refine (I.hok b ob e).stay (fun c w' hc q => (hs.2 c ?_).trans q) (fun _ q => q) fun _ _ q => q
  rintro rfl
  rcases hc with rfl | hc
  ·rw [hfree] at e; cases e
  ·rw [hfree] at hc; cases hc
 rcases hx with hk | hk
 ·refine wpAny_storeName_local hk hn (fun h' hn' hs => ?_) hcls
  obtain ⟨oL, _, _, hoL, _⟩ := id hn
  refine h _ ⟨I.ok, I.os, I.bare, ⟨fun b o e n hb hx => ?_, fun b o e n hb hx => ?_, I.base.free, fun b o e hx => ?_, I.base.tups, I.base.frzs, I.base.tbls⟩, ⟨_, hn', fun j y v' e1 e2 e3 => ?_⟩, fun y c e => ?_, I.free, I.freeC, fun p hp => ?_, tracked ⟨oL, hoL, I.free⟩ hs, by simpa using I.len⟩ ⟨_, hs, .inl rfl⟩
  ·exact (hs.2 b (QnS (QnP (QnJ e) I.ok.above))).trans (I.base.keep b o e n hb hx)
  ·obtain ⟨sl, e1⟩ := I.base.slot b o e n hb hx
   exact ⟨sl, (hs.2 b (QnS (QnP (QnJ e) I.ok.above))).trans e1⟩
  ·obtain ⟨o', e1⟩ := I.base.there b o e hx
   exact ⟨o', (hs.2 b (QnS (QnP (QnJ e) I.ok.above))).trans e1⟩
  ·by_cases hj : j = i
   ·subst hj
    rw [hi] at e1; cases e1
    rw [List.getElem?_set_self hiσ] at e2
    cases e2
    exact ⟨u, r, .inl ⟨hk, by simp⟩⟩
   ·rw [List.getElem?_set_ne (Ne.symm hj)] at e2
    obtain ⟨u', r', q⟩ := hl j y v' e1 e2 e3
    refine ⟨u', r', ?_⟩
    rcases q with ⟨k, e⟩ | ⟨k, c, e, z⟩
    ·refine .inl ⟨k, ?_⟩
     have : y ≠ x := fun e => hj (QjG hN e1 (e ▸ hi))
     simp [this, e]
    ·exact .inr ⟨k, c, e, z.sameBut hs (cne y c e)⟩
  ·obtain ⟨w', z⟩ := I.cell y c e
   exact ⟨w', z.sameBut hs (cne y c e)⟩
  ·obtain ⟨e, n, ne, nf, d⟩ := I.pin p hp
   exact ⟨(hs.2 p.1 ne).trans e, n, ne, nf, d⟩
 ·have hfn : X.fn x = true := by
   rcases hf with z | z
   ·exact z
   ·rw [z] at hk; cases hk
  obtain ⟨c, hc⟩ := I.ok.has x (.inl hk)
  obtain ⟨w', z⟩ := I.cell x c hc
  refine wpAny_storeName_cell I.ok.kind hk hc z (fun h' hc' hs => ?_)
  obtain ⟨oc, hoc, hocd⟩ := id z
  refine h { s with heap := h' } ⟨I.ok, I.os, I.bare, ⟨fun b o e n hb hx => ?_, fun b o e n hb hx => ?_, I.base.free, fun b o e hx => ?_, I.base.tups, I.base.frzs, I.base.tbls⟩, ⟨m, hn.sameBut hs (Ne.symm (cne x c hc)), fun j y v' e1 e2 e3 => ?_⟩, fun y c' e => ?_, I.free, I.freeC, fun p hp => ?_, tracked ⟨oc, hoc, I.freeC x c hc⟩ hs, by simpa using I.len⟩ ⟨c, hs, .inr hc⟩
  ·exact (hs.2 b (QnS (QnP (QnJ e) (I.ok.cab x c hfn hc)))).trans (I.base.keep b o e n hb hx)
  ·obtain ⟨sl, e1⟩ := I.base.slot b o e n hb hx
   exact ⟨sl, (hs.2 b (QnS (QnP (QnJ e) (I.ok.cab x c hfn hc)))).trans e1⟩
  ·obtain ⟨o', e1⟩ := I.base.there b o e hx
   exact ⟨o', (hs.2 b (QnS (QnP (QnJ e) (I.ok.cab x c hfn hc)))).trans e1⟩
  ·by_cases hj : j = i
   ·subst hj
    rw [hi] at e1; cases e1
    rw [List.getElem?_set_self hiσ] at e2
    cases e2
    exact ⟨u, r, .inr ⟨.inl hk, c, hc, hc'⟩⟩
   ·rw [List.getElem?_set_ne (Ne.symm hj)] at e2
    obtain ⟨u', r', q⟩ := hl j y v' e1 e2 e3
    refine ⟨u', r', ?_⟩
    rcases q with q | ⟨k, c', e, z'⟩
    ·exact .inl q
    ·refine .inr ⟨k, c', e, z'.sameBut hs ?_⟩
     rintro rfl
     exact hj (QjG hN e1 (I.ok.inj _ _ _ e hc ▸ hi))
  ·by_cases hcc : c' = c
   ·subst hcc; exact ⟨_, hc'⟩
   ·obtain ⟨w2, z2⟩ := I.cell y c' e
    exact ⟨w2, z2.sameBut hs hcc⟩
  ·obtain ⟨e, n, ne, nf, d⟩ := I.pin p hp
   refine ⟨(hs.2 p.1 ?_).trans e, n, ne, nf, d⟩
   intro q
   rw [q, hoc] at e
   have q' : oc = p.2 := Option.some.inj e
   exact d w' (by rw [<-q']; exact hocd)
theorem Qgp {M : Model} {A : Around} {E : Value->Shared->Prop} {i : Nat} {x : Str} {v : V} {u : Value} {Q : Unit->Shared->Prop} (I : Inv X pins σ H s) (hN : X.N.Nodup) (hi : X.N[i]? = some x) (hx : Loc X.env.scope x) (r : RelV v u)
  (h : ∀ s', Inv X pins (σ.set i (some v)) H s'->Q () s') (hf : X.fn x = true\/X.env.scope.names.lookup x = some .local := by first | exact .inl rfl | exact .inr rfl | assumption) : wpAny M A (storeName X.env x u) Q E s :=
 Qlg I hN hi hx r (fun s' I' _ => h s' I') hf
theorem Inv.call' {s' : Shared} {ch : List Addr} (I : Inv X pins σ H s) (ho : s'.os = s.os) (u : Un (frs X.stack) ch H H' s.heap s'.heap) (hok : HOk X.prog X.w H' s'.heap) (hg : AllBare s'.gens)
  (hch : ∀ b ∈ ch, (b ∈ X.ex\/X.s₀.heap.objs.size<=b)/\b ≠ X.env.locals/\(∀ x c, X.env.cells.lookup x = some c->c ≠ b)/\∀ p ∈ X.pn ++ pins, p.1 ≠ b) : Inv X pins σ H' s' := by
 obtain ⟨h', g', d', t', o'⟩ := s'
 have e : o' = s.os := ho
 subst e
 exact I.call (g' := g') (t' := t') (d' := d') u hok hg hch
end
abbrev XK := Value->Option Addr->Hp->Prop
abbrev St := List (Option V)
abbrev VK := V->Hp->Prop
abbrev TE := St->Hp->VK->Prop
abbrev TT := St->Hp->(Bool->Hp->Prop)->Prop
abbrev TA := St->Hp->(List V->Hp->Prop)->Prop
structure Ends where
 nx : St->Hp->Prop
 rt : VK
 bk : St->Hp->Prop := fun _ _ => False
 ct : St->Hp->Prop := fun _ _ => False
abbrev TS := Ends->St->Hp->Prop
def EP (X : Cx) (pins : List (Addr × Obj)) (σ : St) (Q : VK) (u : Value) (s' : Shared) : Prop := ∃ v H', Inv X pins σ H' s'/\RelV v u/\Q v H'
def TP (X : Cx) (pins : List (Addr × Obj)) (σ : St) (Q : Bool->Hp->Prop) (b : Bool) (s' : Shared) : Prop := ∃ H', Inv X pins σ H' s'/\Q b H'
def AP (X : Cx) (pins : List (Addr × Obj)) (σ : St) (Q : List V->Hp->Prop) (us : List Value) (s' : Shared) : Prop := ∃ vs H', Inv X pins σ H' s'/\Vals vs us/\Q vs H'
def SP (X : Cx) (pins : List (Addr × Obj)) (D : Ends) (f : Flow) (s' : Shared) : Prop :=
 match f with
 | .next => ∃ σ' H', Inv X pins σ' H' s'/\D.nx σ' H'
 | .brk => ∃ σ' H', Inv X pins σ' H' s'/\D.bk σ' H'
 | .cont => ∃ σ' H', Inv X pins σ' H' s'/\D.ct σ' H'
 | .ret u => ∃ v σ' H', Inv X pins σ' H' s'/\RelV v u/\D.rt v H'
def PE (X : Cx) (e : Expr) (t : TE) : Prop :=
 ∀ (pins : List (Addr × Obj)) (s : Shared) (σ : St) (H : Hp) (Q : VK), Inv X pins σ H s->t σ H Q->wpAny (model X.prog X.w) X.A (eval e X.env) (EP X pins σ Q) X.xe s
def PT (X : Cx) (e : Expr) (t : TT) : Prop :=
 ∀ (pins : List (Addr × Obj)) (s : Shared) (σ : St) (H : Hp) (Q : Bool->Hp->Prop), Inv X pins σ H s->t σ H Q->wpAny (model X.prog X.w) X.A (isTrue e X.env (eval e X.env)) (TP X pins σ Q) X.xe s
def PW (X : Cx) (e : Expr) (t : TT) : Prop :=
 ∀ (whole : Sem Value) (pins : List (Addr × Obj)) (s : Shared) (σ : St) (H : Hp) (Q : Bool->Hp->Prop), Inv X pins σ H s->t σ H Q->wpAny (model X.prog X.w) X.A (isTrue e X.env whole) (TP X pins σ Q) X.xe s
theorem PW.pt {X : Cx} {e : Expr} {t : TT} (h : PW X e t) : PT X e t := h _
def PA (X : Cx) (es : List Expr) (t : TA) : Prop :=
 ∀ (pos : Pos) (pins : List (Addr × Obj)) (s : Shared) (σ : St) (H : Hp) (Q : List V->Hp->Prop), Inv X pins σ H s->t σ H Q->wpAny (model X.prog X.w) X.A (spliced (backTo pos (starEach es X.env))) (AP X pins σ Q) X.xe s
def PS (X : Cx) (st : Stmt) (t : TS) : Prop :=
 ∀ (pins : List (Addr × Obj)) (s : Shared) (σ : St) (H : Hp) (D : Ends), Inv X pins σ H s->t D σ H->wpAny (model X.prog X.w) X.A (exec st X.env) (SP X pins D) X.xe s
def PSs (X : Cx) (st : List Stmt) (t : TS) : Prop :=
 ∀ (pins : List (Addr × Obj)) (s : Shared) (σ : St) (H : Hp) (D : Ends), Inv X pins σ H s->t D σ H->wpAny (model X.prog X.w) X.A (execs st X.env) (SP X pins D) X.xe s
theorem thn {α : Type} {t : Sem α} {Q Q' : α->Shared->Prop} {M : Model} {A : Around} {E : Value->Shared->Prop} {s : Shared} (h : wpAny M A t Q E s) (hQ : ∀ a s, Q a s->Q' a s) : wpAny M A t Q' E s := wpAny_mono h hQ fun _ _ x => x
end L2
namespace L2
open PySem PySem.Spec PyProof.Rows
section
variable {X : Cx}
def tVar (i : Nat) : TE := fun σ H Q => ∃ v, σ[i]? = some (some v)/\Q v H
def tC (v : V) : TE := fun _ H Q => Q v H
theorem pe_var {i : Nat} {x : Str} {pos : Pos} (hN : X.N[i]? = some x) (hv : Vis X.env.scope x) (hd : (x == ("__debug__" : Str)) = false := by decide) (hcd : (x == ("__classdict__" : Str)) = false := by decide) : PE X (.Name x pos) (tVar i) := by
 intro pins s σ H Q I h
 obtain ⟨v, e, h⟩ := h
 obtain ⟨m, hn, hl⟩ := I.loc
 obtain ⟨u, r, l⟩ := hl i x v hN e hv
 have fin : EP X pins σ Q u s := ⟨v, H, I, r, h⟩
 rcases l with ⟨hk, hm⟩ | ⟨hk, c, hc, hcell⟩
 ·exact wpAny_Name (wpAny_loadName_local I.ok.kind hk hn hm fin) hd
 ·rcases hk with hk | hk
  ·exact wpAny_Name (wpAny_loadName_cell I.ok.kind hk hc hcell fin) hd
  ·exact wpAny_Name (wpAny_loadName_free I.ok.kind hk hc hcell fin hcd) hd
theorem pe_int {i j pos} : PE X (.Constant (.int i) j pos) (tC (.int i)) := fun _ _ _ H _ I h => wpAny_Constant_int ⟨.int i, H, I.tok _, ⟨_, rfl⟩, h⟩
theorem pe_bl {b j pos} : PE X (.Constant (.bool b) j pos) (tC (.bl b)) := fun _ _ _ H _ I h => Constant_bool ⟨.bl b, H, I, rfl, h⟩
theorem pe_non {j pos} : PE X (.Constant .none j pos) (tC .non) := fun _ _ _ H _ I h => Constant_none ⟨.non, H, I, rfl, h⟩
theorem pe_str {x j pos} : PE X (.Constant (.str x) j pos) (tC (.str x)) := fun _ _ _ H _ I h => Calls.Constant_str ⟨.str x, H, I.tok _, ⟨_, rfl⟩, h⟩
def Gl (X : Cx) (x : Str) : Prop := X.env.kindOf x = some .globalImplicit
theorem Qmm {E : Value->Shared->Prop} {pins : List (Addr × Obj)} {s : Shared} {σ : St} {H : Hp} {x : Str} {u : Value} {pos : Pos} {Q : Value->Shared->Prop} (I : Inv X pins σ H s) (hg : Gl X x) (hm : X.mg x = some u) (h : Q u s)
  (hd : (x == ("__debug__" : Str)) = false := by decide) : wpAny (model X.prog X.w) X.A (eval (.Name x pos) X.env) Q E s :=
 Calls.Name_function_global I.ok.kind hg (Calls.loadGlobal_global (by rw [I.ok.glob]; exact I.mod.glob.keeps I.bk) hm h) hd
theorem Qfc {E : Value->Shared->Prop} {pins : List (Addr × Obj)} {s : Shared} {σ : St} {H : Hp} {x : Str} {u : Value} {pos : Pos} {Q : Value->Shared->Prop} (I : Inv X pins σ H s) (hg : Gl X x) (hm : X.mg x = none) (hv : bootBuiltins x = some u) (h : Q u s)
  (hn : x ≠ "__name__" := by decide) (hd : (x == ("__debug__" : Str)) = false := by decide) : wpAny (model X.prog X.w) X.A (eval (.Name x pos) X.env) Q E s := by
 obtain ⟨mb, h1, h2⟩ := I.mod.blt
 exact Calls.Name_function_global I.ok.kind hg (Calls.loadGlobal_builtin (by rw [I.ok.glob]; exact I.mod.glob.keeps I.bk) hm (by rw [I.ok.blt]; exact h1.keeps I.bk) ((h2 x hn).trans hv) h) hd
theorem QlK {x : Str} {v : V} {u : Value} {pos : Pos} (hg : Gl X x) (hm : X.mg x = some u) (r : RelV v u) (hd : (x == ("__debug__" : Str)) = false := by decide) : PE X (.Name x pos) (tC v) :=
 fun _ _ _ H _ I h => Qmm I hg hm ⟨v, H, I, r, h⟩ hd
theorem pe_bltn {x : Str} {v : V} {u : Value} {pos : Pos} (hg : Gl X x) (hm : X.mg x = none) (hv : bootBuiltins x = some u) (r : RelV v u) (hn : x ≠ "__name__" := by decide) (hd : (x == ("__debug__" : Str)) = false := by decide) : PE X (.Name x pos) (tC v) :=
 fun _ _ _ H _ I h => Qfc I hg hm hv ⟨v, H, I, r, h⟩ hn hd
variable {a b : Expr} {ta tb : TE} {pos : Pos}
def tB (t : TE) : TT := fun σ H Q => t σ H fun x H1 => ∃ c, x = .bl c/\Q c H1
theorem pt_val {e : Expr} {t : TE} (h : PE X e t) (he : ∀ whole, isTrue e X.env whole = (do let v <-whole; standAt e.pos; holding [v] (truthy v)) := by intro _; rfl) : PT X e (tB t) := by
 intro pins s σ H Q I hw
 refine isTrue_plain (thn (h pins s σ H _ I hw) fun v s1 ⟨x, H1, I1, r1, q1⟩ => ?_) (he _)
 obtain ⟨d, rfl, q⟩ := q1
 cases r1
 exact wpAny_truthy_bool ⟨H1, I1, q⟩
variable {tA tB' : TT} {rest : List Expr}
def tAnd (t u : TT) : TT := fun σ H Q => t σ H fun c H1 => if c = true then u σ H1 Q else Q false H1
def tOr (t u : TT) : TT := fun σ H Q => t σ H fun c H1 => if c = true then Q true H1 else u σ H1 Q
def tNot (t : TT) : TT := fun σ H Q => t σ H fun c H1 => Q (!c) H1
theorem pw_and1 (ha : PT X a tA) : PW X (.BoolOp .And [a] pos) tA := by
 intro wh pins s σ H Q I h
 refine isTrue_and (thn (ha pins s σ H Q I h) fun c s1 e => ?_)
 cases c with
 | true => exact isTrue_and_nil e
 | false => exact e
theorem pw_or1 (ha : PT X a tA) : PW X (.BoolOp .Or [a] pos) tA := by
 intro wh pins s σ H Q I h
 refine isTrue_or (thn (ha pins s σ H Q I h) fun c s1 e => ?_)
 cases c with
 | false => exact isTrue_or_nil e
 | true => exact e
theorem pw_and (ha : PT X a tA) (hb : PW X (.BoolOp .And (b :: rest) pos) tB') : PW X (.BoolOp .And (a :: b :: rest) pos) (tAnd tA tB') := by
 intro wh pins s σ H Q I h
 refine isTrue_and (thn (ha pins s σ H _ I h) fun c s1 ⟨H1, I1, q1⟩ => ?_)
 cases c with
 | true => exact hb wh pins s1 σ H1 Q I1 q1
 | false => exact ⟨H1, I1, q1⟩
theorem pw_or (ha : PT X a tA) (hb : PW X (.BoolOp .Or (b :: rest) pos) tB') : PW X (.BoolOp .Or (a :: b :: rest) pos) (tOr tA tB') := by
 intro wh pins s σ H Q I h
 refine isTrue_or (thn (ha pins s σ H _ I h) fun c s1 ⟨H1, I1, q1⟩ => ?_)
 cases c with
 | true => exact ⟨H1, I1, q1⟩
 | false => exact hb wh pins s1 σ H1 Q I1 q1
theorem pt_not (ha : PT X a tA) : PT X (.UnaryOp .Not a pos) (tNot tA) := by
 intro pins s σ H Q I h
 exact isTrue_not (ha pins s σ H (fun c H1 => Q (!c) H1) I h)
def tAndV (ta tb : TE) : TE := fun σ H Q => ta σ H fun x H1 => ∃ c, x = .bl c/\if c = true then tb σ H1 Q else Q (.bl false) H1
def tOrV (ta tb : TE) : TE := fun σ H Q => ta σ H fun x H1 => ∃ c, x = .bl c/\if c = true then Q (.bl true) H1 else tb σ H1 Q
def tNotV (ta : TE) : TE := fun σ H Q => ta σ H fun x H1 => ∃ c, x = .bl c/\Q (.bl (!c)) H1
theorem pe_one {op} {t : TE} (h : PE X a t) : PE X (.BoolOp op [a] pos) t := fun pins s σ H Q I hw => BoolOp_one (h pins s σ H Q I hw)
theorem pe_and (ha : PE X a ta) (hb : PE X (.BoolOp .And (b :: rest) pos) tb) : PE X (.BoolOp .And (a :: b :: rest) pos) (tAndV ta tb) := by
 intro pins s σ H Q I h
 refine BoolOp_and (thn (ha pins s σ H _ I h) fun v s1 ⟨x, H1, I1, r1, q1⟩ => ?_)
 obtain ⟨c, rfl, q1⟩ := q1
 cases r1
 refine wpAny_truthy_bool ?_
 cases c with
 | true => exact hb pins s1 σ H1 Q I1 q1
 | false => exact ⟨.bl false, H1, I1, rfl, q1⟩
theorem pe_or (ha : PE X a ta) (hb : PE X (.BoolOp .Or (b :: rest) pos) tb) : PE X (.BoolOp .Or (a :: b :: rest) pos) (tOrV ta tb) := by
 intro pins s σ H Q I h
 refine BoolOp_or (thn (ha pins s σ H _ I h) fun v s1 ⟨x, H1, I1, r1, q1⟩ => ?_)
 obtain ⟨c, rfl, q1⟩ := q1
 cases r1
 refine wpAny_truthy_bool ?_
 cases c with
 | false => exact hb pins s1 σ H1 Q I1 q1
 | true => exact ⟨.bl true, H1, I1, rfl, q1⟩
theorem pe_not (ha : PE X a ta) : PE X (.UnaryOp .Not a pos) (tNotV ta) := by
 intro pins s σ H Q I h
 refine UnaryOp_ (thn (ha pins s σ H _ I h) fun v s1 ⟨x, H1, I1, r1, q1⟩ => ?_)
 obtain ⟨c, rfl, q1⟩ := q1
 cases r1
 exact not_of (wpAny_truthy_bool ⟨.bl (!c), H1, I1, rfl, q1⟩)
def tIf (t : TT) (ta tb : TE) : TE := fun σ H Q => t σ H fun c H1 => if c = true then ta σ H1 Q else tb σ H1 Q
theorem pe_ifExp {c : Expr} (hc : PT X c tA) (ha : PE X a ta) (hb : PE X b tb) : PE X (.IfExp c a b pos) (tIf tA ta tb) := by
 intro pins s σ H Q I h
 refine wpAny_IfExp (thn (hc pins s σ H _ I h) fun d s1 ⟨H1, I1, q1⟩ => ?_)
 cases d with
 | true => exact ha pins s1 σ H1 Q I1 q1
 | false => exact hb pins s1 σ H1 Q I1 q1
end
end L2
namespace L2
open PySem PySem.Spec PyProof.Rows
def SqL (K : PySem.W.Frag) (H : Hp) (a : Addr) (xs : List V) : Prop :=
 Rd H a (.lst xs) ∨
  ∃ (o : Obj) (its : Array Value) (n : Nat), K.lookup a = some o/\o.cls = .type "list"/\o.dict = none/\o.data = .seq its n/\its.size<=sizeLine/\Vals xs its.toList
def SqT (K : PySem.W.Frag) (H : Hp) (a : Addr) (xs : List V) : Prop :=
 Rd H a (.tup xs) ∨
  ∃ (o : Obj) (its : Array Value) (n : Nat), K.lookup a = some o/\o.cls = .type "tuple"/\o.data = .seq its n/\its.size<=sizeLine/\Vals xs its.toList
def absV : Value->Option V
 | .none => some .non
 | .bool b => some (.bl b)
 | .int i _ => some (.int i)
 | .str x _ => some (.str x)
 | .bytes b _ => some (.byt b)
 | .float b _ => some (.flt b)
 | .ref a => some (.ref a)
 | .type n => some (.ty n)
 | _ => none
theorem RelV.abs {x : V} {u : Value} (r : RelV x u) : absV u = some x := by
 cases x with
 | non => cases r; rfl
 | bl _ => cases r; rfl
 | int _ => obtain ⟨t, rfl⟩ := r; rfl
 | str _ => obtain ⟨t, rfl⟩ := r; rfl
 | byt _ => obtain ⟨t, rfl⟩ := r; rfl
 | flt _ => obtain ⟨t, rfl⟩ := r; rfl
 | ref _ => cases r; rfl
 | ty _ => cases r; rfl
theorem RelV.inj {x y : V} {u : Value} (r : RelV x u) (q : RelV y u) : x = y := Option.some.inj (r.abs.symm.trans q.abs)
theorem Vals.inj : ∀ {xs ys : List V} {us : List Value}, Vals xs us->Vals ys us->xs = ys
 | _, _, _, .nil, .nil => rfl
 | _, _, _, .cons r t, .cons r' t' => by rw [r.inj r', Vals.inj t t']
section
variable {X : Cx} {pins : List (Addr × Obj)} {σ : St} {H : Hp} {s : Shared} {a : Addr} {xs ys : List V}
theorem SqL.of {K : PySem.W.Frag} (h : H a = some (.lst xs)) : SqL K H a xs := .inl (.inl h)
theorem Inv.list (I : Inv X pins σ H s) (h : SqL X.K H a xs) : ∃ its : List Value, Vals xs its/\PlainL s.heap a its.toArray/\xs.length<=sizeLine := by
 rcases h with h | ⟨o, its, n, hk, hc, hd, hs, hz, r⟩
 ·obtain ⟨z, its, n, r, e⟩ := h.ok I.hok
  exact ⟨its, r, ⟨_, n, e, rfl, rfl, rfl⟩, z⟩
 ·refine ⟨its.toList, r, ⟨o, n, I.kIn a o hk, hc, hd, by simpa using hs⟩, ?_⟩
  have e := r.length
  simp only [Array.length_toList] at e
  omega
theorem Inv.tuple (I : Inv X pins σ H s) (h : SqT X.K H a xs) : ∃ its : List Value, Vals xs its/\IsTup s.heap a its.toArray/\xs.length<=sizeLine := by
 rcases h with h | ⟨o, its, n, hk, hc, hs, hz, r⟩
 ·obtain ⟨z, its, r, p⟩ := h.ok I.hok
  exact ⟨its, r, p, z⟩
 ·refine ⟨its.toList, r, ⟨o, I.kIn a o hk, hc, n, by simpa using hs⟩, ?_⟩
  have e := r.length
  simp only [Array.length_toList] at e
  omega
theorem Inv.list_inj (I : Inv X pins σ H s) (h : SqL X.K H a xs) (h' : SqL X.K H a ys) : xs = ys := by
 obtain ⟨its, r, ⟨o, n, e, _, _, d⟩, _⟩ := I.list h
 obtain ⟨its', r', ⟨o', n', e', _, _, d'⟩, _⟩ := I.list h'
 rw [e] at e'; cases e'
 rw [d] at d'
 injection d' with d1 _
 have : its = its' := by simpa using congrArg Array.toList d1
 subst this
 exact r.inj r'
theorem Inv.tuple_inj (I : Inv X pins σ H s) (h : SqT X.K H a xs) (h' : SqT X.K H a ys) : xs = ys := by
 obtain ⟨its, r, ⟨o, e, _, n, d⟩, _⟩ := I.tuple h
 obtain ⟨its', r', ⟨o', e', _, n', d'⟩, _⟩ := I.tuple h'
 rw [e] at e'; cases e'
 rw [d] at d'
 injection d' with d1 _
 have : its = its' := by simpa using congrArg Array.toList d1
 subst this
 exact r.inj r'
end
abbrev Cx.wish (X : Cx) (E : Value->Shared->Prop) : Cx := { X with xe := E }
abbrev Cx.nox (X : Cx) : Cx := X.wish fun _ _ => False
theorem Cx.Ok.wish {X : Cx} (ok : X.Ok) (E : Value->Shared->Prop) : (X.wish E).Ok :=
 ⟨ok.mod, ok.kind, ok.glob, ok.blt, ok.above, ok.inj, ok.has, ok.cab, ok.hd, ok.frames, ok.stk, ok.exf, ok.bs, ok.bsz, ok.noex, ok.exfs, ok.funs, ok.frf⟩
theorem Cx.Ok.unwish {X : Cx} {E : Value->Shared->Prop} (ok : (X.wish E).Ok) : X.Ok :=
 ⟨ok.mod, ok.kind, ok.glob, ok.blt, ok.above, ok.inj, ok.has, ok.cab, ok.hd, ok.frames, ok.stk, ok.exf, ok.bs, ok.bsz, ok.noex, ok.exfs, ok.funs, ok.frf⟩
section
variable {X : Cx} {pins : List (Addr × Obj)} {σ : St} {H : Hp} {s : Shared} {E : Value->Shared->Prop}
theorem Inv.wish (I : Inv X pins σ H s) (E : Value->Shared->Prop) : Inv (X.wish E) pins σ H s := ⟨I.ok.wish E, I.os, I.bare, I.base, I.loc, I.cell, I.free, I.freeC, I.pin, I.hok, I.len⟩
theorem Inv.unwish (I : Inv (X.wish E) pins σ H s) : Inv X pins σ H s := ⟨I.ok.unwish, I.os, I.bare, I.base, I.loc, I.cell, I.free, I.freeC, I.pin, I.hok, I.len⟩
theorem SP.unwish {D : Ends} {f : Flow} {s' : Shared} (h : SP (X.wish E) pins D f s') : SP X pins D f s' := by
 cases f with
 | next => obtain ⟨σ', H', I, q⟩ := h; exact ⟨σ', H', I.unwish, q⟩
 | brk => obtain ⟨σ', H', I, q⟩ := h; exact ⟨σ', H', I.unwish, q⟩
 | cont => obtain ⟨σ', H', I, q⟩ := h; exact ⟨σ', H', I.unwish, q⟩
 | ret u => obtain ⟨v, σ', H', I, r, q⟩ := h; exact ⟨v, σ', H', I.unwish, r, q⟩
theorem PSs.nox {st : List Stmt} {t : TS} (h : PSs X.nox st t) : PSs X st t := fun pins s σ H D I hw =>
 wpAny_mono (h pins s σ H D (I.wish _) hw) (fun _ _ q => q.unwish) fun _ _ z => False.elim z
end
section
variable {X : Cx} {st : Stmt} {rest : List Stmt} {t u : TS} {e : Expr} {te : TE} {pos : Pos}
def tNext : TS := fun D σ H => D.nx σ H
def tSeq (t u : TS) : TS := fun D σ H => t { D with nx := u D } σ H
theorem pss_nil : PSs X [] tNext := fun _ _ σ H _ I h => wpAny_execs_nil ⟨σ, H, I, h⟩
theorem pss_cons (h1 : PS X st t) (h2 : PSs X rest u) : PSs X (st :: rest) (tSeq t u) := by
 intro pins s σ H D I h
 refine wpAny_execs_cons (thn (h1 pins s σ H { D with nx := u D } I h) fun f s1 q => ?_)
 cases f with
 | next =>
  obtain ⟨σ', H', I', q⟩ := q
  exact h2 pins s1 σ' H' D I' q
 | ret v => exact q
 | brk => exact q
 | cont => exact q
def tBreak : TS := fun D σ H => D.bk σ H
def tCont : TS := fun D σ H => D.ct σ H
theorem ps_pass : PS X (.Pass pos) tNext := fun _ _ σ H _ I h => wpAny_Pass ⟨σ, H, I, h⟩
theorem ps_break : PS X (.Break pos) tBreak := fun _ _ σ H _ I h => wpAny_Break ⟨σ, H, I, h⟩
theorem QiM : PS X (.Continue pos) tCont := fun _ _ σ H _ I h => wpAny_Continue ⟨σ, H, I, h⟩
theorem Inv.quiet {pins : List (Addr × Obj)} {σ : St} {H : Hp} {s : Shared} (I : Inv X pins σ H s) : interactive X.env = false := by simp [interactive, I.ok.kind]
def tDrop (te : TE) : TS := fun D σ H => te σ H fun _ H1 => D.nx σ H1
theorem ps_expr (he : PE X e te) (hs : swapsWith e none pos.line X.env = pure false := by rfl) : PS X (.Expr e pos) (tDrop te) := by
 intro pins s σ H D I h
 exact wpAny_Expr_any (thn (he pins s σ H _ I h) fun v s1 ⟨x, H1, I1, r1, q1⟩ => ⟨σ, H1, I1, q1⟩) I.quiet hs
def tRet (te : TE) : TS := fun D σ H => te σ H D.rt
theorem ps_ret (he : PE X e te) : PS X (.Return (some e) pos) (tRet te) := by
 intro pins s σ H D I h
 exact wpAny_Return_some (thn (he pins s σ H _ I h) fun v s1 ⟨x, H1, I1, r1, q1⟩ => ⟨x, σ, H1, I1, r1, q1⟩)
def tRetN : TS := fun D _ H => D.rt .non H
theorem ps_retN : PS X (.Return none pos) tRetN := fun _ _ σ H _ I h => wpAny_Return_none ⟨.non, σ, H, I, rfl, h⟩
def tIfS (c : TT) (t u : TS) : TS := fun D σ H => c σ H fun b H1 => if b = true then t D σ H1 else u D σ H1
theorem ps_if {c : Expr} {a b : List Stmt} {tc : TT} (hc : PT X c tc) (ha : PSs X a t) (hb : PSs X b u) : PS X (.If c a b pos) (tIfS tc t u) := by
 intro pins s σ H D I h
 refine wpAny_If (thn (hc pins s σ H _ I h) fun d s1 ⟨H1, I1, q1⟩ => ?_)
 cases d with
 | true => exact ha pins s1 σ H1 D I1 q1
 | false => exact hb pins s1 σ H1 D I1 q1
end
abbrev TG := V->St->Hp->(St->Hp->Prop)->Prop
abbrev TGs := List V->St->Hp->(St->Hp->Prop)->Prop
def PG (X : Cx) (target : Expr) (t : TG) : Prop :=
 ∀ (pins : List (Addr × Obj)) (s : Shared) (σ : St) (H : Hp) (v : V) (u : Value) (Q : St->Hp->Prop), Inv X pins σ H s->RelV v u->t v σ H Q ->
  wpAny (model X.prog X.w) X.A (assign target X.env u) (fun _ s' => ∃ σ' H', Inv X pins σ' H' s'/\Q σ' H') X.xe s
def PGs (X : Cx) (ts : List Expr) (t : TGs) : Prop :=
 ∀ (pins : List (Addr × Obj)) (s : Shared) (σ : St) (H : Hp) (vs : List V) (us : List Value) (Q : St->Hp->Prop), Inv X pins σ H s->Vals vs us->t vs σ H Q ->
  wpAny (model X.prog X.w) X.A (assignInOrder ((assignEach ts X.env).map (·.2)) us) (fun _ s' => ∃ σ' H', Inv X pins σ' H' s'/\Q σ' H') X.xe s
abbrev TSet := V->V->V->Hp->(Hp->Prop)->Prop
def PSet (X : Cx) (t : TSet) : Prop :=
 ∀ (pins : List (Addr × Obj)) (s : Shared) (σ : St) (H : Hp) (o i v : V) (ov iv u : Value) (Q : Hp->Prop), Inv X pins σ H s->RelV o ov->RelV i iv->RelV v u->t o i v H Q ->
  wpAny (model X.prog X.w) X.A (setItem ov iv u) (fun _ s' => ∃ H', Inv X pins σ H' s'/\Q H') X.xe s
section
variable {X : Cx} {pos : Pos}
def Qfl (i : Nat) : TG := fun v σ H Q => Q (σ.set i (some v)) H
theorem Qgx {i : Nat} {x : Str} (hN : X.N.Nodup) (hi : X.N[i]? = some x) (hx : Loc X.env.scope x) (hf : X.fn x = true\/X.env.scope.names.lookup x = some .local := by first | exact .inl rfl | exact .inr rfl | assumption) : PG X (.Name x pos) (Qfl i) := by
 intro pins s σ H v u Q I r h
 exact wpAny_assign_Name (Qgp I hN hi hx r (fun s' I' => ⟨_, H, I', h⟩) hf)
def gNil : TGs := fun vs σ H Q => vs = []/\Q σ H
def gCons (t : TG) (u : TGs) : TGs := fun vs σ H Q => ∃ v r, vs = v :: r/\t v σ H fun σ' H' => u r σ' H' Q
theorem QlI : PGs X [] gNil := by
 intro pins s σ H vs us Q I r h
 obtain ⟨e, h⟩ := h
 subst e
 cases r
 exact assignInOrder_nil ⟨σ, H, I, h⟩
theorem Qey {e : Expr} {es : List Expr} {t : TG} {u : TGs} (h1 : PG X e t) (h2 : PGs X es u)
  (hs : (assignEach (e :: es) X.env).map (·.2) = assign e X.env :: (assignEach es X.env).map (·.2) := by rfl) : PGs X (e :: es) (gCons t u) := by
 intro pins s σ H vs us Q I r h
 obtain ⟨v, vr, e1, h⟩ := h
 subst e1
 cases r with
 | cons r rr =>
  rw [hs]
  refine assignInOrder_cons (thn (h1 pins s σ H _ _ _ I r h) fun _ s1 ⟨σ1, H1, I1, q1⟩ => ?_)
  exact h2 pins s1 σ1 H1 _ _ Q I1 rr q1
def gTup (K : PySem.W.Frag) (n : Nat) (t : TGs) : TG := fun v σ H Q => ∃ a xs, v = .ref a/\SqT K H a xs/\xs.length = n/\t xs σ H Q
theorem pg_tup {es : List Expr} {k : Nat} {t : TGs} {n : Nat} (hc : X.calm = true) (h : PGs X es t)
  (hn : (assignEach es X.env).length = n := by rfl) (hst : (assignEach es X.env).findIdx? (·.1) = none := by rfl) : PG X (.Tuple es k pos) (gTup X.K n t) := by
 intro pins s σ H v u Q I r hw
 obtain ⟨a, xs, e1, hq, hl, hw⟩ := hw
 subst e1
 cases r
 obtain ⟨its, rv, ht, hz⟩ := I.tuple hq
 refine assign_Tuple_tuple (I.ok.hd hc) ht (by simp [hn, <-hl, rv.length]) hst fun h' hx => ?_
 have I1 : Inv X pins σ H { s with heap := h' } := I.kept (t' := s.toks) fun b o e => hx b o (QnS (QnJ e)) e
 exact h pins _ σ H xs _ Q I1 (by simpa using rv) hw
def gSub (to ti : TE) (t : TSet) : TG := fun v σ H Q => to σ H fun o H1 => ti σ H1 fun i H2 => t o i v H2 fun H3 => Q σ H3
theorem pg_sub {o i : Expr} {to ti : TE} {t : TSet} (ho : PE X o to) (hi : PE X i ti) (hs : PSet X t)
  (ha : ∀ v, assign (.Subscript o i pos) X.env v = (do
   let ov <-holding [v] (eval o X.env)
   let iv <-holding [v, ov] (eval i X.env)
   standAt pos
   holding [v, ov, iv] (setItem ov iv v)
   release [v, ov, iv] []) := by intro _; rfl) : PG X (.Subscript o i pos) (gSub to ti t) := by
 intro pins s σ H v u Q I r h
 rw [ha]
 refine wpAny_bind (wpAny_holding (thn (ho pins s σ H _ I h) fun ov s1 ⟨x, H1, I1, r1, q1⟩ => ?_))
 refine wpAny_bind (wpAny_holding (thn (hi pins s1 σ H1 _ I1 q1) fun iv s2 ⟨y, H2, I2, r2, q2⟩ => ?_))
 refine wpAny_bind (wpAny_standAt (wpAny_bind (wpAny_holding (thn (hs pins s2 σ H2 x y v ov iv u _ I2 r1 r2 r q2) fun _ s3 ⟨H3, I3, q3⟩ => ?_))))
 exact wpAny_release ⟨σ, H3, I3, q3⟩
def tAsg (te : TE) (g : TG) : TS := fun D σ H => te σ H fun x H1 => g x σ H1 D.nx
theorem ps_asg {tg e : Expr} {te : TE} {g : TG} (he : PE X e te) (hg : PG X tg g) (hs : swapsWithSole [tg] e pos.line X.env = pure false := by rfl) (hw : swappedStores [tg] e X.env = pure none := by rfl)
  (h1 : (assignEach [tg] X.env).map (·.2) = [assign tg X.env] := by rfl) : PS X (.Assign [tg] e pos) (tAsg te g) := by
 intro pins s σ H D I h
 refine wpAny_Assign_stores (thn (he pins s σ H _ I h) fun v s1 ⟨x, H1, I1, r1, q1⟩ => ?_) hs hw
 rw [h1]
 exact thn (hg pins s1 σ H1 x v _ I1 r1 q1) fun _ s2 q => q
theorem ps_set {i : Nat} {x : Str} {e : Expr} {te : TE} {pos' : Pos} (hN : X.N.Nodup) (hi : X.N[i]? = some x) (hx : Loc X.env.scope x) (he : PE X e te) (hs : swapsWith e (some (.Name x pos')) pos.line X.env = pure false := by rfl) (hf : X.fn x = true\/X.env.scope.names.lookup x = some .local := by first | exact .inl rfl | exact .inr rfl | assumption) :
  PS X (.Assign [.Name x pos'] e pos) (tAsg te (Qfl i)) := by
 intro pins s σ H D I h
 refine wpAny_Assign_Name (thn (he pins s σ H _ I h) fun v s1 ⟨y, H1, I1, r1, q1⟩ => ?_) hs
 exact Qgp I1 hN hi hx r1 (fun s2 I2 => ⟨_, H1, I2, q1⟩) hf
end
section
variable {X : Cx} {pos : Pos}
end
structure It where
 go : Nat->Hp->Prop
 yld : Nat->Hp->V->Hp->Prop
 stop : Nat->Hp->Prop
def FpOk (X : Cx) (pins : List (Addr × Obj)) (H : Hp) (b : Addr) : Prop :=
 H b = none/\b ≠ X.env.locals/\b ∉ X.fs/\(b ∈ X.ex\/X.s₀.heap.objs.size<=b)/\(∀ x c, X.env.cells.lookup x = some c->c ≠ b)/\∀ p ∈ X.pn ++ pins, p.1 ≠ b
theorem Inv.fpOk {X : Cx} {pins : List (Addr × Obj)} {σ : St} {H H' : Hp} {s : Shared} {b : Addr} (I : Inv X pins σ H s) (hb : s.heap.objs.size<=b) (hn : H' b = none) : FpOk X pins H' b := by
 refine ⟨hn, Nat.ne_of_gt (QnP I.lt hb), I.nofs hb, .inr (QnV I.sz hb), fun x c e z => ?_, fun p hp z => ?_⟩
 ·obtain ⟨v, q⟩ := I.cell x c e
  exact absurd (QnP q.lt (by rw [z]; exact hb)) (QnY _)
 ·exact absurd (QnP (QnJ (I.pin p hp).1) (by rw [z]; exact hb)) (QnY _)
structure Turn (P : Program) (w : World) (K : PySem.W.Frag) (tg : Expr) (J : It) (fp : List Addr) (it : Addr) (tn : Nat->Heap->Prop) : Prop where
 mem : it ∈ fp
 obj : ∀ i h, tn i h->∀ b ∈ fp, ∃ o, h.get? b = some o/\∀ v, o.data ≠ .cell v
 keep : ∀ i h h', tn i h->(∀ b ∈ fp, ∀ o, h.get? b = some o->h'.get? b = some o)->tn i h'
 item : ∀ (X : Cx), X.prog = P->X.w = w->X.K = K->X.calm = true->∀ (i : Nat) (pins : List (Addr × Obj)) (s : Shared) (σ : St) (H : Hp) (E : Value->Shared->Prop), Inv X pins σ H s->(∀ b ∈ fp, FpOk X pins H b)->tn i s.heap->J.go i H ->
  wpAny (model P w) X.A (pyNext (.ref it)) (fun r s1 => ∃ u, r = some u /\
   wpAny (model P w) X.A (letOwnedTupleGo tg (.ref it) u) (fun _ s2 => ∃ x H', Inv X pins σ H' s2/\RelV x u/\J.yld i H x H'/\tn (i + 1) s2.heap/\∀ b ∈ fp, H' b = none) E s1) E s
 done : ∀ (X : Cx), X.prog = P->X.w = w->X.K = K->X.calm = true->∀ (i : Nat) (pins : List (Addr × Obj)) (s : Shared) (σ : St) (H : Hp) (E : Value->Shared->Prop), Inv X pins σ H s->(∀ b ∈ fp, FpOk X pins H b)->tn i s.heap->J.stop i H ->
  wpAny (model P w) X.A (pyNext (.ref it)) (fun r s1 => r = none/\Inv X pins σ H s1) E s
 self : ∀ (A : Around) (i : Nat) (s : Shared) (Q : Value->Shared->Prop) (E : Value->Shared->Prop), tn i s.heap->Q (.ref it) s->wpAny (model P w) A (pyIter (.ref it)) Q E s
abbrev TI := St->Hp->(It->Hp->Prop)->Prop
def PIE (X : Cx) (pins : List (Addr × Obj)) (σ : St) (tg : Expr) (R : It->Hp->Prop) (itv : Value) (s2 : Shared) : Prop :=
 ∃ (it : Addr) (fp : List Addr) (tn : Nat->Heap->Prop) (J : It) (H' : Hp), itv = .ref it/\Inv X pins σ H' s2/\Turn X.prog X.w X.K tg J fp it tn/\tn 0 s2.heap/\(∀ b ∈ fp, FpOk X pins H' b)/\R J H'
def PI (X : Cx) (tg iter : Expr) (wi : TI) : Prop :=
 ∀ (pins : List (Addr × Obj)) (s : Shared) (σ : St) (H : Hp) (R : It->Hp->Prop), Inv X pins σ H s->wi σ H R ->
  wpAny (model X.prog X.w) X.A (eval iter X.env) (fun v s1 => wpAny (model X.prog X.w) X.A (pyIter v) (PIE X pins σ tg R) X.xe s1) X.xe s
theorem go_of {M : Model} {A : Around} {E : Value->Shared->Prop} {s : Shared} {tg : Expr} {it : Addr} {u : Value} {o : Obj} {n : String} {vs : Array Value} {Q : Unit->Shared->Prop} (ho : s.heap.get? it = some o) (hc : o.cls = .type n) (hd : o.data = .fields vs)
    (hn : ["enumerate", "zip", "dict_itemiterator", "dict_reverseitemiterator", "odict_iterator", "itertools.zip_longest", "itertools.pairwise"].contains n = false) (hQ : Q () s) : wpAny M A (letOwnedTupleGo tg (.ref it) u) Q E s := by
  unfold letOwnedTupleGo
  cases tg <;> first
    | exact wpAny_pure hQ
    | (cases u <;> first
        | exact wpAny_pure hQ
        | (refine wpAny_bind (wpAny_load ho ?_)
           rw [hc, hd]
           show wpAny M A (if (["enumerate", "zip", "dict_itemiterator", "dict_reverseitemiterator", "odict_iterator", "itertools.zip_longest", "itertools.pairwise"].contains n && vs[0]? == some (rawInt _)) = true then _ else _) Q E s
           rw [if_neg (by intro h; rw [hn, Bool.false_and] at h; cases h)]
           exact wpAny_pure hQ))
def Itl (K : PySem.W.Frag) (a : Addr) : It :=
 ⟨fun i H => ∃ xs x, SqL K H a xs/\xs[i]? = some x, fun i H x H' => H' = H/\∀ xs, SqL K H a xs->xs[i]? = some x, fun i H => ∃ xs, SqL K H a xs/\xs.length<=i⟩
def Itt (K : PySem.W.Frag) (a : Addr) : It :=
 ⟨fun i H => ∃ xs x, SqT K H a xs/\xs[i]? = some x, fun i H x H' => H' = H/\∀ xs, SqT K H a xs->xs[i]? = some x, fun i H => ∃ xs, SqT K H a xs/\xs.length<=i⟩
def Itr (lo : Int) (n : Nat) : It := ⟨fun i _ => i < n, fun i H x H' => H' = H/\x = .int (lo + i), fun i _ => n<=i⟩
theorem Qhi {P : Program} {w : World} {K : PySem.W.Frag} {tg : Expr} (a it : Addr) : Turn P w K tg (Itl K a) [it] it (fun i h => h.IsListIter it a i) where
 mem := by simp
 obj := fun i h st b hb => by
  have e : b = it := by simpa using hb
  subst e
  obtain ⟨o, e, c, d⟩ := st
  exact ⟨o, e, fun v z => by rw [d] at z; cases z⟩
 keep := fun i h h' st k => st.at fun o e => k it (by simp) o e
 item := by
  intro X hP hw hK hc i pins s σ H E I hf st hg
  subst hP hw hK
  obtain ⟨xs, x, hq, hx⟩ := hg
  obtain ⟨its, rv, p, hz⟩ := I.list hq
  obtain ⟨u, hu, ru⟩ := rv.get hx
  obtain ⟨f0, f1, f2, f3, f4, f5⟩ := hf it (by simp)
  refine wpAny_pyNext_list_item st p.isList (x := u) (by simpa using hu) fun h' st' sb => ?_
  have I1 : Inv X pins σ H { s with heap := h' } := I.turned (t' := s.toks) (fun b o hb e => (sb.2 b hb).trans e) f0 f1 f3 f4 f5
  obtain ⟨o, e, c, d⟩ := id st'
  exact ⟨u, rfl, go_of (s := { s with heap := h' }) e c d (by decide) ⟨x, H, I1, ru, ⟨rfl, fun ys hy => by rw [I.list_inj hy hq]; exact hx⟩, st', fun b hb => (hf b hb).1⟩⟩
 done := by
  intro X hP hw hK hc i pins s σ H E I hf st hg
  subst hP hw hK
  obtain ⟨xs, hq, hx⟩ := hg
  obtain ⟨its, rv, p, hz⟩ := I.list hq
  obtain ⟨f0, f1, f2, f3, f4, f5⟩ := hf it (by simp)
  have hl := rv.length
  exact wpAny_pyNext_list_end (I.ok.hd hc) st p.isList (by simp; omega) fun h' eb => ⟨rfl, I.turned (t' := s.toks) (fun b o hb e => eb b o hb e) f0 f1 f3 f4 f5⟩
 self := fun _ _ _ _ _ st h => wpAny_pyIter_listiter st h
theorem Qkc {P : Program} {w : World} {K : PySem.W.Frag} {tg : Expr} (a it : Addr) : Turn P w K tg (Itt K a) [it] it (fun i h => h.IsTupleIter it a i) where
 mem := by simp
 obj := fun i h st b hb => by
  have e : b = it := by simpa using hb
  subst e
  obtain ⟨o, e, c, d⟩ := st
  exact ⟨o, e, fun v z => by rw [d] at z; cases z⟩
 keep := fun i h h' st k => st.at fun o e => k it (by simp) o e
 item := by
  intro X hP hw hK hc i pins s σ H E I hf st hg
  subst hP hw hK
  obtain ⟨xs, x, hq, hx⟩ := hg
  obtain ⟨its, rv, p, hz⟩ := I.tuple hq
  obtain ⟨u, hu, ru⟩ := rv.get hx
  obtain ⟨f0, f1, f2, f3, f4, f5⟩ := hf it (by simp)
  refine wpAny_pyNext_tuple_item st (show s.heap.IsTuple a its.toArray from p) (x := u) (by simpa using hu) fun h' st' sb => ?_
  have I1 : Inv X pins σ H { s with heap := h' } := I.turned (t' := s.toks) (fun b o hb e => (sb.2 b hb).trans e) f0 f1 f3 f4 f5
  obtain ⟨o, e, c, d⟩ := id st'
  exact ⟨u, rfl, go_of (s := { s with heap := h' }) e c d (by decide) ⟨x, H, I1, ru, ⟨rfl, fun ys hy => by rw [I.tuple_inj hy hq]; exact hx⟩, st', fun b hb => (hf b hb).1⟩⟩
 done := by
  intro X hP hw hK hc i pins s σ H E I hf st hg
  subst hP hw hK
  obtain ⟨xs, hq, hx⟩ := hg
  obtain ⟨its, rv, p, hz⟩ := I.tuple hq
  obtain ⟨f0, f1, f2, f3, f4, f5⟩ := hf it (by simp)
  have hl := rv.length
  exact wpAny_pyNext_tuple_end (I.ok.hd hc) st (show s.heap.IsTuple a its.toArray from p) (by simp; omega) fun h' eb => ⟨rfl, I.turned (t' := s.toks) (fun b o hb e => eb b o hb e) f0 f1 f3 f4 f5⟩
 self := fun _ _ _ _ _ st h => wpAny_pyIter_tupleiter st h
theorem Qkd {P : Program} {w : World} {K : PySem.W.Frag} {tg : Expr} (it : Addr) (lo : Int) (n : Nat) : Turn P w K tg (Itr lo n) [it] it (fun i h => IsRangeIter h it (lo + (i : Nat) * 1) ((n : Int) - (i : Nat)) 1) where
 mem := by simp
 obj := fun i h st b hb => by
  have e : b = it := by simpa using hb
  subst e
  exact ⟨_, st, fun v z => by
   have z' : Data.fields _ = Data.cell v := z
   cases z'⟩
 keep := fun i h h' st k => k it (by simp) _ st
 item := by
  intro X hP hw hK hc i pins s σ H E I hf st hg
  subst hP hw hK
  obtain ⟨f0, f1, f2, f3, f4, f5⟩ := hf it (by simp)
  have W := Walks.range (prog := X.prog) (w := X.w) (I.ok.hd hc) it lo 1 n
  refine W.item i s _ _ hg st fun v h' tk hv st' kk => ?_
  obtain ⟨t, rfl⟩ := hv
  have I1 : Inv X pins σ H { s with heap := h', toks := tk } := I.turned (fun b o hb e => kk b o (by simpa using hb) e) f0 f1 f3 f4 f5
  refine ⟨_, rfl, go_of (s := { s with heap := h', toks := tk }) (n := "range_iterator") st' rfl rfl (by decide) ⟨.int (lo + i), H, I1, ⟨t, ?_⟩, ⟨rfl, rfl⟩, st', fun b hb => (hf b hb).1⟩⟩
  rw [Int.mul_one]
 done := by
  intro X hP hw hK hc i pins s σ H E I hf st hg
  subst hP hw hK
  obtain ⟨f0, f1, f2, f3, f4, f5⟩ := hf it (by simp)
  exact wpAny_pyNext_range_end (I.ok.hd hc) st (by have : n<=i := hg; omega) fun h' eb => ⟨rfl, I.turned (t' := s.toks) (fun b o hb e => eb b o hb e) f0 f1 f3 f4 f5⟩
 self := fun _ _ _ _ _ st h => wpAny_pyIter_rangeiter st h
end L2
namespace L2
open PySem PySem.Spec PyProof.Rows
section
variable {X : Cx} {tg : Expr}
def iList (K : PySem.W.Frag) (tl : TE) : TI := fun σ H R => tl σ H fun x H1 => ∃ a, x = .ref a/\(∃ xs, SqL K H1 a xs)/\R (Itl K a) H1
theorem QlH {l : Expr} {tl : TE} (hl : PE X l tl) : PI X tg l (iList X.K tl) := by
 intro pins s σ H R I h
 refine thn (hl pins s σ H _ I h) fun v s1 ⟨x, H1, I1, r1, q1⟩ => ?_
 obtain ⟨a, e, ⟨xs, hq⟩, q⟩ := q1
 subst e
 cases r1
 obtain ⟨its, rv, p, hz⟩ := I1.list hq
 refine wpAny_pyIter_list p.isList ?_
 refine ⟨s1.heap.objs.size, [s1.heap.objs.size], _, _, H1, rfl, I1.kept (t' := s1.toks) fun b o e => QnG _ e, Qhi a _, ⟨_, QnR _ rfl, rfl, rfl⟩, fun b hb => ?_, q⟩
 have e : b = s1.heap.objs.size := by simpa using hb
 subst e
 exact I1.fpOk (QnL _) (I1.hok.fresh (QnL _))
theorem range_it {pins : List (Addr × Obj)} {σ : St} {H : Hp} {s : Shared} {R : It->Hp->Prop} {E : Value->Shared->Prop} {lo hi : Int} {t u v : Tok} {tk : Nat} (I : Inv X pins σ H s) (h1 : -(2 ^ 62)<=lo) (h2 : lo < 2 ^ 62) (h3 : -(2 ^ 62)<=hi) (h4 : hi < 2 ^ 62)
  (q : R (Itr lo (hi - lo).toNat) H) : wpAny (model X.prog X.w) X.A (pyIter (.ref s.heap.objs.size)) (PIE X pins σ tg R) E { s with heap := s.heap.push { cls := .type "range", data := .fields #[.int lo t, .int hi u, .int 1 v] }, toks := tk } := by
 refine wpAny_pyIter_range (IsRange.new ..) (small_one h1 h2 h3 h4) ?_
 have I1 : Inv X pins σ H { s with heap := s.heap.push { cls := .type "range", data := .fields #[.int lo t, .int hi u, .int 1 v] }, toks := tk } := I.kept fun b o e => QnG _ e
 refine ⟨(s.heap.push { cls := .type "range", data := .fields #[.int lo t, .int hi u, .int 1 v] }).objs.size, [(s.heap.push { cls := .type "range", data := .fields #[.int lo t, .int hi u, .int 1 v] }).objs.size], _, _, H, rfl,
  I1.kept (t' := tk) fun b o e => QnG _ e, Qkd _ lo (hi - lo).toNat, ?_, fun b hb => ?_, q⟩
 ·have e1 : lo + ((0 : Nat) : Int) * 1 = lo := by simp
  have e2 : (((hi - lo).toNat : Nat) : Int) - ((0 : Nat) : Int) = Builtin.Range.rangeSize lo hi 1 := by rw [rangeSize_one]; split <;> omega
  show IsRangeIter _ _ (lo + ((0 : Nat) : Int) * 1) ((((hi - lo).toNat : Nat) : Int) - ((0 : Nat) : Int)) 1
  rw [e1, e2]
  exact QnR _ rfl
 ·have e : b = (s.heap.push { cls := .type "range", data := .fields #[.int lo t, .int hi u, .int 1 v] }).objs.size := by simpa using hb
  subst e
  exact I1.fpOk (QnL _) (I1.hok.fresh (QnL _))
def iRng1 (ta : TA) : TI := fun σ H R => ta σ H fun vs H1 => ∃ j : Int, vs = [.int j]/\-(2 ^ 62)<=j/\j < 2 ^ 62/\R (Itr 0 j.toNat) H1
theorem QlG {a : Expr} {ta : TA} {p pos : Pos} (hg : Gl X "range") (hm : X.mg "range" = none) (ha : PA X [a] ta) (hs : starEach [a] X.env = [(false, eval a X.env)] := by rfl) : PI X tg (.Call (.Name "range" p) [a] [] pos) (iRng1 ta) := by
 intro pins s σ H R I h
 refine Call_ (Qfc I hg hm boot_range (PyProof.Rows.callWith_type1 (thn (ha pos pins s σ H _ I h) fun us s1 ⟨vs, H1, I1, r1, q1⟩ => ?_) hs rfl))
 obtain ⟨j, e, q1, q2, q⟩ := q1
 subst e
 cases r1 with
 | cons r rr =>
  cases rr
  obtain ⟨t, rfl⟩ := r
  exact call_range_1 (range_it I1 (by omega) (by omega) q1 q2 (by simpa using q))
def tFor (wi : TI) (g : TG) (tb : TS) : TS := fun D σ H => wi σ H fun J H1 => ∃ W : Nat->Nat->St->Hp->Prop, (∃ m, W 0 m σ H1)/\∀ i m σ H, W i m σ H ->
 (J.stop i H/\D.nx σ H)\/(J.go i H/\∃ N : St->Hp->Prop, (∀ σ' H', N σ' H'->∃ m', m' < m/\W (i + 1) m' σ' H')/\∀ x H', J.yld i H x H'->g x σ H' fun σ2 H2 => tb { D with nx := N, ct := N, bk := D.nx } σ2 H2)
def QfP (fp : List Addr) (h : Heap) : List (Addr × Obj) := fp.filterMap fun b => (h.get? b).map fun o => (b, o)
theorem QbL {fp : List Addr} {h : Heap} {b : Addr} {o : Obj} (hb : b ∈ fp) (e : h.get? b = some o) : (b, o) ∈ QfP fp h := List.mem_filterMap.mpr ⟨b, hb, by rw [e]; rfl⟩
theorem QlU {fp : List Addr} {h : Heap} {p : Addr × Obj} (hp : p ∈ QfP fp h) : p.1 ∈ fp/\h.get? p.1 = some p.2 := by
 obtain ⟨b, hb, e⟩ := List.mem_filterMap.mp hp
 cases q : h.get? b with
 | none => rw [q] at e; cases e
 | some o =>
  rw [q] at e
  have e' : (b, o) = p := Option.some.inj e
  subst e'
  exact ⟨hb, q⟩
theorem Inv.pinned {pins : List (Addr × Obj)} {σ : St} {H : Hp} {s : Shared} {fp : List Addr} (I : Inv X pins σ H s) (hf : ∀ b ∈ fp, FpOk X pins H b) (ho : ∀ b ∈ fp, ∃ o, s.heap.get? b = some o/\∀ v, o.data ≠ .cell v) : Inv X (pins ++ QfP fp s.heap) σ H s :=
 I.pins_of fun p hp => (List.mem_append.mp hp).elim (fun z => I.pin p (QnH _ z)) fun z => by
  obtain ⟨hb, e⟩ := QlU z
  obtain ⟨f0, f1, f2, _⟩ := hf p.1 hb
  obtain ⟨o, e', d⟩ := ho p.1 hb
  rw [e] at e'; cases e'
  exact ⟨e, f0, f1, f2, d⟩
theorem Inv.unpinned {pins pl : List (Addr × Obj)} {σ : St} {H : Hp} {s : Shared} (I : Inv X (pins ++ pl) σ H s) : Inv X pins σ H s := I.pins_of fun p hp => I.pin p (QnH _ (List.mem_append_left _ hp))
theorem ps_for {iter : Expr} {body : List Stmt} {wi : TI} {g : TG} {tb : TS} {pos : Pos} (hp : PassesOwn (model X.prog X.w) X.A X.env X.xe) (hc : X.calm = true) (hi : PI X tg iter wi) (hg : PG X tg g) (hb : PSs X body tb)
  (hs : ∀ x, foldedSetIterable iter X.env x = pure x := by intro _; rfl) : PS X (.For tg iter body [] pos) (tFor wi g tb) := by
 intro pins s σ H D I h
 refine wpAny_For (thn (hi pins s σ H _ I h) fun v s1 h1 => thn h1 fun itv s2 h2 => ?_) hs
 obtain ⟨it, fp, tn, J, H2, e, I2, T, st2, f2, W, ⟨m0, w0⟩, turn⟩ := h2
 subst e
 have stat : ∀ {H' : Hp}, (∀ b ∈ fp, H' b = none)->∀ b ∈ fp, FpOk X pins H' b := fun hn b hb => ⟨hn b hb, (f2 b hb).2⟩
 refine codeAny_forLoop_any (fun n s' => ∃ i σ' H', Inv X pins σ' H' s'/\tn i s'.heap/\(∀ b ∈ fp, H' b = none)/\W i n σ' H') ?_ m0 ⟨0, σ, H2, I2, st2, fun b hb => (f2 b hb).1, w0⟩
 rintro n s3 ⟨i, σ3, H3, I3, st3, fr3, w3⟩
 rcases turn i n σ3 H3 w3 with ⟨stop, qn⟩ | ⟨go, N, hN, step⟩
 ·refine wpAny_passesOwn hp (thn (T.done X rfl rfl rfl hc i pins s3 σ3 H3 X.xe I3 (stat fr3) st3 stop) fun r s4 ⟨hr, I4⟩ => ?_)
  subst hr
  exact wpAny_execs_nil ⟨σ3, H3, I4, qn⟩
 ·refine wpAny_passesOwn hp (thn (T.item X rfl rfl rfl hc i pins s3 σ3 H3 X.xe I3 (stat fr3) st3 go) fun r s4 ⟨u, hr, h4⟩ => ?_)
  subst hr
  refine wpAny_passesOwn hp (thn h4 fun _ s5 ⟨x, H5, I5, r5, y5, st5, fr5⟩ => ?_)
  have I5' := I5.pinned (stat fr5) (T.obj _ _ st5)
  refine wpAny_passesOwn hp (thn (hg _ s5 σ3 H5 x u _ I5' r5 (step x H5 y5)) fun _ s6 ⟨σ6, H6, I6, q6⟩ => ?_)
  refine wpAny_passesOwn hp (thn (hb _ s6 σ6 H6 _ I6 q6) fun f s7 q7 => ?_)
  have again : ∀ {σ7 : St} {H7 : Hp}, Inv X (pins ++ QfP fp s5.heap) σ7 H7 s7->N σ7 H7->∃ m, m < n/\∃ i σ' H', Inv X pins σ' H' s7/\tn i s7.heap/\(∀ b ∈ fp, H' b = none)/\W i m σ' H' := fun {σ7 H7} I7 n7 => by
   obtain ⟨m', hm, w7⟩ := hN σ7 H7 n7
   refine ⟨m', hm, i + 1, σ7, H7, I7.unpinned, T.keep _ _ _ st5 fun b hb o e => (I7.pin (b, o) (QnH _ (QnH _ (QbL hb e)))).1, fun b hb => ?_, w7⟩
   obtain ⟨o, e, d⟩ := T.obj _ _ st5 b hb
   exact (I7.pin (b, o) (QnH _ (QnH _ (QbL hb e)))).2.1
  cases f with
  | next => obtain ⟨σ7, H7, I7, n7⟩ := q7; exact again I7 n7
  | cont => obtain ⟨σ7, H7, I7, n7⟩ := q7; exact again I7 n7
  | brk => obtain ⟨σ7, H7, I7, q7⟩ := q7; exact ⟨σ7, H7, I7.unpinned, q7⟩
  | ret v => obtain ⟨x7, σ7, H7, I7, r7, q7⟩ := q7; exact ⟨x7, σ7, H7, I7.unpinned, r7, q7⟩
end
end L2
namespace L2
open PySem PySem.Spec PyProof.Rows
abbrev R2 := V->V->Hp->VK->Prop
def OpR (X : Cx) (f : Value->Value->Sem Value) (r : R2) : Prop :=
 ∀ (pins : List (Addr × Obj)) (s : Shared) (σ : St) (H : Hp) (x y : V) (v u : Value) (Q : VK), Inv X pins σ H s->RelV x v->RelV y u->r x y H Q ->
  wpAny (model X.prog X.w) X.A (f v u) (EP X pins σ Q) X.xe s
def UnR (X : Cx) (f : Value->Sem Value) (r : V->Hp->VK->Prop) : Prop :=
 ∀ (pins : List (Addr × Obj)) (s : Shared) (σ : St) (H : Hp) (x : V) (v : Value) (Q : VK), Inv X pins σ H s->RelV x v->r x H Q ->
  wpAny (model X.prog X.w) X.A (f v) (EP X pins σ Q) X.xe s
def Qhg (X : Cx) (f : Value) (r : List V->Hp->VK->Prop) : Prop :=
 ∀ (pins : List (Addr × Obj)) (s : Shared) (σ : St) (H : Hp) (xs : List V) (us : List Value) (Q : VK), Inv X pins σ H s->Vals xs us->r xs H Q ->
  wpAny (model X.prog X.w) X.A (call f us) (EP X pins σ Q) X.xe s
def tOp (r : R2) (ta tb : TE) : TE := fun σ H Q => ta σ H fun x H1 => tb σ H1 fun y H2 => r x y H2 Q
def tUn (r : V->Hp->VK->Prop) (ta : TE) : TE := fun σ H Q => ta σ H fun x H1 => r x H1 Q
def rI (C : Int->Int->Prop) (g : Int->Int->V) : R2 := fun x y H Q => ∃ i j, x = .int i/\y = .int j/\C i j/\Q (g i j) H
def rI0 (g : Int->Int->V) : R2 := fun x y H Q => ∃ i j, x = .int i/\y = .int j/\Q (g i j) H
def rU (g : Int->V) : V->Hp->VK->Prop := fun x H Q => ∃ i, x = .int i/\Q (g i) H
section
variable {X : Cx} {a b c : Expr} {ta tb tc : TE} {pos : Pos}
theorem binT (ha : PE X a ta) (hb : PE X b tb) {pins : List (Addr × Obj)} {s : Shared} {σ : St} {H : Hp} {R : V->V->Hp->Prop} (I : Inv X pins σ H s)
  (h : ta σ H fun x H1 => tb σ H1 fun y H2 => R x y H2) {Q : Value->Shared->Prop} {f : Value->Value->Sem Value}
  (hf : ∀ v u s2 x y H2, Inv X pins σ H2 s2->RelV x v->RelV y u->R x y H2->wpAny (model X.prog X.w) X.A (f v u) Q X.xe s2) :
  wpAny (model X.prog X.w) X.A (eval a X.env) (fun v s₁ => wpAny (model X.prog X.w) X.A (eval b X.env) (fun u s₂ => wpAny (model X.prog X.w) X.A (f v u) Q X.xe s₂) X.xe s₁) X.xe s := by
 refine thn (ha pins s σ H _ I h) fun v s1 ⟨x, H1, I1, r1, q1⟩ => ?_
 refine thn (hb pins s1 σ H1 _ I1 q1) fun u s2 ⟨y, H2, I2, r2, q2⟩ => ?_
 exact hf v u s2 x y H2 I2 r1 r2 q2
theorem pe_op {op : Operator} {r : R2} (ho : OpR X (binaryOp op) r) (ha : PE X a ta) (hb : PE X b tb) : PE X (.BinOp a op b pos) (tOp r ta tb) := by
 intro pins s σ H Q I h
 exact wpAny_BinOp (binT ha hb I h fun v u s2 x y H2 I2 rx ry q => ho pins s2 σ H2 x y v u Q I2 rx ry q)
theorem pe_un {op : UnaryOp} {r : V->Hp->VK->Prop} (ho : UnR X (unaryOp op) r) (ha : PE X a ta) : PE X (.UnaryOp op a pos) (tUn r ta) := by
 intro pins s σ H Q I h
 exact UnaryOp_ (thn (ha pins s σ H _ I h) fun v s1 ⟨x, H1, I1, r1, q1⟩ => ho pins s1 σ H1 x v Q I1 r1 q1)
theorem opI {f : Value->Value->Sem Value} {C : Int->Int->Prop} {g : Int->Int->Int}
  (rule : ∀ (i j : Int) (t u : Tok) (s : Shared) (Q : Value->Shared->Prop) (E : Value->Shared->Prop), C i j->Q (.int (g i j) s.toks) { s with toks := s.toks + 1 }->wpAny (model X.prog X.w) X.A (f (.int i t) (.int j u)) Q E s) :
  OpR X f (rI C fun i j => .int (g i j)) := by
 intro pins s σ H x y v u Q I rx ry h
 obtain ⟨i, j, rfl, rfl, hc, q⟩ := h
 obtain ⟨t, rfl⟩ := rx
 obtain ⟨t', rfl⟩ := ry
 exact rule i j t t' s _ _ hc ⟨.int (g i j), H, I.tok _, ⟨_, rfl⟩, q⟩
theorem opI0 {f : Value->Value->Sem Value} {g : Int->Int->Int}
  (rule : ∀ (i j : Int) (t u : Tok) (s : Shared) (Q : Value->Shared->Prop) (E : Value->Shared->Prop), Q (.int (g i j) s.toks) { s with toks := s.toks + 1 }->wpAny (model X.prog X.w) X.A (f (.int i t) (.int j u)) Q E s) :
  OpR X f (rI0 fun i j => .int (g i j)) := by
 intro pins s σ H x y v u Q I rx ry h
 obtain ⟨i, j, rfl, rfl, q⟩ := h
 obtain ⟨t, rfl⟩ := rx
 obtain ⟨t', rfl⟩ := ry
 exact rule i j t t' s _ _ ⟨.int (g i j), H, I.tok _, ⟨_, rfl⟩, q⟩
theorem opB0 {f : Value->Value->Sem Value} {g : Int->Int->Bool}
  (rule : ∀ (i j : Int) (t u : Tok) (s : Shared) (Q : Value->Shared->Prop) (E : Value->Shared->Prop), Q (.bool (g i j)) s->wpAny (model X.prog X.w) X.A (f (.int i t) (.int j u)) Q E s) :
  OpR X f (rI0 fun i j => .bl (g i j)) := by
 intro pins s σ H x y v u Q I rx ry h
 obtain ⟨i, j, rfl, rfl, q⟩ := h
 obtain ⟨t, rfl⟩ := rx
 obtain ⟨t', rfl⟩ := ry
 exact rule i j t t' s _ _ ⟨.bl (g i j), H, I, rfl, q⟩
def CDiv (i j : Int) : Prop := 0 < j/\j < 1073741824
def CMul (i j : Int) : Prop := (-(2 ^ 64) < i/\i < 2 ^ 64)\/(-(2 ^ 64) < j/\j < 2 ^ 64)
theorem CMul.ok {i j : Int} (h : CMul i j) : IntMulOk i j := by
 rcases h with ⟨h1, h2⟩ | ⟨h1, h2⟩
 ·exact .of_left (intBits_le_64 h1 h2)
 ·exact .of_right (intBits_le_64 h1 h2)
theorem op_add : OpR X (binaryOp .Add) (rI0 fun i j => .int (i + j)) := opI0 fun _ _ _ _ _ _ _ q => add_int q
theorem op_sub : OpR X (binaryOp .Sub) (rI0 fun i j => .int (i - j)) := opI0 fun _ _ _ _ _ _ _ q => sub_int q
theorem op_mul : OpR X (binaryOp .Mult) (rI CMul fun i j => .int (i * j)) := opI fun _ _ _ _ _ _ _ hc q => mul_int q hc.ok
theorem op_fdiv : OpR X (binaryOp .FloorDiv) (rI CDiv fun i j => .int (i / j)) := opI fun i j _ _ _ _ _ hc q => by
 have h1 : (0 : Int) < j := hc.1
 have h2 : j < 1073741824 := hc.2
 exact floordiv_int (by omega) (by rw [Int.fdiv_eq_ediv_of_nonneg i (by omega)]; exact q) (.inl (PyProof.noPylong_small (by omega)))
theorem op_mod : OpR X (binaryOp .Mod) (rI (fun _ j => 0 < j) fun i j => .int (i % j)) := opI fun i j _ _ _ _ _ hc q => by
 have h1 : (0 : Int) < j := hc
 exact mod_int' (by omega) (by rw [Int.fmod_eq_emod_of_nonneg i (by omega)]; exact q)
theorem unI {f : Value->Sem Value} {g : Int->Int}
  (rule : ∀ (i : Int) (t : Tok) (s : Shared) (Q : Value->Shared->Prop) (E : Value->Shared->Prop), Q (.int (g i) s.toks) { s with toks := s.toks + 1 }->wpAny (model X.prog X.w) X.A (f (.int i t)) Q E s) :
  UnR X f (rU fun i => .int (g i)) := by
 intro pins s σ H x v Q I rx h
 obtain ⟨i, rfl, q⟩ := h
 obtain ⟨t, rfl⟩ := rx
 exact rule i t s _ _ ⟨.int (g i), H, I.tok _, ⟨_, rfl⟩, q⟩
theorem un_neg : UnR X (unaryOp .USub) (rU fun i => .int (-i)) := unI fun _ _ _ _ _ q => neg_int q
end
section
variable {X : Cx} {a b c : Expr} {ta tb tc : TE} {pos : Pos}
theorem fin_bl {pins : List (Addr × Obj)} {σ : St} {H : Hp} {s : Shared} {Q : VK} {k k' : Bool} (I : Inv X pins σ H s) (q : Q (.bl k) H) (e : k = k') : EP X pins σ Q (.bool k') s := by
 subst e
 exact ⟨.bl k, H, I, rfl, q⟩
theorem op_lt : OpR X (compareOp .Lt) (rI0 fun i j => .bl (decide (i < j))) := opB0 fun _ _ _ _ _ _ _ q => lt_int q
theorem op_le : OpR X (compareOp .LtE) (rI0 fun i j => .bl (decide (i<=j))) := opB0 fun _ _ _ _ _ _ _ q => le_int q
theorem op_gt : OpR X (compareOp .Gt) (rI0 fun i j => .bl (decide (j < i))) := opB0 fun _ _ _ _ _ _ _ q => gt_int q
theorem QlR : OpR X (compareOp .Lt) (fun x y H Q => ∃ i j, x = .str i/\y = .str j/\Q (.bl (decide (i.cps.toList < j.cps.toList))) H) := by
 intro pins s σ H x y v u Q I rx ry h
 obtain ⟨i, j, rfl, rfl, q⟩ := h
 obtain ⟨t, rfl⟩ := rx
 obtain ⟨t', rfl⟩ := ry
 exact lt_str (fin_bl I q rfl)
theorem QlS : OpR X (compareOp .In) (fun x y H Q => ∃ i j, x = .str i/\y = .str j/\Q (.bl (!(Builtin.Str.occurrences j i 0 j.length 1).isEmpty)) H) := by
 intro pins s σ H x y v u Q I rx ry h
 obtain ⟨i, j, rfl, rfl, q⟩ := h
 obtain ⟨t, rfl⟩ := rx
 obtain ⟨t', rfl⟩ := ry
 exact in_str (fin_bl I q rfl)
theorem pe_cmpR {op : CmpOp} {r : R2} (ho : OpR X (compareOp op) r) (ha : PE X a ta) (hb : PE X b tb) (hm : behindInMarks op b = false) : PE X (.Compare a [op] [b] pos) (tOp r ta tb) := by
 intro pins s σ H Q I h
 exact wpAny_Compare1 (binT ha hb I h fun v u s2 x y H2 I2 rx ry q => ho pins s2 σ H2 x y v u Q I2 rx ry q) hm
def tTest (t : TE) : TT := fun σ H Q => t σ H fun x H' => ∃ k, x = .bl k/\Q k H'
theorem pt_cmpR {op : CmpOp} {r : R2} (ho : OpR X (compareOp op) r) (ha : PE X a ta) (hb : PE X b tb) (hm : behindInMarks op b = false) : PT X (.Compare a [op] [b] pos) (tTest (tOp r ta tb)) := by
 intro pins s σ H Q I h
 refine wpAny_isTrue_Compare1 (thn (ha pins s σ H _ I h) fun v s1 ⟨x, H1, I1, r1, q1⟩ => thn (hb pins s1 σ H1 _ I1 q1) fun u s2 ⟨y, H2, I2, r2, q2⟩ =>
  thn (ho pins s2 σ H2 x y v u _ I2 r1 r2 q2) fun c s3 ⟨z, H3, I3, r3, k, e, q3⟩ => ?_) hm
 subst e
 cases r3
 exact wpAny_truthy_bool ⟨H3, I3, q3⟩
theorem QfS : (sizeLine : Nat) < 2 ^ 63 := by rw [sizeLine_eq]; decide
theorem Qks : OpR X (binaryOp .Add) (fun x y H Q => ∃ i j, x = .str i/\y = .str j/\i.length + j.length<=sizeLine/\Q (.str (i ++ j)) H) := by
 intro pins s σ H x y v u Q I rx ry h
 obtain ⟨i, j, rfl, rfl, hz, q⟩ := h
 obtain ⟨t, rfl⟩ := rx
 obtain ⟨t', rfl⟩ := ry
 exact add_str (fun t' tk => ⟨.str (i ++ j), H, I.tok _, ⟨_, rfl⟩, q⟩) hz
theorem QiD {x : V} {us : List Value} (r : Vals [x] us) : ∃ u, us = [u]/\RelV x u := by
 cases r with
 | cons r1 r2 => cases r2; exact ⟨_, rfl, r1⟩
theorem Qik : Qhg X (.type "int") (fun xs H Q => (∃ i, xs = [.int i]/\Q (.int i) H)\/∃ k, xs = [.bl k]/\Q (.int (if k then 1 else 0)) H) := by
 intro pins s σ H xs us Q I r h
 rcases h with ⟨i, rfl, q⟩ | ⟨k, rfl, q⟩
 ·obtain ⟨u, rfl, t, rfl⟩ := QiD r
  exact call_int_int ⟨.int i, H, I, ⟨_, rfl⟩, q⟩
 ·obtain ⟨u, rfl, r1⟩ := QiD r
  cases r1
  exact call_int_bool ⟨.int (if k then 1 else 0), H, I.tok _, ⟨_, rfl⟩, q⟩
end
end L2
namespace L2
open PySem PySem.Spec PyProof.Rows
section
variable {prog : Program} {w : World} {A : Around} {E : Value->Shared->Prop} {s : Shared} {K : PySem.W.Frag} {x dx C f : Addr} {mA : Str->Option Value} {name : Str} {v : Value}
end
theorem RelO.some_of {v : V} {o : Option Value} (r : RelO (some v) o) : ∃ u, o = some u/\RelV v u := by
 cases o with
 | none => exact (show False from r).elim
 | some u => exact ⟨u, rfl, r⟩
section
variable {P : Program} {w : World} {H H' : Hp} {h h' : Heap} {a C dx : Addr} {fs fs' : List (Str × V)}
end
section
variable {X : Cx} {pins : List (Addr × Obj)} {σ : St} {H : Hp} {s : Shared} {a C dx : Addr} {fs : List (Str × V)} {f : Str} {v : V} {A : Around} {E : Value->Shared->Prop}
end
section
variable {X : Cx} {o e value : Expr} {f : Str} {pos pos' tpos : Pos} {ta tv : TE}
end
section
variable {X : Cx} {pins : List (Addr × Obj)} {σ : St} {H : Hp} {s : Shared} {A : Around} {E : Value->Shared->Prop} {Q : Value->Shared->Prop} {c : Value} {b : Bool}
end
end L2
namespace L2
open PySem PySem.Spec PyProof.Rows
structure Room (k : Nat) (A : Around) : Prop where
 hd : A.handled = none
 dp : A.depth + 3 * k + 5 < recursionLimit
 un : A.units + 16 * k + 200 < cLine
theorem Room.mono {j k : Nat} {A : Around} (r : Room k A) (h : j<=k) : Room j A := ⟨r.hd, by have := r.dp; omega, by have := r.un; omega⟩
theorem Room.deeper {k : Nat} {A : Around} (r : Room (k + 1) A) (env : Env) : Room k (A.deeper env) :=
 ⟨r.hd, by have := r.dp; show A.depth + 1 + 3 * k + 5 < _; omega, by have := r.un; show A.units + 3 + 16 * k + 200 < _; omega⟩
theorem Room.in1 {k : Nat} {A : Around} (r : Room (k + 1) A) : Room k A.in1 :=
 ⟨r.hd, by have := r.dp; show A.depth + 3 * k + 5 < _; omega, by have := r.un; show A.units + 1 + 16 * k + 200 < _; omega⟩
theorem Room.depth {k : Nat} {A : Around} (r : Room k A) : A.depth < recursionLimit := by have := r.dp; omega
def tNil : TA := fun _ H Q => Q [] H
def tCons (ta : TE) (tr : TA) : TA := fun σ H Q => ta σ H fun x H1 => tr σ H1 fun xs H2 => Q (x :: xs) H2
section
variable {X : Cx} {e : Expr} {es : List Expr} {te : TE} {t : TA} {pos : Pos}
theorem pa_nil : PA X [] tNil := fun _ _ _ _ H Q I h => Calls.spliced_nil ⟨[], H, I, .nil, h⟩
theorem pa_cons (ha : PE X e te) (hr : PA X es t) (hs : starEach (e :: es) X.env = (false, eval e X.env) :: starEach es X.env := by rfl) : PA X (e :: es) (tCons te t) := by
 intro pos pins s σ H Q I h
 rw [hs]
 show wpAny _ _ (spliced ((false, eval e X.env) :: backTo pos (starEach es X.env))) _ _ s
 refine Calls.spliced_cons (thn (ha pins s σ H _ I h) fun u s1 ⟨x, H1, I1, r1, q1⟩ => ?_)
 exact thn (hr pos pins s1 σ H1 _ I1 q1) fun us s2 ⟨xs, H2, I2, r2, q2⟩ => ⟨x :: xs, H2, I2, .cons r1 r2, q2⟩
def tTup (t : TA) : TE := fun σ H Q => t σ H fun xs H1 => xs.length<=sizeLine/\∀ p, H1 p = none->Q (.ref p) (upd H1 p (.tup xs))
def tLst (t : TA) : TE := fun σ H Q => t σ H fun xs H1 => xs.length<=sizeLine/\∀ p, H1 p = none->Q (.ref p) (upd H1 p (.lst xs))
theorem pe_tup {x1} (h : PA X es t) : PE X (.Tuple es x1 pos) (tTup t) := by
 intro pins s σ H Q I hq
 refine wpAny_Tuple_spliced (thn (h pos pins s σ H _ I hq) fun us s1 ⟨xs, H1, I1, r, z, q⟩ => ⟨by rw [<-r.length]; exact z, ?_⟩)
 have hf : H1 s1.heap.objs.size = none := I1.hok.fresh (QnL _)
 refine ⟨.ref s1.heap.objs.size, upd H1 s1.heap.objs.size (.tup xs), I1.laid (t' := s1.toks) (fun b u e => QnG _ e) (QnL _) ?_, rfl, q _ hf⟩
 exact ⟨z, us, r, ⟨_, QnR _ rfl, rfl, _, rfl⟩⟩
theorem pe_lst (h : PA X es t) : PE X (.List es pos) (tLst t) := by
 intro pins s σ H Q I hq
 refine wpAny_List_spliced (thn (h pos pins s σ H _ I hq) fun us s1 ⟨xs, H1, I1, r, z, q⟩ => ⟨by rw [<-r.length]; exact z, ?_⟩)
 have hf : H1 s1.heap.objs.size = none := I1.hok.fresh (QnL _)
 refine ⟨.ref s1.heap.objs.size, upd H1 s1.heap.objs.size (.lst xs), I1.laid (t' := s1.toks) (fun b u e => QnG _ e) (QnL _) ?_, rfl, q _ hf⟩
 exact ⟨z, us, 0, r, QnR _ rfl⟩
end
abbrev Sp := List V->Hp->VK->XK->Prop
abbrev CXT := List Env->Hp->Shared->XK->Value->Shared->Prop
structure Env0 (P : Program) (w : World) (K : PySem.W.Frag) (mg : Str->Option Value) (base : Heap) (A : Around) (outer : List Env) (s : Shared) (H : Hp) : Prop where
 frames : A.frames = some outer
 mod : Mod K mg base
 bs : ∀ b o, base.get? b = some o->s.heap.get? b = some o/\H b = none
 bsz : base.objs.size<=s.heap.objs.size
 funs : s.heap.FunFrames base outer
 frf : ∀ b ∈ frs outer, H b = none
 hok : HOk P w H s.heap
 bare : AllBare s.gens
def CE (outer : List Env) (P : Program) (w : World) (H : Hp) (s : Shared) (Q : VK) (u : Value) (s' : Shared) : Prop :=
 ∃ v H', s'.os = s.os/\AllBare s'.gens/\Un (frs outer) [] H H' s.heap s'.heap/\HOk P w H' s'.heap/\RelV v u/\Q v H'
def CR (CX : CXT) (outer : List Env) (P : Program) (w : World) (H : Hp) (s : Shared) (Q : VK) (E : XK) (r : Result) (s' : Shared) : Prop :=
 match r with
 | .ok (.ret u) => CE outer P w H s Q u s'
 | .ok _ => False
 | .error e => CX outer H s E e s'
structure FnOk (P : Program) (w : World) (K : PySem.W.Frag) (mg : Str->Option Value) (base : Heap) (CX : CXT) (k : Nat) (f : Addr) (fd : FuncData) (ps : List Str) (sp : Sp) : Prop where
 len : ∀ vs H Q E, sp vs H Q E->vs.length = ps.length
 run : ∀ (A : Around) (outer : List Env) (s : Shared) (H : Hp) (args : Args) (us : List Value) (vs : List V) (Q : VK) (E : XK), Room k A->Env0 P w K mg base A outer s H->BindsTo s fd args (ps.zip us)->Vals vs us->sp vs H Q E ->
  codeAny (model P w) A (.call (.ref f) args) (CR CX outer P w H s Q E) s
theorem FnOk.mono {P : Program} {w : World} {K : PySem.W.Frag} {mg : Str->Option Value} {base : Heap} {CX : CXT} {j k : Nat} {f : Addr} {fd : FuncData} {ps : List Str} {sp : Sp} (F : FnOk P w K mg base CX j f fd ps sp) (h : j<=k) :
  FnOk P w K mg base CX k f fd ps sp := ⟨F.len, fun A outer s H args us vs Q E hr => F.run A outer s H args us vs Q E (hr.mono h)⟩
theorem Env0.in1 {P : Program} {w : World} {K : PySem.W.Frag} {mg : Str->Option Value} {base : Heap} {A : Around} {outer : List Env} {s : Shared} {H : Hp} (e : Env0 P w K mg base A outer s H) :
  Env0 P w K mg base A.in1 outer s H := ⟨e.frames, e.mod, e.bs, e.bsz, e.funs, e.frf, e.hok, e.bare⟩
section
variable {X : Cx} {pins : List (Addr × Obj)} {σ : St} {H : Hp} {s s' : Shared}
theorem Inv.env0 (I : Inv X pins σ H s) : Env0 X.prog X.w X.K X.mg X.base X.A X.stack s H :=
 ⟨I.ok.frames, I.ok.mod, I.bs, QnV I.ok.bsz I.sz, I.stack, I.stkFree, I.hok, I.bare⟩
theorem Inv.after {Q : VK} {u : Value} (I : Inv X pins σ H s) (h : CE X.stack X.prog X.w H s Q u s') : EP X pins σ Q u s' := by
 obtain ⟨v, H', os, bare, un, hok, r, q⟩ := h
 obtain ⟨hh, g, d, t, os'⟩ := s'
 obtain rfl : os' = s.os := os
 exact ⟨v, H', I.call (h' := hh) (g' := g) (d' := d) (t' := t) (ch := []) un hok bare (fun b z => absurd z (by simp)), r, q⟩
end
def tCall (sp : Sp) (dvs : List V) (E : XK) (t : TA) : TE := fun σ H Q => t σ H fun vs H1 => sp (vs ++ dvs) H1 Q E
def Qcs (K : PySem.W.Frag) (fd : FuncData) (ps : List Str) (ds : List Value) : Prop :=
 ∀ (s : Shared) (us : List Value), K.In s.heap->(us ++ ds).length = ps.length->BindsTo s fd ⟨us, []⟩ (ps.zip (us ++ ds))
theorem Qcs.all {K : PySem.W.Frag} {fd : FuncData} {ps : List Str} (h : ∀ us : List Value, us.length = ps.length->bindArgs fd ⟨us, []⟩ = pure (ps.zip us)) : Qcs K fd ps [] := fun s us _ hl => by
 rw [List.append_nil] at hl ⊢
 exact .of_eq (h us hl)
def Qnw (CX : CXT) (X : Cx) (E : XK) : Prop := ∀ (pins : List (Addr × Obj)) (σ : St) (H : Hp) (s : Shared) (e : Value) (s' : Shared), Inv X pins σ H s->CX X.stack H s E e s'->X.xe e s'
section
variable {X : Cx} {CX : CXT} {k : Nat} {f C : Addr} {fd : FuncData} {ps : List Str} {sp : Sp} {dvs : List V} {ds : List Value} {E : XK} {x m : Str} {p pos apos : Pos} {e o : Expr} {es : List Expr} {ta : TE} {t : TA}
theorem run_fn {pins : List (Addr × Obj)} {σ : St} {H : Hp} {s : Shared} {Q : VK} {us : List Value} {vs : List V} (F : FnOk X.prog X.w X.K X.mg X.base CX k f fd ps sp) (hr : Room k X.A) (hb : Qcs X.K fd ps ds) (hd : Vals dvs ds) (hx : Qnw CX X E)
  (I : Inv X pins σ H s) (r : Vals vs us) (h : sp (vs ++ dvs) H Q E) : wpAny (model X.prog X.w) X.A (call (.ref f) us) (EP X pins σ Q) X.xe s := by
 have r2 : Vals (vs ++ dvs) (us ++ ds) := r.append hd
 have hl : (us ++ ds).length = ps.length := by rw [<-r2.length]; exact F.len _ _ _ _ h
 refine wpAny_call (codeAny_mono (F.run X.A X.stack s H ⟨us, []⟩ (us ++ ds) (vs ++ dvs) Q E hr I.env0 (hb s us I.kIn hl) r2 h) fun r s' hq => ?_)
 cases r with
 | error e => exact hx pins σ H s e s' I hq
 | ok fl =>
  cases fl with
  | ret u => exact I.after hq
  | next => exact False.elim hq
  | brk => exact False.elim hq
  | cont => exact False.elim hq
theorem pe_call (F : FnOk X.prog X.w X.K X.mg X.base CX k f fd ps sp) (hr : Room k X.A) (hg : Gl X x) (hm : X.mg x = some (.ref f)) (hk : PySem.W.keepIn X.K (.ref f) = true) (hb : Qcs X.K fd ps ds) (hd : Vals dvs ds) (hx : Qnw CX X E)
  (ha : PA X (e :: es) t) (hdb : (x == ("__debug__" : Str)) = false := by decide) (he : starEach (e :: es) X.env = (false, eval e X.env) :: starEach es X.env := by rfl) (hpl : (backTo pos (starEach es X.env)).any (·.1) = false := by rfl) :
  PE X (.Call (.Name x p) (e :: es) [] pos) (tCall sp dvs E t) := by
 intro pins s σ H Q I h
 refine wpAny_Call_Name_kw (Qmm I hg hm ?_ hdb)
 refine PySem.W.callWith_K (h₀ := X.base) I.ok.mod.kin hk (thn (ha pos pins s σ H _ I h) fun us s1 ⟨vs, H1, I1, r, q⟩ => ⟨I1.kIn, ?_⟩) he hpl
 exact run_fn F hr hb hd hx I1 r q
end
def PK (X : Cx) (kws : List Keyword) (t : TA) : Prop :=
 ∀ (pos : Pos) (pins : List (Addr × Obj)) (s : Shared) (σ : St) (H : Hp) (Q : List V->Hp->Prop), Inv X pins σ H s->t σ H Q->wpAny (model X.prog X.w) X.A (evalAll ((backToKw pos (keywordEach kws X.env)).map (·.2))) (AP X pins σ Q) X.xe s
section
variable {X : Cx} {CX : CXT} {k : Nat} {f C : Addr} {fd : FuncData} {ps ks : List Str} {sp : Sp} {E : XK} {x m : Str} {p pos apos kpos : Pos} {e o : Expr} {es : List Expr} {kws : List Keyword} {te ta : TE} {t tk : TA} {nm : Option Str}
theorem pk_nil : PK X [] tNil := fun _ _ _ _ H Q I h => wpAny_evalAll_nil ⟨[], H, I, .nil, h⟩
theorem QlF (ha : PE X e te) (hr : PK X kws t) : PK X (⟨nm, e, kpos⟩ :: kws) (tCons te t) := by
 intro pos pins s σ H Q I h
 show wpAny _ _ (evalAll ((do let v <-eval e X.env; standAt pos; pure v) :: (backToKw pos (keywordEach kws X.env)).map (·.2))) _ _ s
 refine wpAny_evalAll_cons (wpAny_bind (thn (ha pins s σ H _ I h) fun u s1 ⟨x, H1, I1, r1, q1⟩ => wpAny_bind (wpAny_standAt (wpAny_pure ?_))))
 exact thn (hr pos pins s1 σ H1 _ I1 q1) fun us s2 ⟨xs, H2, I2, r2, q2⟩ => ⟨x :: xs, H2, I2, .cons r1 r2, q2⟩
variable {g : List Value->List Value->List Value} {gV : List V->List V->List V}
end
structure FnScope (N P : List Str) (sc : Scope) : Prop where
 kind : sc.kind = .function
 co : sc.isCoroutine = false
 gen : sc.isGenerator = false
 nd : N.Nodup
 pre : N.take P.length = P
 par : ∀ x ∈ P, sc.names.lookup x = some .local\/sc.names.lookup x = some .cell
 nofree : ∀ y ∈ sc.names, y.2 ≠ .free
theorem Qim {kindOf : Str->Option NameKind} {x : Str} : ∀ {binds : List (Str × Value)} {m : Str->Option Value}, (∀ v, (x, v) ∉ binds)->bindL kindOf binds m x = m x
 | [], _, _ => rfl
 | (n, v) :: r, m, h => by
  unfold bindL
  rw [Qim fun w hw => h w (QnN _ hw)]
  split
  ·have : x ≠ n := by rintro rfl; exact h v QnI
   simp [this]
  ·rfl
theorem Qio {kindOf : Str->Option NameKind} {x : Str} : ∀ {binds : List (Str × Value)} {m : Str->Option Value}, (∀ v, (x, v) ∉ binds)->bindC kindOf binds m x = m x
 | [], _, _ => rfl
 | (n, v) :: r, m, h => by
  unfold bindC
  rw [Qio fun w hw => h w (QnN _ hw)]
  split
  ·rfl
  ·have : x ≠ n := by rintro rfl; exact h v QnI
   simp [this]
theorem Qin {kindOf : Str->Option NameKind} {x : Str} {v : Value} : ∀ {P : List Str} {vs : List Value} {i : Nat} {m : Str->Option Value}, P.Nodup->P[i]? = some x->vs[i]? = some v->kindOf x = some .local ->
  bindL kindOf (P.zip vs) m x = some v
 | [], _, _, _, _, h, _, _ => by simp at h
 | _ :: _, [], _, _, _, _, h, _ => by simp at h
 | p :: P, w :: vs, 0, m, nd, h1, h2, hk => by
  simp at h1 h2; subst h1; subst h2
  show bindL kindOf ((p, w) :: P.zip vs) m p = _
  unfold bindL
  rw [Qim fun v hv => (List.nodup_cons.mp nd).1 (List.of_mem_zip hv).1, if_pos hk]
  simp
 | p :: P, w :: vs, i + 1, m, nd, h1, h2, hk => by
  show bindL kindOf ((p, w) :: P.zip vs) m x = _
  unfold bindL
  exact Qin (i := i) (List.nodup_cons.mp nd).2 (by simpa using h1) (by simpa using h2) hk
theorem Qip {kindOf : Str->Option NameKind} {x : Str} {v : Value} : ∀ {P : List Str} {vs : List Value} {i : Nat} {m : Str->Option Value}, P.Nodup->P[i]? = some x->vs[i]? = some v->kindOf x ≠ some .local ->
  bindC kindOf (P.zip vs) m x = some v
 | [], _, _, _, _, h, _, _ => by simp at h
 | _ :: _, [], _, _, _, _, h, _ => by simp at h
 | p :: P, w :: vs, 0, m, nd, h1, h2, hk => by
  simp at h1 h2; subst h1; subst h2
  show bindC kindOf ((p, w) :: P.zip vs) m p = _
  unfold bindC
  rw [Qio fun v hv => (List.nodup_cons.mp nd).1 (List.of_mem_zip hv).1, if_neg hk]
  simp
 | p :: P, w :: vs, i + 1, m, nd, h1, h2, hk => by
  show bindC kindOf ((p, w) :: P.zip vs) m x = _
  unfold bindC
  exact Qip (i := i) (List.nodup_cons.mp nd).2 (by simpa using h1) (by simpa using h2) hk
def start (N : List Str) (vs : List V) : St := vs.map some ++ List.replicate (N.length - vs.length) none
def cxOf (CX : CXT) (P : Program) (w : World) (K : PySem.W.Frag) (mg : Str->Option Value) (base : Heap) (N : List Str) (qual : Str) (scope : Scope) (f : Addr) (cd : Value) (A : Around) (outer : List Env) (s : Shared) (H : Hp) (E : XK) : Cx where
 prog := P
 w := w
 K := K
 mg := mg
 base := base
 A := A.deeper (envOfC qual scope s.heap.objs.size f cd)
 N := N
 s₀ := s
 H₀ := H
 env := envOfC qual scope s.heap.objs.size f cd
 outer := outer
 stack := envOfC qual scope s.heap.objs.size f cd :: outer
 ex := []
 calm := true
 fn := fun _ => true
 pn := []
 xe := fun e s' => wpAny (model P w) (A.deeper (envOfC qual scope s.heap.objs.size f cd)) (leaving (envOfC qual scope s.heap.objs.size f cd) e) (fun _ s'' => CX outer H s E e s'') (fun e' s'' => CX outer H s E e' s'') s'
theorem QjU {sc : Scope} {n : Nat} {x : Str} (h : sc.names.lookup x = some .cell) : ∃ c, (cellsFrom n sc.names []).lookup x = some c := by
 have q := PySem.W.cellsFrom_some sc.names n [] (.inl h)
 exact Option.isSome_iff_exists.mp q
theorem Qmy {CX : CXT} {P : Program} {w : World} {K : PySem.W.Frag} {mg : Str->Option Value} {base : Heap} {N ps : List Str} {qual : Str} {scope : Scope} {f : Addr} {cd : Value} {A : Around} {outer : List Env} {s s1 : Shared} {H : Hp} {E : XK} {us : List Value} {vs : List V}
  (S : FnScope N ps scope) (hd : A.handled = none) (e0 : Env0 P w K mg base A outer s H) (hl : vs.length = ps.length) (r : Vals vs us)
  (x : InCallC s s.heap.objs.size (bindL (envOfC qual scope s.heap.objs.size f cd).kindOf (ps.zip us) fun _ => none) (cellsFrom (s.heap.objs.size + 1) scope.names []) (bindC (envOfC qual scope s.heap.objs.size f cd).kindOf (ps.zip us) fun _ => none) s1) :
  Inv (cxOf CX P w K mg base N qual scope f cd A outer s H E) [] (start N vs) H s1 := by
 have hpl : ps.length<=N.length := by have := congrArg List.length S.pre; rw [List.length_take] at this; omega
 obtain ⟨h1, tk, rfl, hk⟩ := x.done
 have noA : ∀ b : Addr, b ∉ (cxOf CX P w K mg base N qual scope f cd A outer s H E).ex := fun b z => absurd (show b ∈ ([] : List Addr) from z) (by simp)
 refine ⟨⟨e0.mod, S.kind, rfl, rfl, QnL _, fun y z c h1 h2 => ?_, fun y hy => ?_, fun y c _ h => ?_, fun _ => hd, Around.frames_deeper e0.frames, .inr ⟨rfl, rfl⟩, fun b z => absurd z (noA b), e0.bs, e0.bsz, fun b _ _ => noA b, fun b z => absurd z (noA b), e0.funs, e0.frf⟩,
  rfl, e0.bare, Un.kept hk, ⟨_, x.toInCall.ns, fun i y v h1 h2 h3 => ?_⟩, fun y c h => ⟨_, x.cell y c h⟩, e0.hok.fresh (QnL _), fun y c h => ?_, fun p hp => absurd (show p ∈ ([] : List (Addr × Obj)) from hp) (by simp), e0.hok.kept hk, ?_⟩
 ·exact name_of_addr x.apart (PySem.mem_of_lookup h1) (PySem.mem_of_lookup h2)
 ·have hy : scope.names.lookup y = some .cell\/scope.names.lookup y = some .free := hy
  rcases hy with hy | hy
  ·exact QjU hy
  ·exact absurd rfl (S.nofree _ (PySem.mem_of_lookup hy))
 ·exact Nat.le_of_lt (x.above y c (PySem.mem_of_lookup h))
 ·have hi : i < vs.length := by
   unfold start at h2
   by_cases hi : i < vs.length
   ·exact hi
   ·rw [List.getElem?_append_right (by simpa using hi)] at h2
    rw [List.getElem?_replicate] at h2
    split at h2 <;> cases h2
  have ha : vs[i]? = some v := by
   unfold start at h2
   rw [List.getElem?_append_left (by simpa using hi), QnT] at h2
   cases e : vs[i]? with
   | none => rw [e] at h2; cases h2
   | some a => rw [e] at h2; cases h2; rfl
  obtain ⟨u, hu, rv⟩ := r.get ha
  have hp : ps[i]? = some y := by
   rw [<-S.pre, List.getElem?_take_of_lt (by omega)]; exact h1
  have ndP : ps.Nodup := by rw [<-S.pre]; exact S.nd.sublist (List.take_sublist _ _)
  refine ⟨u, rv, ?_⟩
  rcases S.par y (List.mem_of_getElem? hp) with k | k
  ·exact .inl ⟨k, Qin ndP hp hu k⟩
  ·obtain ⟨c, e⟩ := QjU (n := s.heap.objs.size + 1) k
   refine .inr ⟨.inl k, c, e, ?_⟩
   have q := x.cell y c e
   rw [Qip ndP hp hu (by show scope.names.lookup y ≠ _; rw [k]; decide)] at q
   exact q
 ·exact e0.hok.fresh (Nat.le_of_lt (x.above y c (PySem.mem_of_lookup h)))
 ·unfold start
  show _ = N.length
  rw [QnO, QnM, List.length_replicate]
  omega
theorem fn_of {CX : CXT} {P : Program} {w : World} {K : PySem.W.Frag} {mg : Str->Option Value} {base : Heap} {k : Nat} {f : Addr} {name qual : Str} {params : Arguments} {body : List Stmt} {scope : Scope} {dV kV doc pm cdv ct oc : Value} {an od : Option Addr}
  {osl : Array (Option Value)} {N ps : List Str} {sp : Sp} (lk : K.lookup f = some ⟨oc, od, .func (PySem.W.fnOf name qual params body scope dV kV doc pm an cdv ct), osl⟩) (hcd : PySem.W.codeIn K cdv qual = true) (S : FnScope N ps scope)
  (len : ∀ vs H Q E, sp vs H Q E->vs.length = ps.length)
  (hbody : ∀ (A : Around) (outer : List Env) (s : Shared) (H : Hp) (vs : List V) (Q : VK) (E : XK), Room k (A.deeper (envOfC qual scope s.heap.objs.size f cdv))->sp vs H Q E ->
   ∃ t, PSs (cxOf CX P w K mg base N qual scope f cdv A outer s H E) body t/\t { nx := fun _ H' => Q .non H', rt := Q } (start N vs) H) :
  FnOk P w K mg base CX (k + 1) f (PySem.W.fnOf name qual params body scope dV kV doc pm an cdv ct) ps sp := by
 refine ⟨len, fun A outer s H args us vs Q E hr e0 hb r hsp => ?_⟩
 have hl := len _ _ _ _ hsp
 have KX : K.In s.heap := e0.mod.kin.keeps fun b o e => (e0.bs b o e).1
 have lim : s.heap.NoLimit := e0.mod.nolimit.keeps fun b o e => (e0.bs b o e).1
 have hkind : ∀ y ∈ ps.zip us, scope.names.lookup y.1 = some .local\/(scope.names.lookup y.1 = some .cell/\((cellsFrom (s.heap.objs.size + 1) scope.names []).lookup y.1).isSome = true) := fun ⟨n, v⟩ hy => by
  rcases S.par n (List.of_mem_zip hy).1 with q | q
  ·exact .inl q
  ·exact .inr ⟨q, PySem.W.cellsFrom_some _ _ _ (.inl q)⟩
 refine codeAny_call_function hr.depth (KX _ _ lk) rfl S.co S.gen rfl (PySem.W.codeRec_of KX hcd) (hb _ _ _ _ ?_)
 refine wpAny_newFunctionEnv_cells S.kind hkind fun env he s1 x => ?_
 subst he
 refine ⟨lim.keeps x.toInCall.keep, codeAny_func ?_⟩
 obtain ⟨t, ht, hq⟩ := hbody A outer s H vs Q E (hr.deeper _) hsp
 have I : Inv (cxOf CX P w K mg base N qual scope f cdv A outer s H E) [] (start N vs) H s1 := Qmy S hr.hd e0 hl r x
 refine wpAny_mono (ht [] s1 (start N vs) H _ I hq) (fun fl s' hs => ?_) fun e s' hs => hs
 have fin : ∀ {σ' : St} {H' : Hp} {v : V} {u : Value}, Inv (cxOf CX P w K mg base N qual scope f cdv A outer s H E) [] σ' H' s'->RelV v u->Q v H'->CE outer P w H s Q u s' :=
  fun {σ' H' v u} J rv q => ⟨v, H', J.os, J.bare, J.base, J.hok, rv, q⟩
 cases fl with
 | ret u =>
  obtain ⟨v, σ', H', J, rv, q⟩ := hs
  exact fin J rv q
 | next =>
  obtain ⟨σ', H', J, q⟩ := hs
  exact fin (v := V.non) (u := Value.none) J rfl q
 | brk =>
  obtain ⟨_, _, _, q⟩ := hs
  exact False.elim q
 | cont =>
  obtain ⟨_, _, _, q⟩ := hs
  exact False.elim q
end L2
namespace L2
open PySem PySem.Spec PyProof.Rows
section
variable {X : Cx} {x : Str} {p pos : Pos} {e : Expr} {es : List Expr} {t : TA} {id T : String} {r : List V->Hp->VK->Prop}
def tCB (r : List V->Hp->VK->Prop) (t : TA) : TE := fun σ H Q => t σ H fun vs H1 => r vs H1 Q
theorem pe_callB (hc : Qhg X (.builtin id) r) (hg : Gl X x) (hm : X.mg x = none) (hv : bootBuiltins x = some (.builtin id)) (ha : PA X (e :: es) t) (hn : x ≠ "__name__" := by decide) (hdb : (x == ("__debug__" : Str)) = false := by decide)
  (he : starEach (e :: es) X.env = (false, eval e X.env) :: starEach es X.env := by rfl) (hpl : (backTo pos (starEach es X.env)).any (·.1) = false := by rfl) : PE X (.Call (.Name x p) (e :: es) [] pos) (tCB r t) := by
 intro pins s σ H Q I h
 refine wpAny_Call_Name_kw (Qfc I hg hm hv ?_ hn hdb)
 exact PyProof.Rows.callWith_builtin1 (thn (ha pos pins s σ H _ I h) fun us s1 ⟨vs, H1, I1, r1, q1⟩ => hc pins s1 σ H1 vs us Q I1 r1 q1) he hpl
theorem QlL (hc : Qhg X (.type T) r) (hg : Gl X x) (hm : X.mg x = none) (hv : bootBuiltins x = some (.type T)) (ha : PA X (e :: es) t) (hn : x ≠ "__name__" := by decide) (hdb : (x == ("__debug__" : Str)) = false := by decide)
  (he : starEach (e :: es) X.env = (false, eval e X.env) :: starEach es X.env := by rfl) (hpl : (backTo pos (starEach es X.env)).any (·.1) = false := by rfl) : PE X (.Call (.Name x p) (e :: es) [] pos) (tCB r t) := by
 intro pins s σ H Q I h
 refine wpAny_Call_Name_kw (Qfc I hg hm hv ?_ hn hdb)
 exact PyProof.Rows.callWith_type1 (thn (ha pos pins s σ H _ I h) fun us s1 ⟨vs, H1, I1, r1, q1⟩ => hc pins s1 σ H1 vs us Q I1 r1 q1) he hpl
end
end L2
namespace HT
open PySem PyProof.Rows
theorem rcLt_int (A : Around) (s : Shared) (a : Int) (t : Tok) (c : Int) (u : Tok) (prog : Program) (w : World) (E : Value->Shared->Prop) (Q : Value->Shared->Prop) (h : Q (.bool (decide (a < c))) s) :
  wpAny (model prog w) A (richCompare .Lt (.int a t) (.int c u)) Q E s :=
 (PyProof.Rows.lt_int h : wpAny (model prog w) A (compareOp .Lt (.int a t) (.int c u)) Q E s)
section
open PySem.SeqAt
open PySem.AutoSeq1 (wpAny_loadPart')
open PySem.MeetsSeq PySem.MeetsSeq2 PySem.MeetsSeq3
end
section
variable {prog : Program} {w : World} {A : Around} {E : Value->Shared->Prop} {s : Shared}
theorem cat_tup {t b : Addr} {vs ws : List Value} {Q : Value->Shared->Prop} (ht : IsTup s.heap t vs.toArray) (hb : IsTup s.heap b ws.toArray) (hv : vs ≠ [])
  (h1 : ws = []->Q (.ref t) s) (h2 : ws ≠ []->Q (.ref s.heap.objs.size) { s with heap := s.heap.push { cls := .type "tuple", data := .seq (vs ++ ws).toArray } })
  (hsz : vs.length + ws.length<=sizeLine) : wpAny (model prog w) A (binaryOp .Add (.ref t) (.ref b)) Q E s := by
 obtain ⟨⟨cls, dd, data, sl⟩, ho, hc, n, hd⟩ := id ht
 obtain ⟨⟨cls2, dd2, data2, sl2⟩, ho2, hc2, n2, hd2⟩ := id hb
 simp only at hc hd hc2 hd2
 subst hc hd hc2 hd2
 have e : vs.toArray ++ ws.toArray = (vs ++ ws).toArray := by simp
 by_cases hw : ws = []
 ·exact concat_meets ⟨_, ho, rfl⟩ ⟨_, ho2, rfl⟩ noFill_tuple_add seq_tuple_add PySem.F.slot_tuple_add PySem.F.entry_tuple_add (PySem.F.args_tuple_add_2 _ _)
   (tuple_addW1 t b vs.toArray ws.toArray n n2 dd dd2 sl sl2 (by simpa using hv) (by simp [hw])) ⟨ho, ho2, h1 hw⟩
 ·refine concat_meets ⟨_, ho, rfl⟩ ⟨_, ho2, rfl⟩ noFill_tuple_add seq_tuple_add PySem.F.slot_tuple_add PySem.F.entry_tuple_add (PySem.F.args_tuple_add_2 _ _)
   (tuple_addW2 t b vs.toArray ws.toArray n n2 dd dd2 sl sl2 (by simpa using hv) (by simpa using hw) (by rw [QnK, QnK]; exact hsz)) ⟨ho, ho2, ?_⟩
  rw [e]
  exact h2 hw
def sIx (n d : Nat) : Option Int->Nat
 | none => d
 | some v => if v < 0 then (v + (n : Int)).toNat else min v.toNat n
theorem sIx_none (n d : Nat) : sIx n d none = d := rfl
theorem sIx_nat (n d k : Nat) : sIx n d (some (k : Int)) = min k n := by
 show (if (k : Int) < 0 then ((k : Int) + (n : Int)).toNat else min (k : Int).toNat n) = min k n
 rw [if_neg (by omega), Int.toNat_natCast]
theorem sIx_le (n d : Nat) (hd : d<=n) (o : Option Int) : sIx n d o<=n := by
 cases o with
 | none => exact hd
 | some v =>
  show (if v < 0 then (v + (n : Int)).toNat else min v.toNat n)<=n
  by_cases hv : v < 0
  ·rw [if_pos hv]; omega
  ·rw [if_neg hv]; exact Nat.min_le_right _ _
theorem Qni (v : Int) (n d : Nat) : (if v < 0 then max (v + (n : Int)) 0 else min v (n : Int)) = ((sIx n d (some v) : Nat) : Int) := by
 show (if v < 0 then max (v + (n : Int)) 0 else min v (n : Int)) = (((if v < 0 then (v + (n : Int)).toNat else min v.toNat n) : Nat) : Int)
 by_cases hv : v < 0
 ·simp only [if_pos hv]; omega
 ·simp only [if_neg hv]; omega
theorem QkS (lo hi : Option Int) (n : Nat) : Builtin.Slice.sliceAdjust lo hi 1 (n : Int) = (((sIx n 0 lo : Nat) : Int), ((sIx n n hi : Nat) : Int)) := by
 have h1 : ¬ ((1 : Int) < 0) := by omega
 unfold Builtin.Slice.sliceAdjust
 simp only [h1, if_false]
 refine Prod.ext ?_ ?_
 ·cases lo with
  | none => rfl
  | some v => exact Qni v n 0
 ·cases hi with
  | none => rfl
  | some v => exact Qni v n n
theorem Qkm (i j : Nat) : Builtin.Slice.slicePlaces (i : Int) (j : Int) 1 = j - i := by
 unfold Builtin.Slice.slicePlaces
 have h1 : (1 : Int) > 0 := by omega
 simp only [h1, if_true, Int.ediv_one]
 split <;> omega
theorem QfL {v : Value} {o : Option Int} {Q : Option Int->Shared->Prop} (p : IsPart v o) (h : Q o s) : wpAny (model prog w) A (Builtin.Slice.slicePartIndex v) Q E s := by
 cases p with
 | none => exact slicePart_none h
 | int i t => exact slicePart_int h
theorem sliceApplied_gen {sl : Addr} {vl vu : Value} {lo hi : Option Int} {n : Nat} {Q : Int × Int × Nat->Shared->Prop} (hs : s.heap.IsSliceOf sl vl vu .none) (pl : IsPart vl lo) (pu : IsPart vu hi)
  (h : Q (((sIx n 0 lo : Nat) : Int), 1, sIx n n hi - sIx n 0 lo) s) : wpAny (model prog w) A (Builtin.Slice.sliceApplied (.ref sl) (pure (n : Int))) Q E s := by
 obtain ⟨os, hos, hcs, hds⟩ := id hs
 unfold Builtin.Slice.sliceApplied Builtin.Slice.sliceFields
 refine wpAny_bind (wpAny_bind (wpAny_field hos hds (x := vl) rfl (wpAny_bind (wpAny_field hos hds (x := vu) rfl (wpAny_bind (wpAny_field hos hds (x := .none) rfl (wpAny_pure ?_)))))))
 refine wpAny_bind (slicePart_none ?_)
 show wpAny _ _ (if ((1 : Int) == 0) = true then _ else _) _ _ s
 rw [if_neg (by decide)]
 refine wpAny_bind (QfL pl (wpAny_bind (QfL pu (wpAny_bind (wpAny_pure ?_)))))
 show wpAny _ _ (match Builtin.Slice.sliceAdjust lo hi 1 (n : Int) with | (lo, hi) => pure (lo, (1 : Int), Builtin.Slice.slicePlaces lo hi 1)) _ _ s
 rw [QkS lo hi n]
 show wpAny _ _ (pure (((sIx n 0 lo : Nat) : Int), (1 : Int), Builtin.Slice.slicePlaces ((sIx n 0 lo : Nat) : Int) ((sIx n n hi : Nat) : Int) 1)) _ _ s
 rw [Qkm]
 exact wpAny_pure h
theorem pick_gen (xs : Array Value) (i k : Nat) : ((List.range k).filterMap fun (m : Nat) => xs[((i : Int) + (m : Int) * 1).toNat]?).toArray = ((xs.toList.drop i).take k).toArray := by
 have e : (fun (m : Nat) => xs[((i : Int) + (m : Int) * 1).toNat]?) = fun m => xs[i + m]? := by
  funext m
  have : ((i : Int) + (m : Int) * 1).toNat = i + m := by omega
  rw [this]
 rw [e]
 have := pick_run xs i k
 rw [List.filterMap_map] at this
 have e2 : ((fun x => xs[x]?) ∘ fun x => i + x) = fun m => xs[i + m]? := rfl
 rw [e2] at this
 rw [this]
theorem getItem_tuple_cut {t sl : Addr} {items : Array Value} {vl vu : Value} {lo hi : Option Int} {Q : Value->Shared->Prop} (ht : IsTup s.heap t items) (hs : s.heap.IsSliceOf sl vl vu .none) (pl : IsPart vl lo) (pu : IsPart vu hi)
  (hw : ¬ (sIx items.size 0 lo = 0/\sIx items.size items.size hi = items.size))
  (h : Q (.ref s.heap.objs.size) { s with heap := s.heap.push { cls := .type "tuple", data := .seq ((items.toList.drop (sIx items.size 0 lo)).take (sIx items.size items.size hi - sIx items.size 0 lo)).toArray } })
  (hsz : items.size<=sizeLine) : wpAny (model prog w) A (getItem (.ref t) (.ref sl)) Q E s := by
 have htake : sizeOk (.seq ((items.toList.drop (sIx items.size 0 lo)).take (sIx items.size items.size hi - sIx items.size 0 lo)).toArray) := by
  show ((items.toList.drop (sIx items.size 0 lo)).take (sIx items.size items.size hi - sIx items.size 0 lo)).toArray.size<=sizeLine
  rw [QnK, List.length_take, List.length_drop, Array.length_toList]
  omega
 have hj : sIx items.size items.size hi<=items.size := sIx_le _ _ (QnL _) hi
 obtain ⟨os, hos, hcs, hds⟩ := id hs
 have hTs : s.TypeIs (.ref sl) "slice" := ⟨os, hos, hcs⟩
 unfold getItem
 try with_reducible refine wpAny_holding ?_
 first | refine wpAny_bind (wpAny_pure ?_) | skip
 refine wpAny_bind (wpAny_sequenceKey ht.typeIs (by decide) ?_)
 refine wpAny_bind (wpAny_callSpecial?_slot (name := Str.ofString "__getitem__") ht.typeIs PyProof.Rows.slot_tuple_getitem
  (wpAny_call_entry PyProof.Rows.slot_tuple_getitem ht.typeIs entry_tuple_getitem ?_ (args_tuple_getitem _ _)))
 show wpAny _ _ (Builtin.Tuple.tupleItemsOf (.ref t) >>= _) _ _ s
 refine wpAny_bind (tupleItemsOf_ ht ?_)
 refine wpAny_bind (wpAny_typeOf hTs ?_)
 rw [if_pos (by decide)]
 refine wpAny_bind (sliceApplied_gen hs pl pu ?_)
 have hno : ¬ ((((sIx items.size 0 lo : Nat) : Int) == 0 && (1 : Int) == 1 && (sIx items.size items.size hi - sIx items.size 0 lo) == items.size) = true) := by
  intro q
  rw [QnX, QnX] at q
  have q1 : ((sIx items.size 0 lo : Nat) : Int) = 0 := eq_of_beq q.1.1
  have q2 : sIx items.size items.size hi - sIx items.size 0 lo = items.size := eq_of_beq q.2
  exact hw ⟨by omega, by omega⟩
 show wpAny _ _ (if (((sIx items.size 0 lo : Nat) : Int) == 0 && (1 : Int) == 1 && (sIx items.size items.size hi - sIx items.size 0 lo) == items.size) = true then _ else _) _ _ s
 rw [if_neg hno, pick_gen]
 first
  | exact wpAny_bind (m := Builtin.Tuple.tupleExact _) (wpAny_newObj_type (wpAny_pure ⟨_, rfl, wpAny_pure h⟩) htake)
  | exact wpAny_bind (m := Builtin.Tuple.tupleExact _) (wpAny_newObj_type (wpAny_bind (wpAny_pure (wpAny_pure ⟨_, rfl, wpAny_pure h⟩))) htake)
  | exact wpAny_bind (wpAny_bind (m := Builtin.Tuple.tupleExact _) (wpAny_newObj_type (wpAny_pure (wpAny_pure ⟨_, rfl, wpAny_pure h⟩)) htake))
  | exact wpAny_bind (wpAny_bind (m := Builtin.Tuple.tupleExact _) (wpAny_newObj_type (wpAny_pure ⟨_, rfl, wpAny_pure h⟩) htake))
end
end HT
namespace L2
open PySem PySem.Spec PyProof.Rows
abbrev TO := St->Hp->(Option Int->Hp->Prop)->Prop
def PO (X : Cx) (e : Option Expr) (t : TO) : Prop :=
 ∀ (pins : List (Addr × Obj)) (s : Shared) (σ : St) (H : Hp) (Q : Option Int->Hp->Prop), Inv X pins σ H s->t σ H Q ->
  wpAny (model X.prog X.w) X.A (evalPart e X.env) (fun u s' => ∃ o H', Inv X pins σ H' s'/\IsPart u o/\Q o H') X.xe s
def tNoPart : TO := fun _ H Q => Q none H
def tPart (t : TE) : TO := fun σ H Q => t σ H fun x H1 => ∃ i, x = .int i/\Q (some i) H1
section
variable {X : Cx} {e : Expr} {te : TE} {lo hi : Option Expr} {tl th : TO} {pos p2 : Pos}
theorem Qgw : PO X none tNoPart := by
 intro pins s σ H Q I h
 rw [evalPart_none]
 exact wpAny_pure ⟨none, H, I, .none, h⟩
theorem Qgv (h : PE X e te) : PO X (some e) (tPart te) := by
 intro pins s σ H Q I hw
 rw [evalPart_some]
 refine thn (h pins s σ H _ I hw) fun u s1 ⟨x, H1, I1, r1, q1⟩ => ?_
 obtain ⟨i, rfl, q⟩ := q1
 obtain ⟨t, rfl⟩ := r1
 exact ⟨some i, H1, I1, .int i t, q⟩
def SlR (X : Cx) (r : V->Option Int->Option Int->Hp->VK->Prop) : Prop :=
 ∀ (pins : List (Addr × Obj)) (s : Shared) (σ : St) (H : Hp) (x : V) (v vl vu : Value) (lo hi : Option Int) (sl : Addr) (Q : VK), Inv X pins σ H s->RelV x v->s.heap.IsSliceOf sl vl vu .none->IsPart vl lo->IsPart vu hi->r x lo hi H Q ->
  ∃ T id, typeLookup (.type T) "__getitem__" = pure (some (.builtin id))/\s.TypeIs v T/\wpAny (model X.prog X.w) X.A (getItem v (.ref sl)) (EP X pins σ Q) X.xe s
def tSl (r : V->Option Int->Option Int->Hp->VK->Prop) (te : TE) (tl th : TO) : TE := fun σ H Q => te σ H fun x H1 => tl σ H1 fun l H2 => th σ H2 fun u H3 => r x l u H3 Q
theorem Qez {r : V->Option Int->Option Int->Hp->VK->Prop} (hr : SlR X r) (he : PE X e te) (hl : PO X lo tl) (hu : PO X hi th) : PE X (.Subscript e (.Slice lo hi none p2) pos) (tSl r te tl th) := by
 intro pins s σ H Q I h
 refine Subscript_ (thn (he pins s σ H _ I h) fun v s1 ⟨x, H1, I1, r1, q1⟩ => ?_)
 refine wpAny_Slice (thn (hl pins s1 σ H1 _ I1 q1) fun vl s2 ⟨l, H2, I2, pl, q2⟩ => thn (hu pins s2 σ H2 _ I2 q2) fun vu s3 ⟨u, H3, I3, pu, q3⟩ => ?_)
 rw [evalPart_none]
 refine wpAny_pure ?_
 have I4 : Inv X pins σ H3 { s3 with heap := s3.heap.push { cls := .type "slice", data := .fields #[vl, vu, .none] } } := I3.kept (t' := s3.toks) fun b ob q => QnG _ q
 obtain ⟨T, id, hT, ht, hg⟩ := hr pins { s3 with heap := s3.heap.push { cls := .type "slice", data := .fields #[vl, vu, .none] } } σ H3 x v vl vu l u s3.heap.objs.size Q I4 r1 (Heap.IsSliceOf.new ..) pl pu q3
 show wpAny (model X.prog X.w) X.A (subscriptTail e (.Slice lo hi none p2) v (.ref s3.heap.objs.size)) (EP X pins σ Q) X.xe { s3 with heap := s3.heap.push { cls := .type "slice", data := .fields #[vl, vu, .none] } }
 exact tail_any (ops := [.ref s3.heap.objs.size, v]) ht hT hg (by with_unfolding_all rfl)
def cutV (xs : List V) (lo hi : Option Int) : List V := (xs.drop (HT.sIx xs.length 0 lo)).take (HT.sIx xs.length xs.length hi - HT.sIx xs.length 0 lo)
theorem Qfq (xs : List V) (lo hi : Option Int) : (cutV xs lo hi).length<=xs.length := by
 unfold cutV
 rw [List.length_take, List.length_drop]
 omega
def rSlT (K : PySem.W.Frag) : V->Option Int->Option Int->Hp->VK->Prop := fun x lo hi H Q => ∃ a xs, x = .ref a/\SqT K H a xs /\
 ¬ (HT.sIx xs.length 0 lo = 0/\HT.sIx xs.length xs.length hi = xs.length)/\∀ p, H p = none->Q (.ref p) (upd H p (.tup (cutV xs lo hi)))
theorem sl_tup : SlR X (rSlT X.K) := by
 intro pins s σ H x v vl vu lo hi sl Q I rx hs pl pu h
 obtain ⟨a, xs, rfl, hx, hw, q⟩ := h
 cases rx
 obtain ⟨its, r, ht, hz⟩ := I.tuple hx
 have hlen : its.toArray.size = xs.length := by rw [QnK]; exact r.length.symm
 refine ⟨"tuple", _, PyProof.Rows.slot_tuple_getitem.lookup, ht.typeIs, ?_⟩
 refine HT.getItem_tuple_cut ht hs pl pu (by rw [hlen]; exact hw) ?_ (by rw [hlen]; exact hz)
 rw [hlen]
 refine ⟨.ref s.heap.objs.size, _, I.laid (t' := s.toks) (o := .tup (cutV xs lo hi)) (fun b ob q => QnG _ q) (QnL _) ?_, rfl, q _ (I.hok.fresh (QnL _))⟩
 exact ⟨QnV (Qfq xs lo hi) hz, _, (r.drop (HT.sIx xs.length 0 lo)).take (HT.sIx xs.length xs.length hi - HT.sIx xs.length 0 lo), IsTup.new _ _⟩
def rCatT (K : PySem.W.Frag) : R2 := fun x y H Q => ∃ a b xs ys, x = .ref a/\y = .ref b/\SqT K H a xs/\SqT K H b ys/\xs ≠ []/\xs.length + ys.length<=sizeLine /\
 (ys = []->Q (.ref a) H)/\(ys ≠ []->∀ p, H p = none->Q (.ref p) (upd H p (.tup (xs ++ ys))))
theorem Vals.nil_iff {xs : List V} {us : List Value} (r : Vals xs us) : us = [] ↔ xs = [] := by
 cases r with
 | nil => simp
 | cons _ _ => simp
theorem op_catT : OpR X (binaryOp .Add) (rCatT X.K) := by
 intro pins s σ H x y v u Q I rx ry h
 obtain ⟨a, b, xs, ys, rfl, rfl, ha, hb, hx, hz, q1, q2⟩ := h
 cases rx
 cases ry
 obtain ⟨its, r1, p1, _⟩ := I.tuple ha
 obtain ⟨its2, r2, p2, _⟩ := I.tuple hb
 refine HT.cat_tup p1 p2 (fun z => hx (r1.nil_iff.mp z)) (fun z => ⟨.ref a, H, I, rfl, q1 (r2.nil_iff.mp z)⟩) (fun z => ?_) (by rw [<-r1.length, <-r2.length]; exact hz)
 refine ⟨.ref s.heap.objs.size, _, I.laid (t' := s.toks) (o := .tup (xs ++ ys)) (fun b ob q => QnG _ q) (QnL _) ?_, rfl, q2 (fun w => z (r2.nil_iff.mpr w)) _ (I.hok.fresh (QnL _))⟩
 exact ⟨by rw [QnO]; exact hz, _, r1.append r2, IsTup.new _ _⟩
end
end L2
namespace L2
open PySem PySem.Spec PyProof.Rows
def ixN (n : Nat) (i : Int) : Option Nat := if 0<=i then (if i < n then some i.toNat else none) else if -(n : Int)<=i then some (i + n).toNat else none
def atI {α : Type} (xs : List α) (i : Int) : Option α := (ixN xs.length i).bind fun j => xs[j]?
theorem Qmv {n : Nat} {i : Int} {j : Nat} (h : ixN n i = some j) : seqIndex? i n = some j/\j < n/\-(n : Int)<=i/\i < n := by
 unfold ixN at h
 by_cases h0 : 0<=i
 ·rw [if_pos h0] at h
  by_cases h1 : i < n
  ·rw [if_pos h1] at h
   have e : i.toNat = j := Option.some.inj h
   exact ⟨by rw [seqIndex_of h0 h1, e], by omega, by omega, h1⟩
  ·rw [if_neg h1] at h; cases h
 ·rw [if_neg h0] at h
  by_cases h1 : -(n : Int)<=i
  ·rw [if_pos h1] at h
   have e : (i + n).toNat = j := Option.some.inj h
   exact ⟨by rw [seqIndex_neg (by omega) h1, e], by omega, h1, by omega⟩
  ·rw [if_neg h1] at h; cases h
theorem Qjm {α : Type} {xs : List α} {i : Int} {v : α} (h : atI xs i = some v) : ∃ j, seqIndex? i xs.length = some j/\xs[j]? = some v/\j < xs.length/\-(xs.length : Int)<=i/\i < xs.length := by
 unfold atI at h
 cases e : ixN xs.length i with
 | none => rw [e] at h; cases h
 | some j =>
  rw [e] at h
  obtain ⟨h1, h2, h3, h4⟩ := Qmv e
  exact ⟨j, h1, h, h2, h3, h4⟩
theorem Qnp {α : Type} {xs : List α} {j : Nat} {v : α} (h : xs[j]? = some v) : atI xs (j : Int) = some v := by
 have hj : j < xs.length := (List.getElem?_eq_some_iff.mp h).1
 have e : ixN xs.length (j : Int) = some j := by
  unfold ixN
  rw [if_pos (by omega), if_pos (by omega)]; simp
 unfold atI; rw [e]; exact h
def Qjo (b : Expr) : Prop := ∀ o i, subscripted b false o i = operate [o, i] (getItem o i)
def IxR (X : Cx) (r : R2) : Prop :=
 ∀ (value slice : Expr) (pins : List (Addr × Obj)) (s : Shared) (σ : St) (H : Hp) (x y : V) (v u : Value) (Q : VK), Inv X pins σ H s->RelV x v->RelV y u->r x y H Q ->
  subscripted slice false v u = operate [v, u] (getItem v u)->wpAny (model X.prog X.w) X.A (subscriptTail value slice v u) (EP X pins σ Q) X.xe s
def MtR (X : Cx) (id : String) (r : V->List V->Hp->VK->Prop) : Prop :=
 ∀ (pins : List (Addr × Obj)) (s : Shared) (σ : St) (H : Hp) (x : V) (xs : List V) (v : Value) (us : List Value) (Q : VK), Inv X pins σ H s->RelV x v->Vals xs us->r x xs H Q ->
  wpAny (model X.prog X.w) X.A (call (.builtin id) (v :: us)) (EP X pins σ Q) X.xe s
section
variable {X : Cx} {a b : Expr} {ta tb : TE} {pos : Pos}
theorem pe_ix {r : R2} (hr : IxR X r) (ha : PE X a ta) (hb : PE X b tb) (hs : Qjo b) : PE X (.Subscript a b pos) (tOp r ta tb) := by
 intro pins s σ H Q I h
 exact Subscript_ (binT ha hb I h fun v u s2 x y H2 I2 rx ry q => hr a b pins s2 σ H2 x y v u Q I2 rx ry q (hs _ _))
def rIxL (K : PySem.W.Frag) : R2 := fun x y H Q => ∃ p xs i v, x = .ref p/\y = .int i/\SqL K H p xs/\atI xs i = some v/\Q v H
def rIxT (K : PySem.W.Frag) : R2 := fun x y H Q => ∃ p xs i v, x = .ref p/\y = .int i/\SqT K H p xs/\atI xs i = some v/\Q v H
def rIxS : R2 := fun x y H Q => ∃ z i c, x = .str z/\y = .int i/\z.length<=sizeLine/\atI z.cps.toList i = some c/\Q (.str ⟨#[c]⟩) H
theorem ix_list : IxR X (rIxL X.K) := by
 intro value slice pins s σ H x y v u Q I rx ry h hs
 obtain ⟨p, xs, i, z, rfl, rfl, hq, he, q⟩ := h
 cases rx
 obtain ⟨t, rfl⟩ := ry
 obtain ⟨its, r, pl, hz⟩ := I.list hq
 obtain ⟨j, h1, h2, h3, h4, h5⟩ := Qjm he
 obtain ⟨w, ew, rw'⟩ := r.get h2
 have hl := r.length
 have hn := QfS
 have fin : EP X pins σ Q w s := ⟨z, H, I, rw', q⟩
 by_cases h0 : 0<=i
 ·have hj : i.toNat = j := by
   rw [seqIndex_of h0 h5] at h1
   exact Option.some.inj h1
  exact item_listR pl.isList h0 (by omega) (by rw [hj]; simpa using ew) fin hs
 ·have hj : (i + (its.toArray.size : Int)).toNat = j := by
   rw [seqIndex_neg (by omega) h4] at h1
   rw [QnK, <-hl]
   exact Option.some.inj h1
  exact subscriptTail_builtinR (x := w) pl.isList.typeIs slot_list_getitem.lookup
   (wpAny_getItem_list_neg (Q := fun r s' => r = w/\EP X pins σ Q r s') pl.isList (by omega) (by rw [QnK] <;> omega) (by omega) (by rw [hj]; simpa using ew) ⟨rfl, fin⟩) hs
theorem ix_tup : IxR X (rIxT X.K) := by
 intro value slice pins s σ H x y v u Q I rx ry h hs
 obtain ⟨p, xs, i, z, rfl, rfl, hq, he, q⟩ := h
 cases rx
 obtain ⟨t, rfl⟩ := ry
 obtain ⟨its, r, pl, hz⟩ := I.tuple hq
 obtain ⟨j, h1, h2, h3, h4, h5⟩ := Qjm he
 obtain ⟨w, ew, rw'⟩ := r.get h2
 have hl := r.length
 have hn := QfS
 have fin : EP X pins σ Q w s := ⟨z, H, I, rw', q⟩
 exact subscriptTail_builtinR (x := w) pl.typeIs slot_tuple_getitem.lookup
  (getItem_tuple (j := j) (Q := fun r s' => r = w/\EP X pins σ Q r s') pl (by omega) (by omega) (by rw [QnK, <-hl]; exact h1) (by simpa using ew) ⟨rfl, fin⟩) hs
theorem ix_str : IxR X rIxS := by
 intro value slice pins s σ H x y v u Q I rx ry h hs
 obtain ⟨z, i, c, rfl, rfl, hz, he, q⟩ := h
 obtain ⟨t, rfl⟩ := rx
 obtain ⟨t', rfl⟩ := ry
 obtain ⟨j, h1, h2, h3, h4, h5⟩ := Qjm he
 have hl : z.cps.toList.length = z.length := by simp [Str.length]
 rw [hl] at h1 h4 h5
 have hn := QfS
 exact tail_any (typeIs_str s z t) slot_str_getitem.lookup (getItem_str (c := c) (by
  have e1 : decide (i < -(2 ^ 63 : Int)) = false := decide_eq_false (by omega)
  have e2 : decide (i ≥ 2 ^ 63) = false := decide_eq_false (by omega)
  rw [e1, e2, Bool.or_false]) (by rw [h1]; simpa using h2) ⟨.str ⟨#[c]⟩, H, I.tok _, ⟨_, rfl⟩, q⟩) hs
theorem Qkx (its : List Value) (n j : Nat) (u : Value) : Obj.mapSeq (·.setIfInBounds j u) { cls := .type "list", data := .seq its.toArray n } = { cls := .type "list", data := .seq (its.set j u).toArray n } := by
 simp [Obj.mapSeq]
theorem Inv.lst {pins : List (Addr × Obj)} {σ : St} {H : Hp} {s : Shared} {p : Addr} {xs : List V} (I : Inv X pins σ H s) (h : H p = some (.lst xs)) :
  ∃ (its : List Value) (n : Nat), Vals xs its/\s.heap.get? p = some { cls := .type "list", data := .seq its.toArray n }/\xs.length<=sizeLine := by
 obtain ⟨z, its, n, r, e⟩ := I.hok p _ h
 exact ⟨its, n, r, e, z⟩
theorem Inv.lstUpd {pins : List (Addr × Obj)} {σ : St} {H : Hp} {s : Shared} {p : Addr} {xs ys : List V} {its its' : List Value} {n n' : Nat} {f : Obj->Obj} (I : Inv X pins σ H s) (h : H p = some (.lst xs))
  (ho : s.heap.get? p = some { cls := .type "list", data := .seq its.toArray n }) (hf : f { cls := .type "list", data := .seq its.toArray n } = { cls := .type "list", data := .seq its'.toArray n' }) (r : Vals ys its') (hz : ys.length<=sizeLine) (t : Nat) :
  Inv X pins σ (upd H p (.lst ys)) { s with heap := s.heap.update p f, toks := t } := by
 have e : (s.heap.update p f).get? p = some { cls := .type "list", data := .seq its'.toArray n' } := by
  rw [Heap.get?_update_self f ho (by rw [hf] <;> rfl), hf]
 refine I.write (x := p) (e := p) (by rw [h]; trivial) (.inl rfl) (fun b u hb q => (Heap.get?_update_other _ _ (Ne.symm hb)).trans q) ⟨_, e⟩ ?_
 exact ⟨hz, its', n', r, e⟩
def rSetL : V->V->V->Hp->(Hp->Prop)->Prop := fun o i v H Q => ∃ p xs k j, o = .ref p/\i = .int k/\H p = some (.lst xs)/\ixN xs.length k = some j/\Q (upd H p (.lst (xs.set j v)))
theorem set_list : PSet X rSetL := by
 intro pins s σ H o i v ov iv u Q I ro ri rv h
 obtain ⟨p, xs, k, j, rfl, rfl, hp, hj, q⟩ := h
 cases ro
 obtain ⟨t, rfl⟩ := ri
 obtain ⟨its, n, r, ho, hz⟩ := I.lst hp
 obtain ⟨h1, h2, h3, h4⟩ := Qmv hj
 have hl := r.length
 have hn := QfS
 have I' : Inv X pins σ (upd H p (.lst (xs.set j v))) { s with heap := s.heap.update p (Obj.mapSeq (·.setIfInBounds j u)) } :=
  I.lstUpd hp ho (Qkx its n j u) (r.set rv j) (by rw [List.length_set]; exact hz) s.toks
 by_cases h0 : 0<=k
 ·have hk : k.toNat = j := by
   rw [seqIndex_of h0 h4] at h1
   exact Option.some.inj h1
  exact PySem.W.ki_setAt ho h0 (by omega) (by rw [QnK, <-hl]; exact h4) (by rw [hk]; exact ⟨_, I', q⟩)
 ·have hk : (k + (its.toArray.size : Int)).toNat = j := by
   rw [seqIndex_neg (by omega) h3] at h1
   rw [QnK, <-hl]
   exact Option.some.inj h1
  exact PySem.W.ki_setBack ho (by omega) (by rw [QnK, <-hl]; exact h3) (by omega) (by rw [hk]; exact ⟨_, I', q⟩)
theorem Qhq (lo hi : Option Int) (n : Nat) : (sliceBounds lo hi none n).1 = ((HT.sIx n 0 lo : Nat) : Int)/\(sliceBounds lo hi none n).2.1 = ((HT.sIx n n hi : Nat) : Int)/\(sliceBounds lo hi none n).2.2 = 1 := by
 refine ⟨?_, ?_, rfl⟩
 ·cases lo with
  | none => simp [sliceBounds, HT.sIx]
  | some i =>
   simp only [sliceBounds, HT.sIx, Option.getD_none, show (1 : Int) > 0 by decide, if_true]
   by_cases h : i < 0
   ·simp only [h, if_true] <;> omega
   ·simp only [h, if_false] <;> omega
 ·cases hi with
  | none => simp [sliceBounds, HT.sIx]
  | some i =>
   simp only [sliceBounds, HT.sIx, Option.getD_none, show (1 : Int) > 0 by decide, if_true]
   by_cases h : i < 0
   ·simp only [h, if_true] <;> omega
   ·simp only [h, if_false] <;> omega
theorem Qgq (its : List Value) (lo hi : Option Int) : slicePick its.toArray lo hi none = ((its.drop (HT.sIx its.length 0 lo)).take (HT.sIx its.length its.length hi - HT.sIx its.length 0 lo)).toArray := by
 obtain ⟨h1, h2, h3⟩ := Qhq lo hi its.toArray.size
 unfold slicePick
 rw [h1, h2, h3]
 simp only [sliceRange_one, pick_run, QnK] <;> rfl
def rSlL (K : PySem.W.Frag) : V->Option Int->Option Int->Hp->VK->Prop := fun x lo hi H Q => ∃ a xs, x = .ref a/\SqL K H a xs/\∀ p, H p = none->Q (.ref p) (upd H p (.lst (cutV xs lo hi)))
theorem sl_list : SlR X (rSlL X.K) := by
 intro pins s σ H x v vl vu lo hi sl Q I rx hs pl pu h
 obtain ⟨a, xs, rfl, hx, q⟩ := h
 cases rx
 obtain ⟨its, r, ht, hz⟩ := I.list hx
 have hlen := r.length
 refine ⟨"list", _, slot_list_getitem.lookup, ht.isList.typeIs, ?_⟩
 refine wpAny_getItem_list_slice ht.isList hs pl pu .none (by simp) ?_ (by rw [QnK] <;> omega)
 rw [Qgq, <-hlen]
 refine ⟨.ref s.heap.objs.size, _, I.laid (t' := s.toks) (o := .lst (cutV xs lo hi)) (fun b ob q => QnG _ q) (QnL _) ?_, rfl, q _ (I.hok.fresh (QnL _))⟩
 exact ⟨QnV (Qfq xs lo hi) hz, _, 0, (r.drop (HT.sIx xs.length 0 lo)).take (HT.sIx xs.length xs.length hi - HT.sIx xs.length 0 lo), QnR _ rfl⟩
def QdL : V->Bool
 | .non => true
 | .bl _ => true
 | .int _ => true
 | .str _ => true
 | _ => false
def eqV : V->V->Bool
 | .non, .non => true
 | .bl a, .bl b => a == b
 | .bl a, .int b => (if a then 1 else 0) == b
 | .int a, .bl b => a == (if b then 1 else 0)
 | .int a, .int b => a == b
 | .str a, .str b => a == b
 | _, _ => false
theorem QmX {A : Around} {s : Shared} {y x : V} {u v : Value} (ry : RelV y u) (rx : RelV x v) (fy : QdL y = true) (fx : QdL x = true) : SeqAt.EqAt A s u v (eqV y x) := by
 cases y with
 | non =>
  cases ry
  cases x with
  | non => cases rx; exact SeqAt.EqAt.same _
  | bl b => cases rx; exact SeqAt.EqAt.none_bool b
  | int b => obtain ⟨t, rfl⟩ := rx; exact SeqAt.EqAt.none_int b t
  | str b => obtain ⟨t, rfl⟩ := rx; exact SeqAt.EqAt.none_str b t
  | _ => exact absurd (show false = true from fx) QnE
 | bl a =>
  cases ry
  cases x with
  | non => cases rx; exact SeqAt.EqAt.bool_none a
  | bl b => cases rx; exact SeqAt.EqAt.bool_bool a b
  | int b => obtain ⟨t, rfl⟩ := rx; exact SeqAt.EqAt.bool_int a b t
  | str b => obtain ⟨t, rfl⟩ := rx; exact SeqAt.EqAt.bool_str a b t
  | _ => exact absurd (show false = true from fx) QnE
 | int a =>
  obtain ⟨t', rfl⟩ := ry
  cases x with
  | non => cases rx; exact SeqAt.EqAt.int_none a t'
  | bl b => cases rx; exact SeqAt.EqAt.int_bool a t' b
  | int b => obtain ⟨t, rfl⟩ := rx; exact SeqAt.EqAt.int_int a t' b t
  | str b => obtain ⟨t, rfl⟩ := rx; exact SeqAt.EqAt.int_str a t' b t
  | _ => exact absurd (show false = true from fx) QnE
 | str a =>
  obtain ⟨t', rfl⟩ := ry
  cases x with
  | non => cases rx; exact SeqAt.EqAt.str_none a t'
  | bl b => cases rx; exact SeqAt.EqAt.str_bool a t' b
  | int b => obtain ⟨t, rfl⟩ := rx; exact SeqAt.EqAt.str_int a t' b t
  | str b => obtain ⟨t, rfl⟩ := rx; exact SeqAt.EqAt.str_str a t' b t
  | _ => exact absurd (show false = true from fx) QnE
 | _ => exact absurd (show false = true from fy) QnE
theorem Qhz : OpR X (compareOp .NotIn) (fun x y H Q => ∃ i j, x = .str i/\y = .str j/\Q (.bl (!(!(Builtin.Str.occurrences j i 0 j.length 1).isEmpty))) H) := by
 intro pins s σ H x y v u Q I rx ry h
 obtain ⟨i, j, rfl, rfl, q⟩ := h
 obtain ⟨t, rfl⟩ := rx
 obtain ⟨t', rfl⟩ := ry
 exact notIn_str ⟨.bl _, H, I, rfl, q⟩
theorem Qij : Qhg X (.builtin "len") (fun xs H Q => ∃ p ys, xs = [.ref p]/\(SqL X.K H p ys\/SqT X.K H p ys)/\Q (.int ys.length) H) := by
 intro pins s σ H xs us Q I r h
 obtain ⟨p, ys, rfl, hq, q⟩ := h
 obtain ⟨u, rfl, rx⟩ := QiD r
 cases rx
 have hn := QfS
 rcases hq with hq | hq
 ·obtain ⟨its, r', pl, hz⟩ := I.list hq
  have hlen := r'.length
  exact Calls.call_len_list pl.isList (by simp only [QnK] <;> omega) ⟨.int ys.length, H, I.tok _, ⟨s.toks + 1, by rw [QnK, hlen]⟩, q⟩
 ·obtain ⟨its, r', pl, hz⟩ := I.tuple hq
  have hlen := r'.length
  exact len_tuple pl (by simp only [QnK] <;> omega) ⟨.int ys.length, H, I.tok _, ⟨s.toks + 1, by rw [QnK, hlen]⟩, q⟩
theorem Qii : Qhg X (.builtin "len") (fun xs H Q => ∃ z, xs = [.str z]/\z.length<=sizeLine/\Q (.int z.length) H) := by
 intro pins s σ H xs us Q I r h
 obtain ⟨z, rfl, hz, q⟩ := h
 obtain ⟨u, rfl, t, rfl⟩ := QiD r
 have hn := QfS
 exact len_str (by omega) ⟨.int z.length, H, I.tok _, ⟨_, rfl⟩, q⟩
theorem Qih : Qhg X (.type "list") (fun xs H Q => ∃ p ys, xs = [.ref p]/\(SqL X.K H p ys\/SqT X.K H p ys)/\∀ l, H l = none->Q (.ref l) (upd H l (.lst ys))) := by
 intro pins s σ H xs us Q I r h
 obtain ⟨p, ys, rfl, hq, q⟩ := h
 obtain ⟨u, rfl, rx⟩ := QiD r
 cases rx
 have fin : ∀ (its : List Value), Vals ys its->ys.length<=sizeLine->∀ (h' : Heap) (c' : Nat), (∀ b o', s.heap.get? b = some o'->h'.get? b = some o') ->
   h'.get? s.heap.objs.size = some { cls := .type "list", dict := none, data := .seq its.toArray c', slots := #[] }->EP X pins σ Q (.ref s.heap.objs.size) { s with heap := h' } := fun its r' hz h' c' kp e =>
  ⟨.ref s.heap.objs.size, _, I.laid (t' := s.toks) kp (QnL _) (show Qbr X.prog X.w _ h' _ (.lst ys) from ⟨hz, its, c', r', e⟩), rfl, q _ (I.hok.fresh (QnL _))⟩
 rcases hq with hq | hq
 ·obtain ⟨its, r', pl, hz⟩ := I.list hq
  have hlen := r'.length
  obtain ⟨o, ho, hc, n, hd⟩ := pl.isList
  exact call_list_seq p (.inl rfl) ho hc hd (fun h' c' kp e => fin its r' hz h' c' kp e) (by simp only [QnK] <;> omega)
 ·obtain ⟨its, r', pl, hz⟩ := I.tuple hq
  have hlen := r'.length
  obtain ⟨o, ho, hc, n, hd⟩ := pl
  exact call_list_seq p (.inr rfl) ho hc hd (fun h' c' kp e => fin its r' hz h' c' kp e) (by simp only [QnK] <;> omega)
theorem QdN : Qhg X (.type "tuple") (fun xs H Q => ∃ p ys, xs = [.ref p]/\((SqL X.K H p ys/\∀ l, H l = none->Q (.ref l) (upd H l (.tup ys)))\/(SqT X.K H p ys/\Q (.ref p) H))) := by
 intro pins s σ H xs us Q I r h
 obtain ⟨p, ys, rfl, h⟩ := h
 obtain ⟨u, rfl, rx⟩ := QiD r
 cases rx
 rcases h with ⟨hq, q⟩ | ⟨hq, q⟩
 ·obtain ⟨its, r', pl, hz⟩ := I.list hq
  have hlen := r'.length
  refine call_tuple_list pl.isList (fun h' kp => ?_) (by simp only [QnK] <;> omega)
  have I1 : Inv X pins σ H { s with heap := h' } := I.kept (t' := s.toks) kp
  have I2 : Inv X pins σ (upd H h'.objs.size (.tup ys)) { s with heap := h'.push { cls := .type "tuple", data := .seq its.toArray } } :=
   I1.laid (t' := s.toks) (fun b o e => QnG _ e) (QnL _) (show Qbr X.prog X.w _ _ _ (.tup ys) from ⟨hz, its, r', IsTup.new _ _⟩)
  exact ⟨.ref h'.objs.size, _, I2, rfl, q _ (I1.hok.fresh (QnL _))⟩
 ·obtain ⟨its, r', pl, hz⟩ := I.tuple hq
  exact call_tuple_same pl ⟨.ref p, H, I, rfl, q⟩
def tyV (K : PySem.W.Frag) (T : String) (x : V) (H : Hp) : Prop := match x with
 | .str _ => T = "str"
 | .int _ => T = "int"
 | .ref p => (T = "list"/\∃ xs, SqL K H p xs)\/(T = "tuple"/\∃ o, K.lookup p = some o/\o.cls = .type "tuple"/\o.dict = none) ∨
   (T = "dict"/\((∃ kvs, H p = some (.dK kvs))\/∃ kvs, H p = some (.dT kvs)))\/(T = "set"/\∃ S n, H p = some (.set S n))
 | _ => False
theorem tyV_is {pins : List (Addr × Obj)} {σ : St} {H : Hp} {s : Shared} {T : String} {x : V} {v : Value} (I : Inv X pins σ H s) (r : RelV x v) (ty : tyV X.K T x H) :
  s.TypeIs v T/\∀ a, v = .ref a->∃ ob, s.heap.get? a = some ob/\ob.dict = none := by
 cases x with
 | str z =>
  obtain ⟨t, rfl⟩ := r
  cases (show T = "str" from ty)
  exact ⟨typeIs_str s z t, fun _ e => nomatch e⟩
 | int i =>
  obtain ⟨t, rfl⟩ := r
  cases (show T = "int" from ty)
  exact ⟨typeIs_int s i t, fun _ e => nomatch e⟩
 | ref p =>
  cases r
  rcases ty with ⟨rfl, xs, hq⟩ | ⟨rfl, o, hk, hc, hd⟩ | ⟨rfl, hk⟩ | ⟨rfl, S, n, hk⟩
  ·obtain ⟨its, _, pl, _⟩ := I.list hq
   refine ⟨pl.isList.typeIs, fun a e => ?_⟩
   cases e
   obtain ⟨o, n, e, c, hd, _⟩ := pl
   exact ⟨o, e, hd⟩
  ·refine ⟨⟨o, I.kIn p o hk, hc⟩, fun a e => ?_⟩
   cases e
   exact ⟨o, I.kIn _ o hk, hd⟩
  ·have z : ∃ o, s.heap.get? p = some o/\o.ExactDict := by
    rcases hk with ⟨kvs, hk⟩ | ⟨kvs, hk⟩
    ·obtain ⟨_, _, _, _, o, _, _, e, ex, _⟩ := I.hok p _ hk
     exact ⟨o, e, ex⟩
    ·obtain ⟨_, _, _, _, o, _, _, e, ex, _⟩ := I.hok p _ hk
     exact ⟨o, e, ex⟩
   obtain ⟨o, e, ex⟩ := z
   refine ⟨⟨o, e, ex.1⟩, fun a e2 => ?_⟩
   cases e2
   exact ⟨o, e, ex.2.1⟩
  ·obtain ⟨o, _, _, _, e, ex, _⟩ := I.hok p _ hk
   refine ⟨⟨o, e, ex.1⟩, fun a e2 => ?_⟩
   cases e2
   exact ⟨o, e, ex.2.1⟩
 | _ => exact False.elim ty
def tBM0 (K : PySem.W.Frag) (T : String) (r : V->List V->Hp->VK->Prop) (to : TE) : TE := fun σ H Q => to σ H fun x H1 => tyV K T x H1/\r x [] H1 Q
def tBM (K : PySem.W.Frag) (T : String) (r : V->List V->Hp->VK->Prop) (to : TE) (t : TA) : TE := fun σ H Q => to σ H fun x H1 => tyV K T x H1/\t σ H1 fun xs H2 => r x xs H2 Q
variable {o e : Expr} {es : List Expr} {to : TE} {t : TA} {name : Str} {apos cpos : Pos} {T id : String} {r : V->List V->Hp->VK->Prop}
theorem pe_bm0 (pa : PlainAttrs T) (slot : Slot T name id) (hty : typeOf (.builtin id) = pure (.type "method_descriptor")) (hm : MtR X id r) (ho : PE X o to)
  (hbase : attributeBase o name X.env (eval o X.env) = eval o X.env := by rfl) (hline : (apos.endLine == cpos.line) = true := by rfl) : PE X (.Call (.Attribute o name apos) [] [] cpos) (tBM0 X.K T r to) := by
 intro pins s σ H Q I h
 refine wpAny_Call_method0_late hbase hline (thn (ho pins s σ H _ I h) fun v s1 ⟨x, H1, I1, r1, ty, q1⟩ => ?_)
 obtain ⟨h1, h2⟩ := tyV_is I1 r1 ty
 exact ⟨T, id, pa, slot, hty, h1, h2, Calls.callWith_builtin rfl (PySem.evalArgs_none (hm pins s1 σ H1 x [] v [] Q I1 r1 .nil q1))⟩
theorem pe_bm (pa : PlainAttrs T) (slot : Slot T name id) (hty : typeOf (.builtin id) = pure (.type "method_descriptor")) (hm : MtR X id r) (ho : PE X o to) (ha : PA X (e :: es) t)
  (hbase : attributeBase o name X.env (eval o X.env) = eval o X.env := by rfl)
  (hfew : ((backTo cpos (starEach (e :: es) X.env)).all (fun x => !x.1) && (backToKw cpos (keywordEach [] X.env)).all (fun x => x.1.isSome)
   && decide ((e :: es).length + ([] : List Keyword).length + (if ([] : List Keyword).isEmpty then 0 else 1) < 30)) = true := by rfl)
  (hline : (apos.endLine == cpos.line) = true := by rfl) (hs : starEach (e :: es) X.env = (false, eval e X.env) :: starEach es X.env := by rfl) (hplain : (backTo cpos (starEach es X.env)).any (·.1) = false := by rfl) :
  PE X (.Call (.Attribute o name apos) (e :: es) [] cpos) (tBM X.K T r to t) := by
 intro pins s σ H Q I h
 refine wpAny_Call_method_late hbase hfew hline rfl (thn (ho pins s σ H _ I h) fun v s1 ⟨x, H1, I1, r1, ty, q1⟩ => ?_)
 obtain ⟨h1, h2⟩ := tyV_is I1 r1 ty
 refine ⟨T, id, pa, slot, hty, h1, h2, ?_⟩
 have hA := ha cpos pins s1 σ H1 _ I1 q1
 rw [hs] at hA ⊢
 refine Calls.callWith_builtin (by show (false || (backTo cpos (starEach es X.env)).any (·.1)) = false; rw [hplain] <;> rfl) (Calls.evalArgs_plain ?_)
 exact thn hA fun us s2 ⟨vs, H2, I2, r2, q2⟩ => hm pins s2 σ H2 x vs v us Q I2 r1 r2 q2
end
end L2
namespace L2
open PySem PySem.Spec PyProof.Rows
def MtM (X : Cx) (id : String) (r : V->List V->Hp->VK->Prop) : Prop :=
 ∀ (pins : List (Addr × Obj)) (s : Shared) (σ : St) (H : Hp) (x : V) (xs : List V) (v : Value) (us : List Value) (Q : VK), Inv X pins σ H s->RelV x v->Vals xs us->r x xs H Q ->
  wpAny (model X.prog X.w) X.A (call (.builtin id) (v :: us)) (EP X pins σ Q) X.xe s
theorem Vals.one : ∀ {x : V} {us : List Value}, Vals [x] us->∃ u, us = [u]/\RelV x u
 | _, _, .cons r .nil => ⟨_, rfl, r⟩
theorem Vals.rep {xs : List V} {us : List Value} (h : Vals xs us) : ∀ k : Nat, Vals (List.replicate k xs).flatten (List.replicate k us).flatten
 | 0 => .nil
 | k + 1 => by
  rw [List.replicate_succ, List.replicate_succ, List.flatten_cons, List.flatten_cons]
  exact Vals.append h (Vals.rep h k)
theorem QhP (its : List Value) : ∀ (k : Nat) (acc : List Value),
  List.foldl (fun x1 x2 => x1 ++ x2) acc.toArray (List.replicate k its.toArray) = (acc ++ (List.replicate k its).flatten).toArray
 | 0, acc => by simp
 | k + 1, acc => by
  have e : acc.toArray ++ its.toArray = (acc ++ its).toArray := by simp
  have e2 : (acc ++ its) ++ (List.replicate k its).flatten = acc ++ (List.replicate (k + 1) its).flatten := by
   rw [List.replicate_succ, List.flatten_cons, List.append_assoc]
  rw [<-e2, <-QhP its k (acc ++ its), <-e, List.replicate_succ, List.foldl_cons]
section
variable {X : Cx} {pins : List (Addr × Obj)} {σ : St} {H : Hp} {s : Shared} {l b : Addr} {xs ys zs : List V}
theorem Inv.lset {its its' : List Value} {n : Nat} {f : Array Value->Array Value} {t' : Nat} (I : Inv X pins σ H s) (hH : H l = some (.lst xs))
  (e : s.heap.get? l = some { cls := .type "list", data := .seq its.toArray n }) (hf : f its.toArray = its'.toArray) (hv : Vals ys its') (hz : ys.length<=sizeLine) :
  Inv X pins σ (upd H l (.lst ys)) { s with heap := s.heap.update l (Obj.mapSeq f), toks := t' } := by
 have q := PySem.IsL.update e f
 rw [hf] at q
 refine I.write (x := l) (e := l) (by rw [hH]; exact trivial) (.inl rfl) (fun b' u hb hu => (Heap.get?_update_other s.heap (Obj.mapSeq f) (Ne.symm hb)).trans hu) ⟨_, q⟩ ?_
 exact ⟨hz, its', _, hv, q⟩
theorem Inv.lnew {its : List Value} {t' : Nat} (I : Inv X pins σ H s) (hv : Vals ys its) (hz : ys.length<=sizeLine) :
  Inv X pins σ (upd H s.heap.objs.size (.lst ys)) { s with heap := s.heap.push { cls := .type "list", data := .seq its.toArray }, toks := t' } :=
 I.laid (fun _ _ q => QnG _ q) (QnL _) ⟨hz, its, 0, hv, QnR _ rfl⟩
theorem Inv.fresh (I : Inv X pins σ H s) : H s.heap.objs.size = none := I.hok.fresh (QnL _)
theorem Inv.lstM (I : Inv X pins σ H s) (hH : H l = some (.lst xs)) : xs.length<=sizeLine/\∃ (its : List Value) (n : Nat), Vals xs its/\xs.length = its.length/\s.heap.get? l = some { cls := .type "list", data := .seq its.toArray n } := by
 obtain ⟨z, its, n, r, e⟩ := I.hok l _ hH
 exact ⟨z, its, n, r, r.length, e⟩
theorem QjF {n : Nat} (h : n<=sizeLine) : Builtin.List.listTooLong n = false := by
 unfold Builtin.List.listTooLong
 exact decide_eq_false (by omega)
end
section
variable {X : Cx}
def rAppend : V->List V->Hp->VK->Prop := fun x vs H Q => ∃ l xs y, x = .ref l/\vs = [y]/\H l = some (.lst xs)/\xs.length < sizeLine/\Q .non (upd H l (.lst (xs ++ [y])))
theorem Qma : MtM X "list.append" rAppend := by
 intro pins s σ H x vs v us Q I rx rv h
 obtain ⟨l, xs, y, rfl, rfl, hH, hz, q⟩ := h
 cases rx
 obtain ⟨u, rfl, ru⟩ := rv.one
 obtain ⟨z, its, n, r, hl, e⟩ := I.lstM hH
 refine call_meets F.slot_list_append ⟨_, e, rfl⟩ F.entry_list_append (F.args_list_append_2 _ _) (PySem.list_append l its.toArray n u (by rw [QnK]; omega)) ⟨e, ?_⟩
 refine ⟨.non, _, I.lset (its' := its ++ [u]) hH e (by simp) (r.append (.cons ru .nil)) ?_, rfl, q⟩
 rw [QnO, QnW]
 omega
theorem len_rep {α : Type} (xs : List α) (k : Nat) : (List.replicate k xs).flatten.length = k * xs.length := by
 induction k with
 | zero => simp
 | succ k ih => rw [List.replicate_succ, List.flatten_cons, QnO, ih, Nat.succ_mul, Nat.add_comm]
end
section
variable {prog : Program} {w : World} {A : Around} {E : Value->Shared->Prop} {s : Shared}
end
section
variable {X : Cx}
end
end L2
namespace Att
open PySem PySem.W PySem.Calls PyProof.Rows
theorem Qfi {P : Params} {h : Heap} : ∀ (ns : List Int) (vs : List Value), WellAll P h vs (ns.map WData.int)->IntsAre vs ns := by
 intro ns
 induction ns with
 | nil =>
  intro vs w
  rw [List.map_nil] at w
  cases w
  exact .nil
 | cons n ns ih =>
  intro vs w
  rw [List.map_cons] at w
  cases w with
  | cons a b =>
   cases a
   exact .cons _ _ (ih _ b)
theorem Qlr {l : OpenLaw} {n : Nat} (hn : l.most = some n) {P : Params} {h : Heap} {args : List WData} {vals : List Value}
  (hpre : l.row.toRowW.claim.pre args = true) (hwl : WellAll P h vals args) :
  ∃ a vs ns, vals = [Value.ref a]/\args = [WData.list (ns.map WData.int)]/\h.get? a = some { cls := .type "list", data := .seq vs.toArray }/\IntsAre vs ns/\ns.length<=n := by
 have hsh : WShape.hasAll [] args [.list .int] = true := (pre_splitW hpre).1
 have hc : l.pre.holds [] { args := args } = true := (pre_splitW hpre).2
 obtain ⟨d, r, rfl, h1, h2⟩ := hasAllW_cons hsh
 obtain rfl := hasAllW_nil h2
 obtain ⟨xs, rfl, h3⟩ := hasW_list h1
 obtain ⟨ns, rfl⟩ := items_int h3
 have hlen : ns.length<=n := by
  unfold OpenLaw.pre at hc
  have h4 : (WTm.not (.lt (.lit (.int (n : Int))) (.len (.arg 0)))).holds [] { args := [.list (ns.map .int)] } = true := by
   have h4 := (holds_andW hc).1
   rw [hn] at h4
   exact h4
  have h5 := condW_of h4 (w_not (w_lt w_lit (w_len_list (w_arg rfl))))
  rw [QnM] at h5
  refine Nat.le_of_not_lt fun q => ?_
  have q' : (n : Int) < ((ns.length : Nat) : Int) := by omega
  first
   | (rw [decide_eq_true q'] at h5; exact absurd h5 (by decide))
   | (simp at h5; omega)
 cases hwl with
 | cons w1 w2 =>
  cases w2
  cases w1 with
  | list ho hall => exact ⟨_, _, ns, rfl, rfl, ho, Qfi ns _ hall, hlen⟩
theorem QlC (l : OpenLaw) (args : List WData) : l.row.toRowW.claim.post args (.bool true) args = true :=
 postW_of (r := l.row.toRowW) (X := (true == true))
  (show WShape.has [] (.bool true) .bool = true by first | rfl | decide | simp [WShape.has, WShape.arms, WShape.armsAll])
  (show (WTm.eq .res (.lit (.bool true))).value [] { args := args, res := some (.bool true), after := args } = some (.bool (true == true)) from w_eq_bool (w_res rfl) w_lit) rfl
theorem attach_call {l : OpenLaw} {n : Nat} {q : Program} {loose : List Str} {XP : (Str->Option Value)->Heap->Prop} {YP : World->Heap->Prop} {d : DefRec}
  (hn : l.most = some n) (hdf : d.params.defaults = [])
  (call : ∀ (w : World) (s₀ s₁ : Shared) (mg mb : Str->Option Value) (fa : Addr) (o : Obj) (pm cd doc : Value) (a : Addr) (vs : List Value) (ns : List Int),
   Ground q loose [] XP w s₀ mg mb s₁.heap->YP w s₁.heap ->
   s₁.heap.get? fa = some o->o.data = .func (docDef d.name d.params d.body d.scope pm cd doc)->s₁.heap.CodeRec cd d.name->mg d.name = some (.ref fa) ->
   s₁.heap.get? a = some { cls := .type "list", data := .seq vs.toArray }->IntsAre vs ns->ns.length<=n->s₁.gens = #[] ->
   codeAny (model l.prog w) callerA (.call (.ref fa) ⟨[.ref a], []⟩) (fun r s' => r = .ok (.ret (.bool true))/\OldK s₁.heap s'.heap/\s'.os = s₁.os/\AllBare s'.gens) s₁) :
  WalkO q loose XP YP l.row.toRowW d [] (fun f vs => PySem.call f vs) := by
 intro w s₀ s₁ mg mb G Y fa o pm cd doc dV kV ho hd hcd hD hmg hg args vals as hpre hlay hrd hwl hlo
 obtain rfl : dV = .none := Dflts.none hD hdf
 obtain rfl : kV = .none := Dflts.noKw hD
 obtain ⟨a, vs, ns, rfl, rfl, hobj, hints, hlen⟩ := Qlr hn hpre hwl
 refine enter_call (codeAny_mono (call w s₀ s₁ mg mb fa o pm cd doc a vs ns G Y ho (fd_plain hd) hcd hmg hobj hints hlen hg) fun r s' hq => ?_)
 obtain ⟨rfl, h2, h3, h4⟩ := hq
 exact ⟨.inl ⟨.bool true, .bool true, [], rfl, fun _ => rfl, .bool true, QlC l _, fun _ => ⟨List.Pairwise.nil, fun _ hm => (nomatch hm)⟩⟩, h2, h3, h4⟩
section
variable {prog : Program} {w : World} {A : Around} {E : Value->Shared->Prop} {s : Shared} {K : Frag}
end
end Att
namespace L2
open PySem PySem.Spec PyProof.Rows
theorem Qhh : ∀ {vs : List Value} {ns : List Int}, IntsAre vs ns->Vals (ns.map V.int) vs
 | _, _, .nil => .nil
 | _, _, .cons n t h => .cons ⟨t, rfl⟩ (Qhh h)
def Only (H : Hp) : Prop := ∀ b, H b = none\/∃ o xs, H b = some (.frz o (.lst xs))
theorem law_call {P : Program} {w : World} {K : PySem.W.Frag} {mg mb : Str->Option Value} {CX : CXT} {k : Nat} {fa a : Addr} {fd : FuncData} {x : Str} {sp : Sp} {s₁ : Shared} {vs : List Value} {ns : List Int}
  (KX : K.In s₁.heap) (hns : s₁.heap.Ns mainGlobals mg) (hb : s₁.heap.Ns builtinsNs mb) (hbb : ∀ x : Str, x ≠ "__name__"->mb x = bootBuiltins x) (hlim : s₁.heap.NoLimit) (hg : s₁.gens = #[])
  (ha : s₁.heap.get? a = some { cls := .type "list", data := .seq vs.toArray }) (hi : IntsAre vs ns) (hl : ns.length<=sizeLine) (hr : Room k callerA)
  (F : ∀ base : Heap, K.In base->base.Ns mainGlobals mg->FnOk P w K mg base CX k fa fd [x] sp) (hbind : ∀ (s : Shared) (u : Value), BindsTo s fd ⟨[u], []⟩ [(x, u)])
  (hsp : ∀ H : Hp, Only H->SqL K H a (ns.map V.int)->sp [.ref a] H (fun v _ => v = .bl true) fun _ _ _ => False)
  (hCX : ∀ H e s', CX [] H s₁ (fun _ _ _ => False) e s'->False) :
  codeAny (model P w) callerA (.call (.ref fa) ⟨[.ref a], []⟩) (fun r s' => r = .ok (.ret (.bool true))/\OldK s₁.heap s'.heap/\s'.os = s₁.os/\AllBare s'.gens) s₁ := by
 have rv := Qhh hi
 have lenV := hi.length
 have core : ∀ H : Hp, Only H->SqL K H a (ns.map V.int)->HOk P w H s₁.heap->(∀ b, H b ≠ none->b = a)->(H a ≠ none->K.lookup a = none) ->
   codeAny (model P w) callerA (.call (.ref fa) ⟨[.ref a], []⟩) (fun r s' => r = .ok (.ret (.bool true))/\OldK s₁.heap s'.heap/\s'.os = s₁.os/\AllBare s'.gens) s₁ := by
  intro H hO hS hok hA hK
  have base_of : ∀ {b : Addr} {o : Obj}, s₁.heap.get? b = some o->H b = none->(hidT s₁.heap H).get? b = some o := fun e n => hidT_get e n
  have noA : ∀ {b : Addr} {o : Obj} {es : Array DictEntry} {ep : Nat}, s₁.heap.get? b = some o->o.data = .dict es ep->H b = none := fun {b o es ep} e d => by
   cases q : H b with
   | none => rfl
   | some u =>
    have e' : b = a := hA b (by rw [q]; simp)
    subst e'
    rw [ha] at e; cases e
    have d' : Data.seq vs.toArray _ = Data.dict es ep := d
    cases d'
  have nsK : ∀ {b : Addr} {m : Str->Option Value}, s₁.heap.Ns b m->(hidT s₁.heap H).Ns b m := fun {b m} ⟨o, es, ep, e, d, r⟩ => ⟨o, es, ep, base_of e (noA e d), d, r⟩
  have hKb : K.In (hidT s₁.heap H) := fun b o e => base_of (KX b o e) (by
   cases q : H b with
   | none => rfl
   | some u =>
    have e' : b = a := hA b (by rw [q]; simp)
    subst e'
    rw [hK (by rw [q]; simp)] at e; cases e)
  have hM : Mod K mg (hidT s₁.heap H) := ⟨hKb, nsK hns, ⟨mb, nsK hb, hbb⟩, let ⟨mc, h1, h2⟩ := hlim; ⟨mc, nsK h1, h2⟩⟩
  have e0 : Env0 P w K mg (hidT s₁.heap H) callerA [] s₁ H := ⟨rfl, hM, fun b o e => of_hidT e, Nat.le_of_eq (QmG _ _), trivial, fun b hb => absurd (show b ∈ ([] : List Addr) from hb) (by simp), hok, .of_eq hg⟩
  refine codeAny_mono ((F _ hKb (nsK hns)).run callerA [] s₁ H ⟨[.ref a], []⟩ [.ref a] [.ref a] _ _ hr e0 (hbind s₁ (.ref a)) (.cons rfl .nil) (hsp H hO hS)) fun r s' h => ?_
  cases r with
  | error e => exact (hCX H e s' h).elim
  | ok fl =>
   cases fl with
   | next => exact False.elim h
   | brk => exact False.elim h
   | cont => exact False.elim h
   | ret u =>
    obtain ⟨v, H', os, bare, un, hok', r', q⟩ := h
    have q' : v = .bl true := q
    subst q'
    obtain rfl : u = Value.bool true := r'
    refine ⟨rfl, OldK.of_keep fun b o e => ?_, os, bare⟩
    cases q : H b with
    | none => exact un.keep b o e q (by intro z; exact absurd (show b ∈ ([] : List Addr) from z) (by simp)) (by simp)
    | some u =>
     rcases hO b with z | ⟨ob, xs, z⟩
     ·rw [q] at z; cases z
     ·have z2 := un.frzs b ob _ z
      obtain ⟨e1, _⟩ := hok b _ z
      obtain ⟨e2, _⟩ := hok' b _ z2
      rw [e] at e1; cases e1
      exact e2
 cases hk : K.lookup a with
 | some o =>
  have e := KX a o hk
  rw [ha] at e
  cases e
  refine core (fun _ => none) (fun _ => .inl rfl) (.inr ⟨_, vs.toArray, _, hk, rfl, rfl, rfl, by rw [QnK, lenV]; exact hl, by simpa using rv⟩) (fun b u z => by have z' : (none : Option HO) = some u := z; cases z') (fun b z => absurd rfl z) fun z => absurd rfl z
 | none =>
  refine core (fun b => if b = a then some (.frz { cls := .type "list", data := .seq vs.toArray } (.lst (ns.map V.int))) else none) (fun b => ?_) (.inl (.inr ⟨{ cls := .type "list", data := .seq vs.toArray }, if_pos rfl⟩)) (fun b u z => ?_) (fun b z => ?_) fun _ => hk
  ·by_cases hb : b = a
   ·exact .inr ⟨_, _, if_pos hb⟩
   ·exact .inl (if_neg hb)
  ·by_cases hb : b = a
   ·have z' := (if_pos hb).symm.trans z
    cases z'
    subst hb
    exact ⟨ha, by rw [QnM]; exact hl, vs, _, rv, ha⟩
   ·have z' := (if_neg hb).symm.trans z
    cases z'
  ·by_cases hb : b = a
   ·exact hb
   ·exact absurd (if_neg hb) z
end L2
namespace L2
open PySem PySem.Spec PyProof.Rows
theorem walk_of {l : PySem.W.OpenLaw} {n k : Nat} {q : Program} {loose : List Str} {XP : (Str->Option Value)->Heap->Prop} {YP : World->Heap->Prop} {d : DefRec} {K : Params->PySem.W.Frag} {CX : World->CXT} {sp : World->Sp} {x : Str}
  (hn : l.most = some n) (hn2 : n<=sizeLine) (hdf : d.params.defaults = []) (hr : Room k callerA)
  (hY : ∀ (w : World) (h : Heap), YP w h->(K w.params).In h)
  (F : ∀ (w : World) (mg : Str->Option Value) (fa : Addr) (h : Heap), (K w.params).In h->h.Ns mainGlobals mg->mg d.name = some (.ref fa) ->
   ∃ fd : FuncData, (∀ (s : Shared) (u : Value), BindsTo s fd ⟨[u], []⟩ [(x, u)]) /\
    ∀ base : Heap, (K w.params).In base->base.Ns mainGlobals mg->FnOk l.prog w (K w.params) mg base (CX w) k fa fd [x] (sp w))
  (hsp : ∀ (w : World) (H : Hp) (a : Addr) (ns : List Int), ns.length<=n->Only H->SqL (K w.params) H a (ns.map V.int)->sp w [.ref a] H (fun v _ => v = .bl true) fun _ _ _ => False)
  (hCX : ∀ (w : World) (H : Hp) (s : Shared) (e : Value) (s' : Shared), CX w [] H s (fun _ _ _ => False) e s'->False) :
  PySem.W.WalkO q loose XP YP l.row.toRowW d [] (fun f vs => PySem.call f vs) := by
 refine Att.attach_call hn hdf fun w s₀ s₁ mg mb fa o pm cd doc a vs ns G Y ho hd hcd hmg hobj hints hlen hg => ?_
 have KX := hY w _ Y
 obtain ⟨fd, hb, hF⟩ := F w mg fa _ KX G.T.g hmg
 exact law_call KX G.T.g G.T.b G.T.builtins G.T.nolimit hg hobj hints (QnV hlen hn2) hr hF hb (fun H hO hS => hsp w H a ns hlen hO hS) fun H e s' => hCX w H s₁ e s'
end L2
namespace L2
open PySem PySem.Spec PyProof.Rows
def Qci (s : Stmt) : Arguments := match s with
 | .FunctionDef _ a _ _ _ _ _ _ _ _ => a
 | _ => { posonlyargs := [], args := [], vararg := none, kwonlyargs := [], kw_defaults := [], kwarg := none, defaults := [] }
def Qat (s : Stmt) : List Stmt := match s with
 | .FunctionDef _ _ b _ _ _ _ _ _ _ => b
 | _ => []
def Qad (s : Stmt) : Scope := match s with
 | .FunctionDef _ _ _ _ _ _ sc _ _ _ => sc
 | _ => { kind := .function, names := [], isGenerator := false, isCoroutine := false }
abbrev CX0 : CXT := fun _ _ _ _ _ _ => False
abbrev E0 : XK := fun _ _ _ => False
theorem pass0 {X : Cx} : Qnw CX0 X E0 := fun _ _ _ _ _ _ _ h => h.elim
structure Fun (K : PySem.W.Frag) (x qual : Str) (st : Stmt) (f : Addr) (fd : FuncData) : Prop where
 ex : ∃ (oc : Value) (od : Option Addr) (kV doc pm : Value) (an : Option Addr) (cdv ct : Value) (osl : Array (Option Value)),
  fd = PySem.W.fnOf x qual (Qci st) (Qat st) (Qad st) .none kV doc pm an cdv ct/\K.lookup f = some ⟨oc, od, .func fd, osl⟩/\PySem.W.codeIn K cdv qual = true
 kp : PySem.W.keepIn K (.ref f) = true
section
variable {P : Program} {w : World} {K : PySem.W.Frag} {mg : Str->Option Value} {base : Heap}
theorem Fun.ok {x qual : Str} {st : Stmt} {f : Addr} {fd : FuncData} {N ps : List Str} {k : Nat} {sp : Sp} (F : Fun K x qual st f fd) (S : FnScope N ps (Qad st)) (len : ∀ vs H Q E, sp vs H Q E->vs.length = ps.length)
  (hbody : ∀ (cdv : Value) (A : Around) (outer : List Env) (s : Shared) (H : Hp) (vs : List V) (Q : VK) (E : XK), Room k (A.deeper (envOfC qual (Qad st) s.heap.objs.size f cdv))->sp vs H Q E ->
   ∃ t, PSs (cxOf CX0 P w K mg base N qual (Qad st) f cdv A outer s H E).nox (Qat st) t/\t { nx := fun _ H' => Q .non H', rt := Q } (start N vs) H) : FnOk P w K mg base CX0 (k + 1) f fd ps sp := by
 obtain ⟨oc, od, kV, doc, pm, an, cdv, ct, osl, rfl, lk, hcd⟩ := F.ex
 refine fn_of lk hcd S len fun A outer s H vs Q E hr hsp => ?_
 obtain ⟨t, h, q⟩ := hbody cdv A outer s H vs Q E hr hsp
 exact ⟨t, h.nox, q⟩
theorem Fun.binds {x qual : Str} {st : Stmt} {f : Addr} {fd : FuncData} {ps : List Str} (F : Fun K x qual st f fd)
  (h : ∀ (kV doc pm : Value) (an : Option Addr) (cdv ct : Value) (us : List Value), us.length = ps.length->bindArgs (PySem.W.fnOf x qual (Qci st) (Qat st) (Qad st) .none kV doc pm an cdv ct) ⟨us, []⟩ = pure (ps.zip us)) : Qcs K fd ps [] := by
 obtain ⟨oc, od, kV, doc, pm, an, cdv, ct, osl, rfl, lk, hcd⟩ := F.ex
 exact .all (h kV doc pm an cdv ct)
theorem fun_mk {x qual : Str} {st : Stmt} {f : Addr} {oc : Value} {od an : Option Addr} {osl : Array (Option Value)} {kV doc pm cdv ct : Value} (l : K.lookup f = some ⟨oc, od, .func (PySem.W.fnOf x qual (Qci st) (Qat st) (Qad st) .none kV doc pm an cdv ct), osl⟩)
  (c : PySem.W.codeIn K cdv qual = true) (k : PySem.W.keepIn K (.ref f) = true) : Fun K x qual st f (PySem.W.fnOf x qual (Qci st) (Qat st) (Qad st) .none kV doc pm an cdv ct) := ⟨⟨oc, od, kV, doc, pm, an, cdv, ct, osl, rfl, l, c⟩, k⟩
end
theorem Qdx {n : Nat} (h : n<=1000) : n < sizeLine := Qoa h (by decide)
section
variable {X : Cx}
end
def Same (H H' : Hp) : Prop := ∀ b o, H b = some o->H' b = some o
theorem Same.refl (H : Hp) : Same H H := fun _ _ h => h
theorem Same.trans {H H1 H2 : Hp} (a : Same H H1) (b : Same H1 H2) : Same H H2 := fun c o h => b c o (a c o h)
theorem Same.free {H H' : Hp} (e : Same H H') {l : Addr} (h : H' l = Option.none) : H l = Option.none := by
 cases q : H l with
 | none => rfl
 | some o =>
  rw [e l o q] at h
  cases h
theorem Same.seq {K : PySem.W.Frag} {H H' : Hp} {a : Addr} {xs : List V} (e : Same H H') (h : SqL K H a xs) : SqL K H' a xs := by
 rcases h with (h | ⟨o, h⟩) | h
 ·exact .inl (.inl (e _ _ h))
 ·exact .inl (.inr ⟨o, e _ _ h⟩)
 ·exact .inr h
end L2
set_option maxHeartbeats 4000000
namespace L2
open PySem PySem.Spec PyProof.Rows
section
variable {X : Cx}
def rSlS : V->Option Int->Option Int->Hp->VK->Prop := fun x lo hi H Q => ∃ z, x = .str z/\z.length<=sizeLine/\Q (.str (Txt.slice z lo hi)) H
theorem sl_str : SlR X rSlS := by
 intro pins s σ H x v vl vu lo hi sl Q I rx hs pl pu h
 obtain ⟨z, rfl, hz, q⟩ := h
 obtain ⟨t, rfl⟩ := rx
 refine ⟨"str", _, F.slot_str_getitem.lookup, typeIs_str _ _ _, ?_⟩
 obtain ⟨o, ho, hc, hd⟩ := hs
 have fin : ∀ t' k, EP X pins σ Q (.str (Txt.slice z lo hi) t') { s with toks := k } := fun t' k => ⟨.str _, H, I.tok k, ⟨t', rfl⟩, q⟩
 cases pl with
 | none =>
  cases pu with
  | none => exact wpAny_getItem_str_slice (l := none) (u := none) (st := none) ⟨o, ho, hc, hd⟩ rfl (post_val_or_str ⟨QnV (Txt.slice_le z _ _) hz, fin⟩)
  | int j uj => exact wpAny_getItem_str_slice (l := none) (u := some (j, uj)) (st := none) ⟨o, ho, hc, hd⟩ rfl (post_val_or_str ⟨QnV (Txt.slice_le z _ _) hz, fin⟩)
 | int i ui =>
  cases pu with
  | none => exact wpAny_getItem_str_slice (l := some (i, ui)) (u := none) (st := none) ⟨o, ho, hc, hd⟩ rfl (post_val_or_str ⟨QnV (Txt.slice_le z _ _) hz, fin⟩)
  | int j uj => exact wpAny_getItem_str_slice (l := some (i, ui)) (u := some (j, uj)) (st := none) ⟨o, ho, hc, hd⟩ rfl (post_val_or_str ⟨QnV (Txt.slice_le z _ _) hz, fin⟩)
end
def Its (x : Str) : It := ⟨fun i _ => i < x.cps.size, fun i H v H' => H' = H/\∃ c, x.cps[i]? = some c/\v = .str ⟨#[c]⟩, fun i _ => x.cps.size<=i⟩
theorem Qjt {P : Program} {w : World} {K : PySem.W.Frag} {x : Str} {y : Str} {py : Pos} {it : Addr} {St : Nat->Heap->Prop}
  (W : ∀ A' : Around, A'.handled = none->Walks P w A' it [it] [it] x.cps.size (SignAt x) St) (hobj : ∀ i h, St i h->∃ o, h.get? it = some o/\∀ v, o.data ≠ .cell v) (W0 : ∀ (A : Around) (i : Nat) (s : Shared) (Q : Value->Shared->Prop) (E : Value->Shared->Prop), St i s.heap->Q (.ref it) s->wpAny (model P w) A (pyIter (.ref it)) Q E s) :
  Turn P w K (.Name y py) (Its x) [it] it (fun i h => i<=x.cps.size/\St i h) where
 mem := by simp
 obj := fun i h st b hb => by
  have e : b = it := by simpa using hb
  subst e
  exact hobj i h st.2
 keep := fun i h h' st k => ⟨st.1, (W { } rfl).frame i h h' st.2 k⟩
 item := by
  intro X hP hw hK hc i pins s σ H E I hf st hg
  subst hP hw hK
  obtain ⟨f0, f1, f2, f3, f4, f5⟩ := hf it (by simp)
  refine (W X.A (I.ok.hd hc)).item i s _ _ hg st.2 fun v h' tk hv st' kk => ?_
  obtain ⟨c, u, hcx, rfl⟩ := hv
  have I1 : Inv X pins σ H { s with heap := h', toks := tk } := I.turned (fun b o hb e => kk b o (by simpa using hb) e) f0 f1 f3 f4 f5
  exact ⟨_, rfl, wpAny_pure ⟨.str ⟨#[c]⟩, H, I1, ⟨u, rfl⟩, ⟨rfl, c, hcx, rfl⟩, ⟨hg, st'⟩, fun b hb => (hf b hb).1⟩⟩
 done := by
  intro X hP hw hK hc i pins s σ H E I hf st hg
  subst hP hw hK
  obtain ⟨f0, f1, f2, f3, f4, f5⟩ := hf it (by simp)
  have e : i = x.cps.size := Nat.le_antisymm st.1 hg
  subst e
  exact (W X.A (I.ok.hd hc)).done s _ _ st.2 fun h' tk kk => ⟨rfl, I.turned (fun b o hb e => kk b o (by simpa using hb) e) f0 f1 f3 f4 f5⟩
 self := fun A i s Q E st h => W0 A i s Q E st.2 h
section
variable {X : Cx}
theorem QiC {bs : List Bool} {its : List Value} (r : Vals (bs.map V.bl) its) {i : Nat} {v : Value} (h : its.toArray[i]? = some v) : v = .bool (bs.getD i false) := by
 have hl := r.length
 have hi : i < its.length := by
  have := Array.getElem?_eq_some_iff.mp h
  obtain ⟨h1, _⟩ := this
  simpa using h1
 have hb : i < bs.length := by rw [QnM] at hl; omega
 obtain ⟨u, hu, ru⟩ := r.get (i := i) (x := V.bl bs[i]) (by simp [hb])
 have e : some u = some v := by rw [<-hu, <-h]; simp
 have e1 : u = v := Option.some.inj e
 have e2 : u = Value.bool bs[i] := ru
 rw [<-e1, e2]
 simp [hb]
theorem Qhx (bs : List Bool) : (List.range bs.length).all (fun i => bs.getD i false) = bs.all id := by
 rw [Bool.eq_iff_iff]
 simp only [List.all_eq_true, List.mem_range, id]
 constructor
 ·intro h x hx
  obtain ⟨i, hi, rfl⟩ := List.mem_iff_getElem.mp hx
  have := h i hi
  simpa [hi] using this
 ·intro h i hi
  have := h bs[i] (List.getElem_mem hi)
  simpa [hi] using this
theorem Qnn (hc : X.calm = true) : Qhg X (.builtin "all") (fun xs H Q => ∃ (p : Addr) (bs : List Bool), xs = [.ref p]/\SqL X.K H p (bs.map V.bl)/\Q (.bl (bs.all id)) H) := by
 intro pins s σ H xs us Q I r h
 obtain ⟨p, bs, rfl, hp, q⟩ := h
 obtain ⟨u, rfl, ru⟩ := QiD r
 cases ru
 obtain ⟨its, rv, pl, hz⟩ := I.list hp
 have hl := rv.length
 rw [QnM] at hl
 have hlt : p < s.heap.objs.size := by obtain ⟨_, e, _⟩ := pl.isList; exact QnJ e
 refine call_all_walk (wpAny_pyIter_list pl.isList ?_)
 refine ⟨s.heap.objs.size, _, _, _, _, _, fun i => bs.getD i false, rfl, Walks.list (A := X.A.in1) (I.ok.hd hc) s.heap.objs.size p (QnS hlt) its.toArray, ⟨⟨_, QnR _ rfl, rfl, rfl⟩, pl.isList.push _⟩, fun i v s' Q' E' hv hq => ?_, fun h' tk kk => ?_⟩
 ·rw [QiC rv hv]
  exact wpAny_truthy_bool hq
 ·have e : (List.range its.toArray.size).all (fun i => bs.getD i false) = bs.all id := by
   rw [QnK, <-hl]; exact Qhx bs
  rw [e]
  refine ⟨.bl _, H, I.kept (t' := tk) fun b o e => kk b o (fun z => ?_) (QnG _ e), rfl, q⟩
  have z' : b = s.heap.objs.size := by simpa using z
  exact absurd (QnJ e) (by rw [z']; exact QnY _)
end
end L2
namespace L2
open PySem PySem.Spec PyProof.Rows
def clOf (env : Env) : List (Str × NameKind)->List (Str × Addr)->List (Str × Addr)
 | [], acc => acc
 | (n, k) :: r, acc => if k = .free then clOf env r ((n, (env.cells.lookup n).getD 0) :: acc) else clOf env r acc
theorem Qif (env : Env) : ∀ (l : List (Str × NameKind)) (acc : List (Str × Addr)), (∀ y ∈ l, y.2 = .free->(env.cells.lookup y.1).isSome = true) ->
  (forIn l acc fun (x : Str × NameKind) (cs : List (Str × Addr)) => (if (x.2 == NameKind.free) = true then (cellOf env x.1 >>= fun a => (pure (ForInStep.yield ((x.1, a) :: cs)) : Sem _)) else pure (ForInStep.yield cs))) = (pure (clOf env l acc) : Sem _)
 | [], acc, _ => by rw [List.forIn_nil]; rfl
 | (n, k) :: r, acc, h => by
  rw [List.forIn_cons]
  have hr := fun acc' => Qif env r acc' (fun y hy => h y (QnN _ hy))
  by_cases hk : k = .free
  ·subst hk
   obtain ⟨a, ha⟩ := Option.isSome_iff_exists.mp (h (n, .free) QnI rfl)
   have e1 : cellOf env n = pure a := by unfold cellOf; rw [ha]
   have e2 : clOf env ((n, NameKind.free) :: r) acc = clOf env r ((n, a) :: acc) := by
    show (if NameKind.free = NameKind.free then clOf env r ((n, (env.cells.lookup n).getD 0) :: acc) else _) = _
    rw [if_pos rfl, ha]; rfl
   rw [e2]
   have q := hr ((n, a) :: acc)
   rw [<-q]
   show ((cellOf env n >>= fun a => (pure (ForInStep.yield ((n, a) :: acc)) : Sem _)) >>= _) = _
   rw [e1]
   rfl
  ·have hb : (k == NameKind.free) = false := by simpa using hk
   have e2 : clOf env ((n, k) :: r) acc = clOf env r acc := by
    show (if k = NameKind.free then _ else clOf env r acc) = _
    rw [if_neg hk]
   rw [e2]
   have q := hr acc
   rw [<-q]
   show ((if (k == NameKind.free) = true then _ else _) >>= _) = _
   rw [hb]
   rfl
theorem clos_eq {scope : Scope} {env : Env} (h : ∀ y ∈ scope.names, y.2 = .free->(env.cells.lookup y.1).isSome = true) : closureFor scope env = pure (clOf env scope.names []) := by
 have q := Qif env scope.names [] h
 unfold closureFor
 rw [<-bind_pure (forIn scope.names [] _)] at q
 first
  | exact q
  | (simp only [bind_pure] at q ⊢; exact q)
theorem QgZ (env : Env) : ∀ (l : List (Str × NameKind)) (acc : List (Str × Addr)), (∀ y ∈ l, y.2 = .free->(env.cells.lookup y.1).isSome = true)->(∀ y c, acc.lookup y = some c->env.cells.lookup y = some c) ->
  ∀ y c, (clOf env l acc).lookup y = some c->env.cells.lookup y = some c
 | [], acc, _, ha, y, c, h => ha y c h
 | (n, k) :: r, acc, hl, ha, y, c, h => by
  have hl' : ∀ y ∈ r, y.2 = .free->(env.cells.lookup y.1).isSome = true := fun y hy => hl y (QnN _ hy)
  by_cases hk : k = .free
  ·have e : clOf env ((n, k) :: r) acc = clOf env r ((n, (env.cells.lookup n).getD 0) :: acc) := by
    show (if k = NameKind.free then _ else _) = _
    rw [if_pos hk]
   rw [e] at h
   refine QgZ env r _ hl' (fun z d hz => ?_) y c h
   rw [List.lookup_cons] at hz
   split at hz
   ·rename_i hzn
    have en : z = n := by simpa using hzn
    cases hz
    obtain ⟨a, ha'⟩ := Option.isSome_iff_exists.mp (hl (n, k) QnI hk)
    rw [en, ha']; rfl
   ·exact ha z d hz
  ·have e : clOf env ((n, k) :: r) acc = clOf env r acc := by
    show (if k = NameKind.free then _ else _) = _
    rw [if_neg hk]
   rw [e] at h
   exact QgZ env r _ hl' ha y c h
theorem Qha (env : Env) : ∀ (l : List (Str × NameKind)) (acc : List (Str × Addr)) (y : Str), (acc.lookup y).isSome = true\/(y, NameKind.free) ∈ l->∃ c, (clOf env l acc).lookup y = some c
 | [], acc, y, h => by
  rcases h with h | h
  ·exact Option.isSome_iff_exists.mp h
  ·cases h
 | (n, k) :: r, acc, y, h => by
  by_cases hk : k = .free
  ·have e : clOf env ((n, k) :: r) acc = clOf env r ((n, (env.cells.lookup n).getD 0) :: acc) := by
    show (if k = NameKind.free then _ else _) = _
    rw [if_pos hk]
   rw [e]
   refine Qha env r _ y ?_
   rcases h with h | h
   ·left
    rw [List.lookup_cons]
    split
    ·rfl
    ·exact h
   ·rcases List.mem_cons.mp h with h | h
    ·left
     cases h
     rw [List.lookup_cons]
     simp
    ·exact .inr h
  ·have e : clOf env ((n, k) :: r) acc = clOf env r acc := by
    show (if k = NameKind.free then _ else _) = _
    rw [if_neg hk]
   rw [e]
   refine Qha env r _ y ?_
   rcases h with h | h
   ·exact .inl h
   ·rcases List.mem_cons.mp h with h | h
    ·cases h; exact absurd rfl hk
    ·exact .inr h
theorem relabel_mem {scope : Scope} {env : Env} {y : Str} {k : NameKind} (h : (relabel scope env).names.lookup y = some k) : (y, k) ∈ scope.names\/(y, NameKind.free) ∈ scope.names := by
 have m := PySem.mem_of_lookup h
 obtain ⟨⟨n, k'⟩, hm, e⟩ := List.mem_map.mp (show (y, k) ∈ scope.names.map _ from m)
 dsimp only at e
 split at e
 ·rename_i hc
  cases e
  simp only [QnX, beq_iff_eq] at hc
  right
  rw [<-hc.1.1]
  exact hm
 ·cases e
  exact .inl hm
structure CompSc (X : Cx) (scope : Scope) (x : Str) (cl : List (Str × Addr)) (N : List Str) (cap : List Nat) : Prop where
 clos : closureFor scope X.env = pure cl
 cell : ∀ y ∈ scope.names, y.2 ≠ .cell
 kind : scope.kind = .function
 names : ∀ y ∈ scope.names, y.2 = .local->scope.names.lookup y.1 = some .local
 loc : scope.names.lookup x = some .local
 nd : N.Nodup
 n0 : N[0]? = some x
 len : N.length = cap.length + 1
 capN : ∀ (k j : Nat), cap[k]? = some j->N[k + 1]? = X.N[j]?
 out : ∀ (k : Nat) (y : Str), N[k + 1]? = some y->X.env.kindOf y = some .cell\/X.env.kindOf y = some .free
 inn : ∀ (k : Nat) (y : Str), N[k + 1]? = some y->(relabel scope X.env).names.lookup y = some .cell\/(relabel scope X.env).names.lookup y = some .free
 sub : ∀ y c, cl.lookup y = some c->X.env.cells.lookup y = some c
 has : ∀ y, ((relabel scope X.env).names.lookup y = some .cell\/(relabel scope X.env).names.lookup y = some .free)->∃ c, cl.lookup y = some c
def Qao (X : Cx) (scope : Scope) (cl : List (Str × Addr)) (C : Addr) (N : List Str) (s : Shared) (H : Hp) (ex : List Addr) : Cx where
 prog := X.prog
 w := X.w
 K := X.K
 mg := X.mg
 base := X.base
 A := X.A
 N := N
 s₀ := s
 H₀ := H
 env := compEnvC scope cl C X.env
 outer := X.stack
 stack := X.stack
 ex := ex
 calm := X.calm
 fn := fun _ => false
 pn := []
 xe := fun _ _ => False
def capS (cap : List Nat) (σ : St) (x : Option V) : St := x :: cap.map fun j => (σ[j]?).getD none
section
variable {X : Cx} {pins : List (Addr × Obj)} {σ : St} {H : Hp} {s : Shared} {scope : Scope} {x : Str} {cl : List (Str × Addr)} {N : List Str} {cap : List Nat} {C : Addr} {fp : List Addr}
theorem Qne (S : CompSc X scope x cl N cap) (I : Inv X pins σ H s) (hC : s.heap.objs.size<=C) (hfp : ∀ b ∈ fp, FpOk X pins H b/\b < s.heap.objs.size) : (Qao X scope cl C N s H fp).Ok where
 mod := I.ok.mod
 kind := S.kind
 glob := I.ok.glob
 blt := I.ok.blt
 above := hC
 inj := fun y z c h1 h2 => I.ok.inj y z c (S.sub y c h1) (S.sub z c h2)
 has := fun y h => S.has y h
 cab := fun y c h => by cases h
 hd := I.ok.hd
 frames := I.ok.frames
 stk := .inl rfl
 exf := fun b hb => ⟨QnS (QnP (hfp b hb).2 hC), fun y c h => (hfp b hb).1.2.2.2.2.1 y c (S.sub y c h)⟩
 bs := I.bs
 bsz := QnV I.ok.bsz I.sz
 noex := fun b o e hb => by
  rcases (hfp b hb).1.2.2.2.1 with z | z
  ·exact I.ok.noex b o e z
  ·exact absurd (QnP (QnJ e) (QnV I.ok.bsz z)) (QnY _)
 exfs := fun b hb z => by
  rcases List.mem_cons.mp (I.stkSub b z) with e | e
  ·exact (hfp b hb).1.2.1 e
  ·exact (hfp b hb).1.2.2.1 e
 funs := I.stack
 frf := I.stkFree
theorem QkN {h₁ : Heap} {tk : Nat} {m : Str->Option Value} (S : CompSc X scope x cl N cap) (I : Inv X pins σ H s) (hC : s.heap.objs.size<=C) (hfp : ∀ b ∈ fp, FpOk X pins H b/\b < s.heap.objs.size)
  (hns : h₁.Ns C m) (old : ∀ b o, s.heap.get? b = some o->h₁.get? b = some o) : Inv (Qao X scope cl C N s H fp) [] (capS cap σ none) H { s with heap := h₁, toks := tk } := by
 refine ⟨Qne S I hC hfp, rfl, I.bare, Un.kept old, ⟨m, hns, fun i y v h1 h2 h3 => ?_⟩, fun y c h => ?_, I.hok.fresh hC, fun y c h => I.freeC y c (S.sub y c h), fun p hp => absurd (show p ∈ ([] : List (Addr × Obj)) from hp) (by simp), I.hok.kept old, ?_⟩
 ·cases i with
  | zero => exact absurd h2 (by simp [capS])
  | succ k =>
   have h2' : (cap.map fun j => (σ[j]?).getD none)[k]? = some (some v) := by simpa [capS] using h2
   rw [QnT] at h2'
   cases ej : cap[k]? with
   | none => rw [ej] at h2'; cases h2'
   | some j =>
    rw [ej] at h2'
    have e1 : (σ[j]?).getD none = some v := by simpa using h2'
    have e2 : σ[j]? = some (some v) := by
     cases q : σ[j]? with
     | none => rw [q] at e1; cases e1
     | some z => rw [q] at e1; exact congrArg some e1
    have e3 : X.N[j]? = some y := (S.capN k j ej).symm.trans h1
    obtain ⟨m2, hn2, hl⟩ := I.loc
    have ko := S.out k y h1
    have vis : Vis X.env.scope y := .inr ko
    obtain ⟨u, ru, lk⟩ := hl j y v e3 e2 vis
    refine ⟨u, ru, .inr ⟨S.inn k y h1, ?_⟩⟩
    rcases lk with ⟨kl, _⟩ | ⟨_, c, hc, cell⟩
    ·rcases ko with z | z <;> (rw [z] at kl; cases kl)
    ·obtain ⟨c', hc'⟩ := S.has y (S.inn k y h1)
     have e4 := S.sub y c' hc'
     rw [hc] at e4
     cases e4
     obtain ⟨o, ho, hd⟩ := cell
     exact ⟨c, hc', o, old c o ho, hd⟩
 ·obtain ⟨v, o, ho, hd⟩ := I.cell y c (S.sub y c h)
  exact ⟨v, o, old c o ho, hd⟩
 ·show (capS cap σ none).length = N.length
  rw [S.len]
  simp [capS]
end
def PTs (X : Cx) (ifs : List Expr) (t : TT) : Prop :=
 ∀ (pins : List (Addr × Obj)) (s : Shared) (σ : St) (H : Hp) (Q : Bool->Hp->Prop), Inv X pins σ H s->t σ H Q ->
  wpAny (model X.prog X.w) X.A (forIn ifs true fun c r => if r = true then do let ok <-isTrue c X.env (eval c X.env); pure (ForInStep.yield ok) else pure (ForInStep.yield r)) (TP X pins σ Q) X.xe s
def tYes : TT := fun _ H Q => Q true H
theorem QlA {X : Cx} : PTs X [] tYes := fun _ _ _ H _ I h => wpAny_tests_nil ⟨H, I, h⟩
theorem pts_one {X : Cx} {c : Expr} {t : TT} (h : PT X c t) : PTs X [c] t := fun pins s σ H Q I hq => wpAny_tests_one (h pins s σ H Q I hq)
def CompW (cap : List Nat) (tt : TT) (te : TE) (σ : St) (P : List V->Hp->Prop) (J : It) (H1 : Hp) : Prop :=
  ∃ W : Nat->Nat->List V->Hp->Prop, (∃ m, W 0 m [] H1)/\∀ i m ys H, W i m ys H->ys.length < sizeLine /\
    ((J.stop i H/\P ys H) ∨
     (J.go i H/\∀ v H', J.yld i H v H'->tt (capS cap σ (some v)) H' fun b H2 => if b = true then te (capS cap σ (some v)) H2 fun y H3 => ∃ m', m' < m/\W (i + 1) m' (ys ++ [y]) H3 else ∃ m', m' < m/\W (i + 1) m' ys H2))
def tComp (wi : TI) (cap : List Nat) (tt : TT) (te : TE) : TE := fun σ H Q => wi σ H (CompW cap tt te σ fun ys H2 => ∀ p, H2 p = none->Q (.ref p) (upd H2 p (.lst ys)))
abbrev lstO (ys : List Value) (n : Nat) : Obj := { cls := .type "list", data := .seq ys.toArray n }
theorem Un.track {fs ex : List Addr} {H H' : Hp} {h h1 : Heap} {a : Addr} {o : HO} (u : Un fs ex H H' h h1) (ha : h.objs.size<=a) (hn : H' a = none) : Un fs ex H (upd H' a o) h h1 where
 keep := u.keep
 slot := u.slot
 free := fun b ob e n hx => by rw [Qan (QnS (QnP (QnJ e) ha))]; exact u.free b ob e n hx
 there := u.there
 tups := fun b xs e => by have q := u.tups b xs e; rw [Qan (Qar q hn)]; exact q
 frzs := fun b ob v e => by have q := u.frzs b ob v e; rw [Qan (Qar q hn)]; exact q
 tbls := fun b ps e => by obtain ⟨more, q⟩ := u.tbls b ps e; exact ⟨more, by rw [Qan (Qar q hn)]; exact q⟩
theorem HOk.track {P : Program} {w : World} {H : Hp} {h : Heap} {a : Addr} {o : HO} (x : HOk P w H h) (hn : H a = none) (new : Qbr P w (upd H a o) h a o) : HOk P w (upd H a o) h := fun b u e => by
 by_cases hb : b = a
 ·subst hb; rw [QaA] at e; cases e; exact new
 ·rw [Qan hb] at e
  exact (x b u e).stay (fun c v _ q => q) (fun c q => by rw [Qan (Qar q hn)]; exact q) fun c xs q => by rw [Qan (Qar q hn)]; exact q
section
variable {X : Cx} {pins : List (Addr × Obj)} {σ : St} {scope : Scope} {x : Str} {px pos : Pos} {cl : List (Str × Addr)} {N : List Str} {cap : List Nat} {elt iter : Expr} {ifs : List Expr} {tt : TT} {te : TE} {E : Value->Shared->Prop}
theorem Qib {P : List V->Hp->Prop} {RR : Value->Addr->Result->Shared->Prop} {H2 : Hp} {s2 : Shared} {it : Addr} {fp : List Addr} {tn : Nat->Heap->Prop} {J : It} (hc : X.calm = true) (S : CompSc X scope x cl N cap)
  (ht : ∀ C s H ex, PTs (Qao X scope cl C N s H ex) ifs tt) (he : ∀ C s H ex, PE (Qao X scope cl C N s H ex) elt te)
  (I2 : Inv X pins σ H2 s2) (T : Turn X.prog X.w X.K (.Name x px) J fp it tn) (st2 : tn 0 s2.heap) (f2 : ∀ b ∈ fp, FpOk X pins H2 b) (h : CompW cap tt te σ P J H2)
  (hRR : ∀ (D C : Addr) (s4 : Shared) (ys : List V) (H3 : Hp) (oC : Obj) (m : Str->Option Value), Inv X (pins ++ [(C, oC)]) σ (upd H3 D (.lst ys)) s4->(∀ h : Heap, h.get? C = some oC->h.Ns C m)->FpOk X pins (upd H3 D (.lst ys)) C->H3 D = none->P ys H3->RR (.ref D) C (.ok .next) s4) :
  wpAny (model X.prog X.w) X.A (newList []) (fun acc s₃ => wpAny (model X.prog X.w) X.A (newFunctionEnv scope X.env.globals cl [] X.env.qual none .none (some X.env)) (fun cenv s₄ =>
   codeAny (model X.prog X.w) X.A (.compStart (.ListComp elt [⟨.Name x px, iter, ifs, 0⟩] scope pos) 0 (.ref it) acc { cenv with scope := relabel scope X.env }) (RR acc cenv.locals) s₄) E s₃) E s2 := by
 obtain ⟨W, ⟨m0, w0⟩, turn⟩ := h
 refine wpAny_newObj_type (wpAny_newFunctionEnv S.cell (by intro y hy; simp at hy) (fun h₁ hns₁ hsb₁ => ?_) S.kind)
 dsimp only at hns₁ hsb₁ ⊢
 generalize hG : s2.heap.push { cls := .type "list", dict := none, data := .seq ([] : List Value).toArray } = G at hns₁ hsb₁ ⊢
 have hC : G.objs.size = s2.heap.objs.size + 1 := by rw [<-hG, Heap.size_push]
 have hDC : s2.heap.objs.size ≠ G.objs.size := by rw [hC]; exact QnS (Nat.lt_succ_self _)
 have hCle : s2.heap.objs.size<=G.objs.size := by rw [hC]; exact Nat.le_succ _
 have old : ∀ b o, s2.heap.get? b = some o->h₁.get? b = some o := fun b o e => by
  have hb := QnJ e
  exact hsb₁.extBut b o (by rw [hC]; exact QnS (Nat.lt_succ_of_lt hb)) (QnG _ (hG ▸ QnG _ e))
 have hacc : h₁.get? s2.heap.objs.size = some (lstO [] 0) := hsb₁.extBut _ _ hDC (QnG _ (hG ▸ QnR _ rfl))
 have flt : ∀ b ∈ fp, b < s2.heap.objs.size := fun b hb => by obtain ⟨o, e, _⟩ := T.obj 0 _ st2 b hb; exact QnJ e
 have fp2 : ∀ b ∈ fp, FpOk X pins H2 b/\b < s2.heap.objs.size := fun b hb => ⟨f2 b hb, flt b hb⟩
 have st1 : tn 0 h₁ := T.keep _ _ _ st2 fun b _ o e => old b o e
 have fD2 : H2 s2.heap.objs.size = none := I2.hok.fresh (QnL _)
 have nDx : ∀ y c, X.env.cells.lookup y = some c->c ≠ s2.heap.objs.size/\c ≠ G.objs.size := fun y c e => by
  obtain ⟨v, q⟩ := I2.cell y c e
  have := q.lt
  exact ⟨QnS this, by rw [hC]; exact QnS (Nat.lt_succ_of_lt this)⟩
 have nPx : ∀ p ∈ X.pn ++ pins, p.1 < s2.heap.objs.size := fun p hp => QnJ (I2.pin p hp).1
 have fpB : ∀ {H' : Hp} {pl : List (Addr × Obj)}, (∀ b ∈ fp, H' b = none)->(∀ p ∈ pl, p.1 = s2.heap.objs.size)->∀ b ∈ fp, FpOk (Qao X scope cl G.objs.size N s2 H2 fp) pl H' b := fun {H' pl} hn hp b hb => by
  refine ⟨hn b hb, QnS (QnP (flt b hb) hCle), fun z => ?_, .inl hb, fun y c e => (f2 b hb).2.2.2.2.1 y c (S.sub y c e), fun p hq z => ?_⟩
  ·rcases List.mem_cons.mp (I2.stkSub b z) with e | e
   ·exact (f2 b hb).2.1 e
   ·exact (f2 b hb).2.2.1 e
  ·have e1 : p.1 = s2.heap.objs.size := hp p (by simpa [Qao] using hq)
   rw [e1] at z
   exact absurd (flt b hb) (by rw [<-z]; exact QnY _)
 have nDfs : s2.heap.objs.size ∉ frs X.stack := fun z => by
  rcases List.mem_cons.mp (I2.stkSub _ z) with e | e
  ·exact absurd I2.lt (by rw [<-e]; exact QnY _)
  ·exact I2.nofs (QnL _) e
 have pinD : ∀ {σ' : St} {H' : Hp} {s' : Shared} {ob : Obj}, Inv (Qao X scope cl G.objs.size N s2 H2 fp) [] σ' H' s'->s'.heap.get? s2.heap.objs.size = some ob->(∀ v, ob.data ≠ .cell v)->H' s2.heap.objs.size = none ->
   Inv (Qao X scope cl G.objs.size N s2 H2 fp) [(s2.heap.objs.size, ob)] σ' H' s' := fun {σ' H' s' ob} J' e d n => J'.pins_of fun p hp => by
  have e1 : p = (s2.heap.objs.size, ob) := by simpa using hp
  subst e1
  exact ⟨e, n, hDC, nDfs, d⟩
 have nocell : ∀ (ys : List Value) (n : Nat) v, (lstO ys n).data ≠ .cell v := fun ys n v z => by cases (show Data.seq ys.toArray n = Data.cell v from z)
 have loop : ∀ s₃ : Shared, s₃ = { s2 with heap := h₁, toks := s2.toks + ([] : List (Str × Value)).length } ->
   codeAny (model X.prog X.w) X.A (.compLoop (.ListComp elt [⟨.Name x px, iter, ifs, 0⟩] scope pos) 0 (.ref it) (.ref s2.heap.objs.size) (compEnvC scope cl G.objs.size X.env)) (RR (.ref s2.heap.objs.size) G.objs.size) s₃ := by
  rintro s₃ rfl
  refine codeAny_compLoop_tests
   (fun n s' => ∃ i ys vs e H' a, Inv (Qao X scope cl G.objs.size N s2 H2 fp) [(s2.heap.objs.size, lstO vs e)] (capS cap σ a) H' s'/\tn i s'.heap/\(∀ b ∈ fp, H' b = none)/\Vals ys vs/\H' s2.heap.objs.size = none/\W i n ys H') ?_ m0
   ⟨0, [], [], 0, H2, none, pinD (QkN S I2 hCle fp2 hns₁ old) hacc (nocell _ _) fD2, st1, fun b hb => (f2 b hb).1, .nil, fD2, w0⟩
  rintro n s3 ⟨i, ys, vs, e, H3, a, I3, st3, fr3, rel3, fD3, w3⟩
  obtain ⟨hlen, hcase⟩ := turn i n ys H3 w3
  have pl1 : ∀ p ∈ [(s2.heap.objs.size, lstO vs e)], p.1 = s2.heap.objs.size := fun p hp => by
   have e1 : p = (s2.heap.objs.size, lstO vs e) := by simpa using hp
   rw [e1]
  rcases hcase with ⟨stop, fin⟩ | ⟨go, step⟩
  ·refine wpAny_mono (T.done (Qao X scope cl G.objs.size N s2 H2 fp) rfl rfl rfl hc i _ s3 _ H3 (fun _ _ => False) I3 (fpB fr3 pl1) st3 stop) (fun r s4 ⟨hr, I4⟩ => ?_) fun _ _ z => z.elim
   subst hr
   obtain ⟨hD4, hDn, _, _, _⟩ := I4.pin (s2.heap.objs.size, lstO vs e) (by simp [Qao])
   have un4 : Un (frs X.stack) fp H2 H3 s2.heap s4.heap := I4.base
   have un5 : Un (frs X.stack) fp H2 (upd H3 s2.heap.objs.size (.lst ys)) s2.heap s4.heap := un4.track (QnL _) hDn
   have ok5 : HOk X.prog X.w (upd H3 s2.heap.objs.size (.lst ys)) s4.heap := HOk.track I4.hok hDn ⟨Nat.le_of_lt hlen, vs, e, rel3, hD4⟩
   have I5 : Inv X pins σ (upd H3 s2.heap.objs.size (.lst ys)) s4 := I2.call' I4.os un5 ok5 I4.bare fun b hb => ⟨(f2 b hb).2.2.2.1, (f2 b hb).2.1, (f2 b hb).2.2.2.2.1, (f2 b hb).2.2.2.2.2⟩
   obtain ⟨m, hnC, _⟩ := I4.loc
   have hnC' : s4.heap.Ns G.objs.size m := hnC
   obtain ⟨oC, es, ep, hoC, hdC, hrC⟩ := id hnC'
   have hHC : (upd H3 s2.heap.objs.size (.lst ys)) G.objs.size = none := by
    rw [Qan (Ne.symm hDC)]
    exact I4.free
   have fC : FpOk X pins (upd H3 s2.heap.objs.size (.lst ys)) G.objs.size := by
    refine ⟨hHC, Nat.ne_of_gt (QnP I2.lt hCle), I2.nofs hCle, .inr (QnV I2.sz hCle), fun y c q => (nDx y c q).2, fun p hp z => ?_⟩
    have := nPx p hp
    rw [z] at this
    exact absurd (QnP this hCle) (QnY _)
   refine hRR s2.heap.objs.size G.objs.size s4 ys H3 oC m (I5.pins_of fun p hp => ?_) (fun h q => ⟨oC, es, ep, q, hdC, hrC⟩) fC hDn fin
   rcases List.mem_append.mp hp with hp | hp
   ·exact I5.pin p (QnH _ hp)
   ·have e1 : p = (G.objs.size, oC) := by simpa using hp
    subst e1
    exact ⟨hoC, hHC, fC.2.1, fC.2.2.1, fun v z => by rw [hdC] at z; cases z⟩
  ·refine wpAny_mono (T.item (Qao X scope cl G.objs.size N s2 H2 fp) rfl rfl rfl hc i _ s3 _ H3 (fun _ _ => False) I3 (fpB fr3 pl1) st3 go) (fun r s4 ⟨u, hr, h4⟩ => ?_) fun _ _ z => z.elim
   subst hr
   show wpAny _ _ (letOwnedTupleGo (.Name x px) (.ref it) u >>= fun _ => assign (.Name x px) (compEnvC scope cl G.objs.size X.env) u) _ _ s4
   refine wpAny_bind (wpAny_mono h4 (fun _ s5 ⟨v, H5, I5, r5, y5, st5, fr5⟩ => ?_) fun _ _ z => z.elim)
   have I5' := I5.pinned (fpB fr5 pl1) (T.obj _ _ st5)
   have hloc : (Qao X scope cl G.objs.size N s2 H2 fp).env.scope.names.lookup x = some .local := lookup_relabel_local S.loc
   refine wpAny_mono (Qgx (X := Qao X scope cl G.objs.size N s2 H2 fp) (i := 0) (pos := px) S.nd S.n0 (.inl hloc) (.inr hloc) _ s5 _ H5 v u (fun σ6 H6 => σ6 = capS cap σ (some v)/\H6 = H5) I5' r5 ⟨rfl, rfl⟩) (fun _ s6 ⟨σ6, H6, I6, e6, e6'⟩ => ?_) fun _ _ z => z.elim
   subst e6 e6'
   refine wpAny_mono (ht _ _ _ _ _ s6 _ H6 _ I6 (step v H6 y5)) (fun ok s7 ⟨H7, I7, q7⟩ => ?_) fun _ _ z => z.elim
   have after : ∀ {H8 : Hp} {s8 : Shared}, Inv (Qao X scope cl G.objs.size N s2 H2 fp) ([(s2.heap.objs.size, lstO vs e)] ++ QfP fp s5.heap) (capS cap σ (some v)) H8 s8 ->
     tn (i + 1) s8.heap/\(∀ b ∈ fp, H8 b = none)/\s8.heap.get? s2.heap.objs.size = some (lstO vs e)/\H8 s2.heap.objs.size = none := fun {H8 s8} I8 => by
    refine ⟨T.keep _ _ _ st5 fun b hb o q => (I8.pin (b, o) (QnH _ (QnH _ (QbL hb q)))).1, fun b hb => ?_, (I8.pin (s2.heap.objs.size, lstO vs e) (QnH _ (List.mem_append_left _ QnI))).1, (I8.pin (s2.heap.objs.size, lstO vs e) (QnH _ (List.mem_append_left _ QnI))).2.1⟩
    obtain ⟨o, q, _⟩ := T.obj _ _ st5 b hb
    exact (I8.pin (b, o) (QnH _ (QnH _ (QbL hb q)))).2.1
   cases ok with
   | false =>
    rw [if_neg QnE] at q7 ⊢
    obtain ⟨m', hm, w7⟩ := q7
    obtain ⟨st7, fr7, hD7, fD7⟩ := after I7
    exact ⟨m', hm, i + 1, ys, vs, e, H7, some v, I7.unpinned, st7, fr7, rel3, fD7, w7⟩
   | true =>
    rw [if_pos rfl] at q7 ⊢
    refine wpAny_mono (he _ _ _ _ _ s7 _ H7 _ I7 q7) (fun yv s8 ⟨y, H8, I8, r8, m', hm, w8⟩ => ?_) fun _ _ z => z.elim
    obtain ⟨st8, fr8, hD8, fD8⟩ := after I8
    refine append_at (hsz := by rw [QnK, <-rel3.length]; exact Nat.le_of_lt hlen) hD8 fun h9 hs9 hD9 => ?_
    have I8u : Inv (Qao X scope cl G.objs.size N s2 H2 fp) [] (capS cap σ (some v)) H8 s8 := I8.pins_of fun p hp => absurd hp (by simp)
    have I9 : Inv (Qao X scope cl G.objs.size N s2 H2 fp) [] (capS cap σ (some v)) H8 { s8 with heap := h9 } :=
     I8u.turned (t' := s8.toks) (it := s2.heap.objs.size) (fun b o hb q => (hs9.2 b hb).trans q) fD8 hDC (.inr (QnL _)) (fun y c q => (nDx y c (S.sub y c q)).1) fun p hp => absurd (show p ∈ ([] : List (Addr × Obj)) from hp) (by simp)
    have hD9' : h9.get? s2.heap.objs.size = some (lstO (vs ++ [yv]) (e + 1)) := by
     rw [hD9]
     show some ({ cls := .type "list", data := .seq (vs.toArray.push yv) (e + 1) } : Obj) = some { cls := .type "list", data := .seq (vs ++ [yv]).toArray (e + 1) }
     rw [List.push_toArray]
    refine ⟨m', hm, i + 1, ys ++ [y], vs ++ [yv], e + 1, H8, some v, pinD I9 hD9' (nocell _ _) fD8, ?_, fr8, rel3.append (.cons r8 .nil), fD8, w8⟩
    exact T.keep _ _ _ st8 fun b hb o q => (hs9.2 b (QnS (flt b hb))).trans q
 exact codeAny_compStart_list (loop _ rfl) (T.self _ 0 _ _ _ st1 (loop _ rfl))
theorem pe_comp {wi : TI} (hc : X.calm = true) (hi : PI X (.Name x px) iter wi) (S : CompSc X scope x cl N cap) (ht : ∀ C s H ex, PTs (Qao X scope cl C N s H ex) ifs tt) (he : ∀ C s H ex, PE (Qao X scope cl C N s H ex) elt te)
  (hs : ∀ z, foldedSetIterable iter X.env z = pure z := by intro _; rfl) : PE X (.ListComp elt [⟨.Name x px, iter, ifs, 0⟩] scope pos) (tComp wi cap tt te) := by
 intro pins s σ H Q I h
 rw [eval_ListComp]
 refine wpAny_comprehension_free (use := none) rfl hs S.clos S.kind S.names (thn (hi pins s σ H _ I h) fun v s1 h1 => thn h1 fun itv s2 h2 => ?_)
 obtain ⟨it, fp, tn, J, H2, e, I2, T, st2, f2, h⟩ := h2
 subst e
 refine Qib (RR := fun acc C => compPost (model X.prog X.w) X.A X.xe none (EP X pins σ Q) acc C) hc S ht he I2 T st2 f2 h fun D C s4 ys H3 oC m I4 hnC fC hD fin => ?_
 have hoC := (I4.pin (C, oC) (QnH _ (QnH _ QnI))).1
 refine ⟨m, hnC _ hoC, fun h' hs' => ?_⟩
 exact ⟨.ref D, _, I4.unpinned.turned (t' := s4.toks) (it := C) (fun b o hb q => (hs'.2 b hb).trans q) fC.1 fC.2.1 fC.2.2.2.1 fC.2.2.2.2.1 fC.2.2.2.2.2, rfl, fin D hD⟩
theorem Qkk {wi : TI} {i : Nat} {y : Str} {py spos : Pos} (hN : X.N.Nodup) (hy : X.N[i]? = some y) (hL : X.env.scope.names.lookup y = some .local) (hc : X.calm = true) (hi : PI X (.Name x px) iter wi) (S : CompSc X scope x cl N cap)
  (ht : ∀ C s H ex, PTs (Qao X scope cl C N s H ex) ifs tt) (he : ∀ C s H ex, PE (Qao X scope cl C N s H ex) elt te)
  (hsw : swapsWith (.ListComp elt [⟨.Name x px, iter, ifs, 0⟩] scope pos) (some (.Name y py)) spos.line X.env = pure true := by rfl)
  (hs : ∀ z, foldedSetIterable iter X.env z = pure z := by intro _; rfl) : PS X (.Assign [.Name y py] (.ListComp elt [⟨.Name x px, iter, ifs, 0⟩] scope pos) spos) (tAsg (tComp wi cap tt te) (Qfl i)) := by
 intro pins s σ H D I h
 rw [exec_Assign_Name_used _ _ _ _ hsw]
 refine wpAny_bind (wpAny_standAt (wpAny_bind ?_))
 show wpAny _ X.A (do let _ <-comprehension (.ListComp elt [⟨.Name x px, iter, ifs, 0⟩] scope pos) scope X.env _ (newList []) false (eval iter X.env) (some (assign (.Name y py) X.env))) _ _ s
 refine wpAny_bind (wpAny_mono (wpAny_comprehension_free (use := some (assign (.Name y py) X.env)) (Q := fun _ s' => SP X pins D .next s') rfl hs S.clos S.kind S.names
  (thn (hi pins s σ H _ I h) fun v s1 h1 => thn h1 fun itv s2 h2 => ?_)) (fun _ s' hq => wpAny_pure (wpAny_pure hq)) fun _ _ e => e)
 obtain ⟨it, fp, tn, J, H2, e, I2, T, st2, f2, h⟩ := h2
 subst e
 refine Qib (RR := fun acc C => compPost (model X.prog X.w) X.A X.xe (some (assign (.Name y py) X.env)) (fun _ s' => SP X pins D .next s') acc C) hc S ht he I2 T st2 f2 h fun d C s4 ys H3 oC m I4 hnC fC hD fin => ?_
 show wpAny _ X.A (assign (.Name y py) X.env (.ref d)) _ _ s4
 refine wpAny_assign_Name (Qgp (v := .ref d) I4 hN hy (.inl hL) rfl (fun s5 I5 => ?_) (.inr hL))
 have hoC := (I5.pin (C, oC) (QnH _ (QnH _ QnI))).1
 refine ⟨m, hnC _ hoC, fun h' hs' => ?_⟩
 exact ⟨σ.set i (some (.ref d)), _, I5.unpinned.turned (t' := s5.toks) (it := C) (fun b o hb q => (hs'.2 b hb).trans q) fC.1 fC.2.1 fC.2.2.2.1 fC.2.2.2.2.1 fC.2.2.2.2.2, fin d hD⟩
end
end L2
namespace L2
open PySem PySem.Spec PyProof.Rows
def EqT (K : PySem.W.Frag) (H : Hp) : Nat->V->V->Bool->Prop
 | 0, x, y, b => QdL x = true/\QdL y = true/\b = eqV x y
 | n + 1, x, y, b => (QdL x = true/\QdL y = true/\b = eqV x y) ∨
   ∃ (p q : Addr) (xs ys : List V) (e : Nat->Bool), x = .ref p/\y = .ref q/\SqT K H p xs/\SqT K H q ys/\(∀ (j : Nat) x y, xs[j]? = some x->ys[j]? = some y->EqT K H n x y (e j)) /\
    b = ((List.range (min xs.length ys.length)).all e && xs.length == ys.length)
theorem QgS {x : V} (h : QdL x = true) : eqV x x = true := by
 cases x with
 | non => rfl
 | bl b => simp [eqV]
 | int i => simp [eqV]
 | str z => simp [eqV]
 | _ => exact absurd (show false = true from h) QnE
theorem Vals.at {xs : List V} {us : List Value} (r : Vals xs us) {j : Nat} (h : j < us.length) : ∃ x, xs[j]? = some x/\RelV x us[j] := by
 have hl := r.length
 have hj : j < xs.length := by omega
 obtain ⟨u, hu, ru⟩ := r.get (i := j) (x := xs[j]) (QnF hj)
 have e : us[j] = u := by
  have := QnF h
  rw [this] at hu
  exact Option.some.inj hu
 exact ⟨_, QnF hj, by rw [e]; exact ru⟩
section
variable {X : Cx} {pins : List (Addr × Obj)} {σ : St} {H : Hp} {s : Shared}
theorem QjS (I : Inv X pins σ H s) : ∀ (n : Nat) (x : V) (b : Bool), EqT X.K H n x x b->b = true
 | 0, x, b, h => by
  obtain ⟨f, _, e⟩ := h
  rw [e]; exact QgS f
 | n + 1, x, b, h => by
  rcases h with ⟨f, _, e⟩ | ⟨p, q, xs, ys, e, e1, e2, hp, hq, hs, eb⟩
  ·rw [e]; exact QgS f
  ·rw [e1] at e2
   cases e2
   have exy := I.tuple_inj hp hq
   subst exy
   rw [eb]
   simp only [Nat.min_self, beq_self_eq_true, Bool.and_true, List.all_eq_true, List.mem_range]
   intro j hj
   exact QjS I n _ _ (hs j xs[j] xs[j] (by simp [hj]) (by simp [hj]))
theorem QmU (I : Inv X pins σ H s) : ∀ (n : Nat) (x y : V) (b : Bool) (u v : Value) (A : Around), EqT X.K H n x y b->RelV x u->RelV y v->A.units + n < cLine->SeqAt.EqAt A s u v b
 | 0, x, y, b, u, v, A, h, ru, rv, hA => by
  obtain ⟨f, g, e⟩ := h
  rw [e]; exact QmX ru rv f g
 | n + 1, x, y, b, u, v, A, h, ru, rv, hA => by
  rcases h with ⟨f, g, e⟩ | ⟨p, q, xs, ys, e, e1, e2, hp, hq, hs, eb⟩
  ·rw [e]; exact QmX ru rv f g
  ·subst e1 e2
   cases ru
   cases rv
   by_cases hpq : p = q
   ·subst hpq
    have hb : b = true := QjS I (n + 1) (.ref p) b (.inr ⟨p, p, xs, ys, e, rfl, rfl, hp, hq, hs, eb⟩)
    rw [hb]
    exact SeqAt.EqAt.same _
   ·obtain ⟨its, r1, t1, _⟩ := I.tuple hp
    obtain ⟨its2, r2, t2, _⟩ := I.tuple hq
    have l1 : xs.length = its.toArray.size := by rw [QnK]; exact r1.length
    have l2 : ys.length = its2.toArray.size := by rw [QnK]; exact r2.length
    rw [eb, l1, l2]
    refine SeqAt.EqAt.of_refs hpq (SeqAt.RcAt.tuples (e := e) (show s.heap.IsTuple p its.toArray from t1) (show s.heap.IsTuple q its2.toArray from t2) (by omega) fun j h1 h2 => ?_)
    have h1' : j < its.length := by simpa using h1
    have h2' : j < its2.length := by simpa using h2
    obtain ⟨x', ex, rx⟩ := r1.at h1'
    obtain ⟨y', ey, ry⟩ := r2.at h2'
    have q1 : its.toArray[j] = its[j] := by simp
    have q2 : its2.toArray[j] = its2[j] := by simp
    rw [q1, q2]
    exact QmU I n x' y' (e j) _ _ A.in1 (hs j x' y' ex ey) rx ry (by show A.units + 1 + n < cLine; omega)
end
section
variable {X : Cx}
end
def RcLt (A : Around) (s : Shared) (u v : Value) (b : Bool) : Prop := ∀ (prog : Program) (w : World) (E : Value->Shared->Prop) (Q : Value->Shared->Prop), Q (.bool b) s->wpAny (model prog w) A (richCompare .Lt u v) Q E s
inductive LtRun (A : Around) (s : Shared) : List Value->List Value->Bool->Prop
 | nn : LtRun A s [] [] false
 | nc {y : Value} {ys : List Value} : LtRun A s [] (y :: ys) true
 | cn {x : Value} {xs : List Value} : LtRun A s (x :: xs) [] false
 | eq {x y : Value} {xs ys : List Value} {r : Bool} : SeqAt.EqAt A s x y true->LtRun A s xs ys r->LtRun A s (x :: xs) (y :: ys) r
 | ne {x y : Value} {xs ys : List Value} {r : Bool} : SeqAt.EqAt A s x y false->RcLt A s x y r->LtRun A s (x :: xs) (y :: ys) r
section
open PySem.SeqAt
open PySem.AutoSeq1 (wpAny_loadPart')
open PySem.MeetsSeq PySem.MeetsSeq2 PySem.MeetsSeq3
theorem Qhk (l b : Addr) (items items2 : Array Value) (n n2 : Nat) (dd dd2 : Option Addr) (sl sl2 : Array (Option Value)) :
  Meets (Builtin.«tuple.__lt__» ⟨[.ref l, .ref b], []⟩)
   (fun A R s => s.heap.get? l = some { cls := .type "tuple", dict := dd, data := .seq items n, slots := sl }/\s.heap.get? b = some { cls := .type "tuple", dict := dd2, data := .seq items2 n2, slots := sl2 } /\
    ∃ r, LtRun A.in1 s items.toList items2.toList r/\R (.ok (.ret (.bool r))) s) :=
 .of_wp fun prog w A R s h => by
  obtain ⟨hp, g, d, tk, os⟩ := s; obtain ⟨hl, hb, r, hrun, h⟩ := h
  have f2 := AutoSeq1.sub_tuple_tuple
  wp_walk using wpAny_loadPart' hl, wpAny_loadPart' hb, wpAny_forIn_list _ (fun rest b s' => b.1 = none/\s' = ⟨hp, g, d, tk, os⟩/\∃ (vs ws : List Value) (r' : Bool), rest = vs.zip ws /\
   LtRun A.in1 ⟨hp, g, d, tk, os⟩ vs ws r'/\vs.length + items2.size = ws.length + items.size/\R (.ok (.ret (.bool r'))) ⟨hp, g, d, tk, os⟩) _
  case turn =>
   rintro ⟨y, x⟩ rest b s' ⟨hb', rfl, vs, ws, r', hz, hrun, hlen, hR⟩
   cases hrun with
   | nn => rw [List.zip_nil_left] at hz; cases hz
   | nc => rw [List.zip_nil_left] at hz; cases hz
   | cn => rw [List.zip_nil_right] at hz; cases hz
   | eq he hr =>
    rw [List.zip_cons_cons] at hz
    injection hz with hyx hrest
    injection hyx with hy hx
    subst hy hx
    simp only [QnU] at hlen
    refine wpAny_bind (he prog w _ _ ?_)
    wp_walk
    exact ⟨rfl, rfl, _, _, _, hrest, hr, by omega, hR⟩
   | ne he hr =>
    rw [List.zip_cons_cons] at hz
    injection hz with hyx hrest
    injection hyx with hy hx
    subst hy hx
    refine wpAny_bind (he prog w _ _ ?_)
    have hri := hr prog w
    wp_walk using hri
    exact ⟨_, rfl, by simpa using hR⟩
  case fin =>
   rintro ⟨b1, b2⟩ s' ⟨hb', rfl, vs, ws, r', hz, hrun, hlen, hR⟩
   simp only at hb'
   subst hb'
   have hv : r' = decide (items.size < items2.size) := by
    cases hrun with
    | nn =>
     simp only [List.length_nil] at hlen
     exact (decide_eq_false (by omega)).symm
    | nc =>
     simp only [List.length_nil, QnU] at hlen
     exact (decide_eq_true (by omega)).symm
    | cn =>
     simp only [List.length_nil, QnU] at hlen
     exact (decide_eq_false (by omega)).symm
    | eq he hr => rw [List.zip_cons_cons] at hz; cases hz
    | ne he hr => rw [List.zip_cons_cons] at hz; cases hz
   rw [hv] at hR
   wp_walk
   exact ⟨_, rfl, by simpa [Builtin.Tuple.tupleCompareSizes] using hR⟩
  case h =>
   exact ⟨rfl, rfl, items.toList, items2.toList, r, rfl, hrun, by simp; omega, h⟩
end
theorem Qmc {prog : Program} {w : World} {A : Around} {E : Value->Shared->Prop} {s : Shared} {l b : Addr} {items items2 : Array Value} {r : Bool} {Q : Value->Shared->Prop} (hl : IsTup s.heap l items) (hb : IsTup s.heap b items2)
  (hr : LtRun A.in1 s items.toList items2.toList r) (hu : A.units < cLine) (h : Q (.bool r) s) : wpAny (model prog w) A (richCompare .Lt (.ref l) (.ref b)) Q E s := by
 obtain ⟨⟨cls, dd, data, sl⟩, ho, hc, n, hd⟩ := id hl
 obtain ⟨⟨cls2, dd2, data2, sl2⟩, ho2, hc2, n2, hd2⟩ := id hb
 simp only at hc hd hc2 hd2
 subst hc hd hc2 hd2
 exact richCompare_meets_room (op := .Lt) ⟨_, ho, rfl⟩ ⟨_, ho2, rfl⟩ PySem.F.slot_tuple_lt PySem.F.entry_tuple_lt (PySem.F.args_tuple_lt_2 _ _) (Qhk l b items items2 n n2 dd dd2 sl sl2)
  ⟨ho, ho2, r, hr, show Value.bool r ≠ Value.notImplemented/\Q (.bool r) s from ⟨(fun x => nomatch x), h⟩⟩ hu
inductive LtR (E L : V->V->Bool->Prop) : List V->List V->Bool->Prop
 | nn : LtR E L [] [] false
 | nc {y : V} {ys : List V} : LtR E L [] (y :: ys) true
 | cn {x : V} {xs : List V} : LtR E L (x :: xs) [] false
 | eq {x y : V} {xs ys : List V} {r : Bool} : E x y true->LtR E L xs ys r->LtR E L (x :: xs) (y :: ys) r
 | ne {x y : V} {xs ys : List V} {r : Bool} : E x y false->L x y r->LtR E L (x :: xs) (y :: ys) r
def ltFlat (x y : V) (b : Bool) : Prop := (∃ i j, x = .int i/\y = .int j/\b = decide (i < j))\/(∃ i j, x = .str i/\y = .str j/\b = decide (i.cps.toList < j.cps.toList))
section
variable {X : Cx} {pins : List (Addr × Obj)} {σ : St} {H : Hp} {s : Shared}
theorem Qme {A : Around} {x y : V} {b : Bool} {u v : Value} (h : ltFlat x y b) (ru : RelV x u) (rv : RelV y v) : RcLt A s u v b := by
 intro prog w E Q hq
 rcases h with ⟨i, j, rfl, rfl, rfl⟩ | ⟨i, j, rfl, rfl, rfl⟩
 ·obtain ⟨t, rfl⟩ := ru
  obtain ⟨t', rfl⟩ := rv
  exact HT.rcLt_int A s i t j t' prog w E Q hq
 ·obtain ⟨t, rfl⟩ := ru
  obtain ⟨t', rfl⟩ := rv
  exact (lt_str hq : wpAny (model prog w) A (compareOp .Lt (.str i t) (.str j t')) Q E s)
theorem QgK {A : Around} {E L : V->V->Bool->Prop} (hE : ∀ x y b u v, E x y b->RelV x u->RelV y v->SeqAt.EqAt A s u v b) (hL : ∀ x y b u v, L x y b->RelV x u->RelV y v->RcLt A s u v b) :
  ∀ {xs ys : List V} {r : Bool}, LtR E L xs ys r->∀ {us vs : List Value}, Vals xs us->Vals ys vs->LtRun A s us vs r
 | _, _, _, .nn, _, _, .nil, .nil => .nn
 | _, _, _, .nc, _, _, .nil, .cons _ _ => .nc
 | _, _, _, .cn, _, _, .cons _ _, .nil => .cn
 | _, _, _, .eq e h, _, _, .cons r t, .cons r' t' => .eq (hE _ _ _ _ _ e r r') (QgK hE hL h t t')
 | _, _, _, .ne e l, _, _, .cons r _, .cons r' _ => .ne (hE _ _ _ _ _ e r r') (hL _ _ _ _ _ l r r')
end
end L2
namespace L2
open PySem PySem.Spec PyProof.Rows
theorem obj_some {P : Program} {w : World} {H : Hp} {h : Heap} {a : Addr} {o : HO} (x : Qbr P w H h a o) : ∃ ob, h.get? a = some ob := by
 cases o with
 | lst xs => obtain ⟨_, _, _, _, e⟩ := x; exact ⟨_, e⟩
 | tup xs => obtain ⟨_, _, _, o, e, _⟩ := x; exact ⟨_, e⟩
 | dK kvs => obtain ⟨_, _, _, _, o, _, _, e, _⟩ := x; exact ⟨_, e⟩
 | dT kvs => obtain ⟨_, _, _, _, o, _, _, e, _⟩ := x; exact ⟨_, e⟩
 | set S n => obtain ⟨o, _, _, _, e, _⟩ := x; exact ⟨_, e⟩
 | ins C dx fs => obtain ⟨_, _, _, e, _⟩ := x; exact ⟨_, e⟩
 | own y => exact x
 | xd fs => obtain ⟨_, ⟨_, _, _, e, _⟩, _⟩ := x; exact ⟨_, e⟩
 | rng lo hi => obtain ⟨_, _, _, e⟩ := x; exact ⟨_, e⟩
 | frz ob u => obtain ⟨e, _⟩ := x; exact ⟨_, e⟩
 | tbl ps => exact ⟨_, (show h.get? a = some _ from x)⟩
 | met f y => exact ⟨_, (show h.get? a = some _ from x)⟩
 | ext φ => obtain ⟨_, ⟨_, e⟩, _⟩ := x; exact ⟨_, e⟩
section
variable {X : Cx} {pins : List (Addr × Obj)} {σ : St} {H : Hp} {s : Shared} {h' : Heap}
theorem ns_inj {h : Heap} {a : Addr} {m m' : Str->Option Value} (x : h.Ns a m) (y : h.Ns a m') : m = m' := by
 obtain ⟨o, es, ep, e, d, _, f⟩ := x
 obtain ⟨o', es', ep', e', d', _, f'⟩ := y
 rw [e] at e'; cases e'
 rw [d] at d'; cases d'
 funext n
 rw [<-f n, <-f' n]
structure Young (X : Cx) (pins : List (Addr × Obj)) (d : Addr) : Prop where
 nL : d ≠ X.env.locals
 nf : d ∉ X.fs
 s0 : ∀ o, X.s₀.heap.get? d = some o->d ∈ X.ex
 nc : ∀ x c, X.env.cells.lookup x = some c->c ≠ d
 np : ∀ p ∈ X.pn ++ pins, p.1 ≠ d
 nb : X.base.get? d = none
theorem Qgk (I : Inv X pins σ H s) {d : Addr} (hs : s.heap.get? d = none) (hL : d ≠ X.env.locals) (hb : X.base.get? d = none) : Young X pins d/\H d = none := by
 refine ⟨⟨hL, fun z => ?_, fun o e => ?_, fun x c e z => ?_, fun p hp z => ?_, hb⟩, ?_⟩
 ·obtain ⟨_, o, ho, _⟩ := I.funs.mem z
  rw [hs] at ho; cases ho
 ·by_cases hx : d ∈ X.ex
  ·exact hx
  ·obtain ⟨o', e'⟩ := I.base.there d o e hx
   rw [hs] at e'; cases e'
 ·obtain ⟨v, o, ho, _⟩ := I.cell x c e
  rw [z, hs] at ho; cases ho
 ·have := (I.pin p hp).1
  rw [z, hs] at this; cases this
 ·cases q : H d with
  | none => rfl
  | some u =>
   have y := I.hok d u q
   obtain ⟨ob, e⟩ := obj_some y
   rw [hs] at e; cases e
theorem Inv.led {t' : Nat} {d : Addr} (I : Inv X pins σ H s) (y : Young X pins d) (hn : H d = none) (k : ∀ b o, b ≠ X.env.locals->b ≠ d->s.heap.get? b = some o->h'.get? b = some o) (ns : ∀ m, s.heap.Ns X.env.locals m->h'.Ns X.env.locals m) :
  Inv X pins σ H { s with heap := h', toks := t' } := by
 have neL : ∀ b o, X.s₀.heap.get? b = some o->b ≠ X.env.locals := fun b o e => QnS (QnP (QnJ e) I.ok.above)
 have neD : ∀ b o, X.s₀.heap.get? b = some o->b ∉ X.ex->b ≠ d := fun b o e hx z => hx (z ▸ y.s0 o (z ▸ e))
 have nit : ∀ b u, H b = some u->b ≠ d := fun b u e z => by rw [z, hn] at e; cases e
 have niL : ∀ b u, H b = some u->b ≠ X.env.locals := fun b u e z => by rw [z, I.free] at e; cases e
 have cellK : ∀ x c, X.env.cells.lookup x = some c->∀ v, s.heap.IsCell c v->h'.IsCell c v := fun x c e v ⟨o, ho, hd⟩ => ⟨o, k c o (I.cne x c e) (y.nc x c e) ho, hd⟩
 have okL : ∃ o, h'.get? X.env.locals = some o := by
  obtain ⟨m, hm, _⟩ := I.loc
  obtain ⟨o, _, _, e, _⟩ := ns m hm
  exact ⟨o, e⟩
 refine ⟨I.ok, I.os, I.bare, ⟨fun b o e n hb hx => ?_, fun b o e n hb hx => ?_, I.base.free, fun b o e hx => ?_, I.base.tups, I.base.frzs, I.base.tbls⟩, ?_, fun x c e => ?_, I.free, I.freeC, fun p hp => ?_, fun a u e => ?_, I.len⟩
 ·exact k b o (neL b o e) (neD b o e hx) (I.base.keep b o e n hb hx)
 ·obtain ⟨sl, e1⟩ := I.base.slot b o e n hb hx
  exact ⟨sl, k b _ (neL b o e) (neD b o e hx) e1⟩
 ·obtain ⟨o', e1⟩ := I.base.there b o e hx
  exact ⟨o', k b _ (neL b o e) (neD b o e hx) e1⟩
 ·obtain ⟨m, hm, hl⟩ := I.loc
  refine ⟨m, ns m hm, fun i x v e1 e2 e3 => ?_⟩
  obtain ⟨u, r, l⟩ := hl i x v e1 e2 e3
  refine ⟨u, r, ?_⟩
  rcases l with l | ⟨kk, c, e, z⟩
  ·exact .inl l
  ·exact .inr ⟨kk, c, e, cellK x c e _ z⟩
 ·obtain ⟨v, z⟩ := I.cell x c e
  exact ⟨v, cellK x c e v z⟩
 ·obtain ⟨e, n, ne, nf, dd⟩ := I.pin p hp
  exact ⟨k p.1 p.2 ne (y.np p hp) e, n, ne, nf, dd⟩
 ·refine (I.hok a u e).stay (fun c v hc q => k c v ?_ ?_ q) (fun _ q => q) fun _ _ q => q
  ·rcases hc with z | z
   ·rw [z]; exact niL a u e
   ·exact niL c _ z
  ·rcases hc with z | z
   ·rw [z]; exact nit a u e
   ·exact nit c _ z
theorem Inv.track {d : Addr} {o : HO} (I : Inv X pins σ H s) (y : Young X pins d) (hn : H d = none) (new : Qbr X.prog X.w (upd H d o) s.heap d o) : Inv X pins σ (upd H d o) s := by
 refine ⟨I.ok, I.os, I.bare, ⟨I.base.keep, I.base.slot, fun b ob e n hx => ?_, I.base.there, fun b xs e => ?_, fun b ob v e => ?_, fun b ps e => ?_⟩, I.loc, I.cell, ?_, fun x c e => ?_, fun p hp => ?_, HOk.track I.hok hn new, I.len⟩
 ·rw [Qan (fun z => by subst z; exact hx (y.s0 ob e))]
  exact I.base.free b ob e n hx
 ·have q := I.base.tups b xs e
  rw [Qan (Qar q hn)]; exact q
 ·have q := I.base.frzs b ob v e
  rw [Qan (Qar q hn)]; exact q
 ·obtain ⟨more, q⟩ := I.base.tbls b ps e
  exact ⟨more, by rw [Qan (Qar q hn)]; exact q⟩
 ·rw [Qan (Ne.symm y.nL)]; exact I.free
 ·rw [Qan (y.nc x c e)]; exact I.freeC x c e
 ·obtain ⟨e, n, r⟩ := I.pin p hp
  exact ⟨e, by rw [Qan (y.np p hp)]; exact n, r⟩
theorem Inv.pin1 {d : Addr} {o : Obj} (I : Inv X pins σ H s) (y : Young X pins d) (hn : H d = none) (e : s.heap.get? d = some o) (hd : ∀ v, o.data ≠ .cell v) : Inv X (pins ++ [(d, o)]) σ H s := I.pins_of fun p hp => by
 rcases List.mem_append.mp hp with hp | hp
 ·exact I.pin p (QnH _ hp)
 ·have e1 : p = (d, o) := by simpa using hp
  subst e1
  exact ⟨e, hn, y.nL, y.nf, hd⟩
end
section
variable {X : Cx} {k : Nat} {f : Addr} {fd : FuncData} {pn : Str} {sp : Sp}
abbrev sqO (vs : List Value) (n : Nat) : Obj := seqObj "list" (List.toArray vs) n
theorem QeM (vs : List Value) (n : Nat) : ∀ v, (sqO vs n).data ≠ .cell v := fun v z => by cases (show Data.seq (List.toArray vs) n = Data.cell v from z)
theorem key_call {pins : List (Addr × Obj)} {σ : St} {H : Hp} {s : Shared} {m : Str->Option Value} {x : V} {u : Value} {R : VK} {E : Value->Shared->Prop} {Q : Value->Shared->Prop} (Fk : FnOk X.prog X.w X.K X.mg X.base CX0 k f fd [pn] sp) (hr : Room (k + 2) X.A) (hb : Qcs X.K fd [pn] [])
  (I : Inv X pins σ H s) (hm : s.heap.Ns X.env.locals m) (rx : RelV x u) (h : sp [x] H R E0)
  (hQ : ∀ y H1 s1 w', Inv X pins σ H1 s1->s1.heap.Ns X.env.locals m->RelV y w'->R y H1->Q w' s1) : wpAny (model X.prog X.w) X.A.in1.in1 (call (.ref f) [u]) Q E s := by
 have hr2 : Room k X.A.in1.in1 := (Room.in1 (Room.in1 hr))
 have hb1 := hb s [u] I.kIn (by simp)
 rw [List.append_nil] at hb1
 refine wpAny_call (codeAny_mono (Fk.run X.A.in1.in1 X.stack s H ⟨[u], []⟩ [u] [x] R E0 hr2 I.env0.in1.in1 hb1 (.cons rx .nil) h) fun r s' hq => ?_)
 cases r with
 | error e => exact False.elim hq
 | ok fl =>
  cases fl with
  | ret w' =>
   have hq' : CE X.stack X.prog X.w H s R w' s' := hq
   obtain ⟨v, H', os, bare, un, hok, rv, q⟩ := id hq'
   obtain ⟨y, H1, I1, ry, qy⟩ := I.after hq'
   refine hQ y H1 s' w' I1 ?_ ry qy
   obtain ⟨o, es, ep, ho, d⟩ := hm
   obtain ⟨sl, e⟩ := un.any ho I.free (by simp)
   exact ⟨_, es, ep, e, d⟩
  | next => exact False.elim hq
  | brk => exact False.elim hq
  | cont => exact False.elim hq
def SortR (X : Cx) (r : R2) : Prop :=
 ∀ (pins : List (Addr × Obj)) (s : Shared) (σ : St) (H : Hp) (x y : V) (v u : Value) (Q : VK), Inv X pins σ H s->RelV x v->RelV y u->r x y H Q->wpAny (model X.prog X.w) X.A (call (.builtin "sorted") [v] [(Str.ofString "key", u)]) (EP X pins σ Q) X.xe s
theorem b_sorted : bootBuiltins "sorted" = some (.builtin "sorted") := by decide +kernel
def tSorted (r : R2) (t tk : TA) : TE := fun σ H Q => t σ H fun xs H1 => tk σ H1 fun ys H2 => ∃ x y, xs = [x]/\ys = [y]/\r x y H2 Q
theorem QlJ {r : R2} {e : Expr} {kws : List Keyword} {t tk : TA} {p pos : Pos} (hr : SortR X r) (hg : Gl X "sorted") (hm : X.mg "sorted" = none) (ha : PA X [e] t) (hkw : PK X kws tk)
  (he : backTo pos (starEach [e] X.env) = (false, eval e X.env) :: backTo pos (starEach [] X.env) := by rfl) (hpl : (backTo pos (starEach [e] X.env)).any (·.1) = false := by rfl)
  (hall : (backToKw pos (keywordEach kws X.env)).all (·.1.isSome) = true := by rfl) (hnk : (backToKw pos (keywordEach kws X.env)).any (·.1.isNone) = false := by rfl)
  (hks : (backToKw pos (keywordEach kws X.env)).filterMap (·.1) = [Str.ofString "key"] := by rfl) : PE X (.Call (.Name "sorted" p) [e] kws pos) (tSorted r t tk) := by
 intro pins s σ H Q I h
 refine wpAny_Call_Name_kw (Qfc I hg hm b_sorted ?_)
 refine PyProof.Rows.callWith_kw (thn (ha pos pins s σ H _ I h) fun us s1 ⟨vs, H1, I1, r1, q1⟩ => thn (hkw pos pins s1 σ H1 _ I1 q1) fun ws s2 ⟨zs, H2, I2, rz, q2⟩ => ?_) he hpl hall hnk
 obtain ⟨x, y, e1, e2, q⟩ := q2
 subst e1 e2
 obtain ⟨u, rfl, ru⟩ := r1.one
 obtain ⟨v, rfl, rv⟩ := rz.one
 rw [hks]
 exact hr pins s2 σ H2 x y u v Q I2 ru rv q
end
end L2
namespace L2
open PySem PySem.Spec PyProof.Rows
def Lies (B : Heap) (l : List Env) (L e : Addr) (cls : Value) (h : Heap) : Prop :=
 B.StaysIn h/\B.get? e = none/\h.FunFrames B l /\
  ((∃ oe vs a0, h.get? e = some oe/\oe.cls = cls/\oe.data = .fields vs/\vs[0]? = some a0/\vs[1]? = some Value.none)\/(∃ a0, h.TracedW B e cls a0)\/∃ a0, h.TracedAtW B e cls a0 (rawInt L))
section
variable {M : Model} {A : Around} {E : Value->Shared->Prop} {s : Shared} {B : Heap} {env : Env} {outer : List Env} {L e : Addr} {cls : Value}
end
structure OwnFr (X : Cx) : Prop where
 stk : X.stack = X.env :: X.outer
 fr : X.env.frame = some X.env.locals
 ex : X.ex = []
def ExcIn (X : Cx) (H : Hp) (e : Addr) (cls : Value) (s' : Shared) : Prop :=
 ∃ pins σ sg B, Inv X pins σ H sg/\s'.os = sg.os/\AllBare s'.gens/\(∀ b o, sg.heap.get? b = some o->b ∉ frs X.stack->B.get? b = some o)/\sg.heap.UpToSlots s'.heap/\Lies B X.stack X.env.locals e cls s'.heap
def CXD (P : Program) (w : World) : CXT := fun outer H s E e s' => ∃ ea cls H' g B a0, e = .ref ea/\s'.os = s.os/\AllBare s'.gens/\Un (frs outer) [] H H' s.heap g/\HOk P w H' g /\
 (∀ b o, g.get? b = some o->b ∉ frs outer->B.get? b = some o)/\g.UpToSlots s'.heap/\Heap.FlyingW B outer ea cls a0 s'.heap/\E cls none H'
section
variable {X : Cx} {H : Hp} {e : Addr} {cls : Value} {s' : Shared}
end
section
variable {X : Cx} {pins : List (Addr × Obj)} {σ : St} {H : Hp} {e : Addr} {cls : Value} {s s' : Shared}
end
end L2
namespace L2
open PySem PySem.Spec PyProof.Rows
structure ExCls (K : PySem.W.Frag) (x : Str) (C : Addr) : Prop where
 ns : PySem.W.nsIn K mainGlobals x = some (some (.ref C))
 ok : ∃ B newId initId bmB, PySem.W.excIn K C bmB newId = true/\ExcBaseFacts B newId initId bmB
section
variable {X : Cx} {x : Str} {C : Addr} {np cpos pos : Pos} {e : Expr} {es : List Expr} {t : TA}
end
structure RoomB (b : Bool) (k : Nat) (A : Around) : Prop where
 hd : b = true->A.handled = none
 dp : A.depth + 3 * k + 5 < recursionLimit
 un : A.units + 16 * k + 200 < cLine
theorem RoomB.mono {b : Bool} {j k : Nat} {A : Around} (r : RoomB b k A) (h : j<=k) : RoomB b j A := ⟨r.hd, by have := r.dp; omega, by have := r.un; omega⟩
structure FnX (b : Bool) (P : Program) (w : World) (K : PySem.W.Frag) (mg : Str->Option Value) (base : Heap) (k : Nat) (f : Addr) (fd : FuncData) (ps : List Str) (sp : Sp) : Prop where
 len : ∀ vs H Q E, sp vs H Q E->vs.length = ps.length
 run : ∀ (A : Around) (outer : List Env) (s : Shared) (H : Hp) (args : Args) (us : List Value) (vs : List V) (Q : VK) (E : XK), RoomB b k A->Env0 P w K mg base A outer s H->BindsTo s fd args (ps.zip us)->Vals vs us->sp vs H Q E ->
  codeAny (model P w) A (.call (.ref f) args) (CR (CXD P w) outer P w H s Q E) s
theorem FnX.mono {b : Bool} {P : Program} {w : World} {K : PySem.W.Frag} {mg : Str->Option Value} {base : Heap} {j k : Nat} {f : Addr} {fd : FuncData} {ps : List Str} {sp : Sp} (F : FnX b P w K mg base j f fd ps sp) (h : j<=k) :
  FnX b P w K mg base k f fd ps sp := ⟨F.len, fun A outer s H args us vs Q E hr => F.run A outer s H args us vs Q E (hr.mono h)⟩
section
variable {X : Cx} {b : Bool} {k : Nat} {f : Addr} {fd : FuncData} {ps : List Str} {sp : Sp} {x : Str} {p pos : Pos} {e : Expr} {es : List Expr} {t : TA} {E : XK}
end
end L2
namespace L2
open PySem PySem.Spec PyProof.Rows
section
variable {X : Cx} {pins : List (Addr × Obj)} {σ : St} {H : Hp} {s : Shared}
def exPh (a : Addr) (cls : Value) : Heap->Prop := fun h => ∃ o, h.get? a = some o/\o.cls = cls/\∃ vs, o.data = .fields vs
end
section
variable {X : Cx} {body suite : List Stmt} {b₀ : Stmt} {x n : Str} {np hpos pos : Pos} {i : Nat} {c : Value} {tb : List (Addr × Obj)->(Value->Hp->Prop)->TS} {ts : TS}
end
end L2
namespace L2
open PySem PySem.Spec PyProof.Rows PySem.W PySem.Builtin PySem.Builtin.ObjectAttr PySem.Builtin.Getset_descriptor
structure ExAt (K : PySem.W.Frag) (C : Addr) : Prop where
 ga : findIn K (.ref C) "__getattribute__" = some (some (.builtin "BaseException.__getattribute__"))
 gh : findIn K (.ref C) "__getattr__" = some none
 sb : subIn K (.ref C) (.type "BaseException") = some true
 ca : findIn K (.ref C) "__class__" = some (some (.builtin "object.__class__"))
 cg : specialIn K (.builtin "object.__class__") "__get__" = some (some (.builtin "getset_descriptor.__get__"))
 ct : takesIn K (.builtin "object.__class__") = some true
 cm : mroIn K C (.type "object") = some true
 cl : (clsIn K C).isSome = true
section
variable {prog : Program} {w : World} {A : Around} {E : Value->Shared->Prop} {s : Shared} {K : PySem.W.Frag} {e C : Addr}
end
end L2
namespace L2
open PySem PySem.Spec PyProof.Rows
section
variable {prog : Program} {w : World} {A : Around} {E : Value->Shared->Prop} {s : Shared}
theorem Qeb {j t : Addr} {k : Nat} {its : Array Value} {y : Value} {Q : Value->Shared->Prop} (hj : s.heap.IsTupleIter j t k) (ht : s.heap.IsTuple t its) (hy : its[k]? = some y)
  (q : ∀ h', h'.IsTupleIter j t (k + 1)->Heap.SameBut j s.heap h'->Q y { s with heap := h' }) : wpAny (model prog w) A (Builtin.SmallTypes.nextOf (.ref j)) Q E s := by
 obtain ⟨oj, gj, cj, dj⟩ := id hj
 obtain ⟨ot, gt, _, mt, dt⟩ := ht
 unfold Builtin.SmallTypes.nextOf
 refine wpAny_bind (wpAny_callSpecial?_slot (name := Str.ofString "__next__") hj.typeIs F.slot_tuple_iterator_next (wpAny_call_entry F.slot_tuple_iterator_next hj.typeIs F.entry_tuple_iterator_next ?_ (F.args_tuple_iterator_next_1 _)))
 show wpAny _ _ (field (.ref j) 0 >>= _) _ _ s
 refine wpAny_bind (wpAny_field gj dj (x := .ref t) rfl ?_)
 show wpAny _ _ (if (Value.ref t == Value.none) = true then _ else (field (.ref j) 1 >>= _)) _ _ s
 rw [if_neg (show ¬ ((Value.ref t == Value.none) = true) from QnE)]
 refine wpAny_bind (wpAny_field gj dj (x := .int k 0) rfl (wpAny_bind (wpAny_seqItems gt dt ?_)))
 simp only [Int.toNat_natCast, hy]
 refine wpAny_bind (wpAny_setField gj dj (by simp) (wpAny_pure ⟨y, rfl, wpAny_pure (q _ ?_ (Heap.SameBut.update ..))⟩))
 exact ⟨_, Heap.get?_update_self _ gj (Obj.isFreed_of_fields (Obj.data_mapFields dj _)), (Obj.cls_mapFields ..).trans cj, by rw [Obj.data_mapFields dj]; simp [rawInt]⟩
theorem Qdg {j t : Addr} {k : Nat} {its : Array Value} {Q : Value->Shared->Prop} (hh : A.handled = none) (hj : s.heap.IsTupleIter j t k) (ht : s.heap.IsTuple t its) (hy : its[k]? = none)
  (q : ∀ h' e, Heap.ExtBut j s.heap h'->(∃ o, h'.get? e = some o/\o.cls = .type "StopIteration")->E (.ref e) { s with heap := h' }) : wpAny (model prog w) A (Builtin.SmallTypes.nextOf (.ref j)) Q E s := by
 obtain ⟨oj, gj, cj, dj⟩ := id hj
 obtain ⟨ot, gt, _, mt, dt⟩ := ht
 unfold Builtin.SmallTypes.nextOf
 refine wpAny_bind (wpAny_callSpecial?_slot (name := Str.ofString "__next__") hj.typeIs F.slot_tuple_iterator_next (wpAny_call_entry F.slot_tuple_iterator_next hj.typeIs F.entry_tuple_iterator_next ?_ (F.args_tuple_iterator_next_1 _)))
 show wpAny _ _ (field (.ref j) 0 >>= _) _ _ s
 refine wpAny_bind (wpAny_field gj dj (x := .ref t) rfl ?_)
 show wpAny _ _ (if (Value.ref t == Value.none) = true then _ else (field (.ref j) 1 >>= _)) _ _ s
 rw [if_neg (show ¬ ((Value.ref t == Value.none) = true) from QnE)]
 refine wpAny_bind (wpAny_field gj dj (x := .int k 0) rfl (wpAny_bind (wpAny_seqItems gt dt ?_)))
 simp only [Int.toNat_natCast, hy]
 refine wpAny_bind (wpAny_rule (wpAny_bind (wpAny_setField gj dj (by simp) ?_)))
 show wpAny _ _ (newExc (.type "StopIteration") [] >>= fun _ => _) _ _ _
 refine wpAny_bind ?_
 simp only [newExc, newTuple]
 refine wpAny_bind (wpAny_newObj_type (wpAny_bind (m := firstArgMember _ _) (wpAny_of_eq (a := Value.none) (by first | rfl | (simp only [firstArgMember]; rfl)) ?_)) (by size_fits))
 refine wpAny_newObj_type ?_ (by size_fits)
 simp only [raiseNew]
 refine wpAny_bind (wpAny_handled ?_)
 first | rw [show A.in1.handled = none from hh] | rw [hh]
 exact wpAny_bind (wpAny_pure (wpAny_throw (q _ _ (((Heap.SameBut.update ..).extBut.push _).push _) ⟨_, QnR _ rfl, rfl⟩)))
structure ZA (c P O i j a b : Addr) : Prop where
 Pc : P ≠ c
 Oc : O ≠ c
 ic : i ≠ c
 jc : j ≠ c
 Oi : O ≠ i
 Oj : O ≠ j
 ij : i ≠ j
 ac : a ≠ c
 aO : a ≠ O
 ai : a ≠ i
 aj : a ≠ j
 bc : b ≠ c
 bO : b ≠ O
 bi : b ≠ i
 bj : b ≠ j
 PO : P ≠ O
 Pi : P ≠ i
 Pj : P ≠ j
theorem QkX {c P O i j a b : Addr} {m n : Nat} {us vs : Array Value} {u v p q : Value} {Q : Value->Shared->Prop} (D : ZA c P O i j a b)
  (gc : IsZip s.heap c P O .none) (gP : IsPair s.heap P (.ref i) (.ref j)) (gO : IsPair s.heap O p q) (gi : s.heap.IsTupleIter i a m) (gj : s.heap.IsTupleIter j b n) (ga : s.heap.IsTuple a us) (gb : s.heap.IsTuple b vs) (hu : us[m]? = some u) (hv : vs[n]? = some v)
  (k : ∀ h', IsZip h' c P O (rawInt s.heap.objs.size)->IsPair h' O u v->h'.IsTupleIter i a (m + 1)->h'.IsTupleIter j b (n + 1)->IsPair h' s.heap.objs.size u v->h'.objs.size = s.heap.objs.size + 1 ->
   (∀ d o, d ≠ c->d ≠ O->d ≠ i->d ≠ j->s.heap.get? d = some o->h'.get? d = some o)->Q (.ref s.heap.objs.size) { s with heap := h' }) :
  wpAny (model prog w) A (Builtin.«zip.__next__» ⟨[.ref c], []⟩) (fun fin s' => ∃ y, fin = .done (.ret y)/\Q y s') E s := by
 show wpAny _ _ (field (.ref c) 2 >>= _) _ _ _
 refine wpAny_bind (wpAny_field gc rfl (x := .bool false) rfl ?_)
 show wpAny _ _ (field (.ref c) 3 >>= _) _ _ _
 refine wpAny_bind (wpAny_field gc rfl (x := .ref P) rfl (wpAny_bind (wpAny_seqItems gP rfl ?_)))
 show wpAny _ _ (Builtin.SmallTypes.ownedTupleIsFree (.ref c) >>= _) _ _ _
 refine wpAny_bind ?_
 unfold Builtin.SmallTypes.ownedTupleIsFree
 refine wpAny_bind (wpAny_field gc rfl (x := .none) rfl (wpAny_pure ?_))
 simp only [if_true]
 refine wpAny_bind (wpAny_rule (wpAny_bind (wpAny_field gc rfl (x := .ref O) rfl (wpAny_bind (wpAny_setField_rec gc (by simp) fun h1 gc1 e1 => ?_)))))
 replace gc1 : IsZip h1 c P O .ellipsis := gc1
 refine wpAny_bind ?_
 simp only [List.zipIdx_cons, List.zipIdx_nil, List.forIn_cons, List.forIn_nil]
 refine wpAny_bind (wpAny_bind (wpAny_onRaise ?_))
 show wpAny _ _ (Builtin.SmallTypes.nextOf (.ref i) >>= _) _ _ _
 refine wpAny_bind (Qeb (gi.extBut e1.extBut D.ic) (ga.extBut e1.extBut D.ac) hu fun h2 gi2 e2 => wpAny_pure ?_)
 have gO2 : IsPair h2 O p q := e2.extBut _ _ D.Oi (e1.extBut _ _ D.Oc gO)
 refine wpAny_bind (wpAny_seqItems gO2 rfl (wpAny_bind (wpAny_updateSeq_pair gO2 fun h3 gO3 e3 => ?_)))
 replace gO3 : IsPair h3 O u q := gO3
 refine wpAny_bind (wpAny_letGo (wpAny_pure (wpAny_bind (wpAny_bind (wpAny_onRaise ?_)))))
 show wpAny _ _ (Builtin.SmallTypes.nextOf (.ref j) >>= _) _ _ _
 refine wpAny_bind (Qeb (((gj.extBut e1.extBut D.jc).extBut e2.extBut D.ij.symm).extBut e3.extBut D.Oj.symm) (((gb.extBut e1.extBut D.bc).extBut e2.extBut D.bi).extBut e3.extBut D.bO) hv fun h4 gj4 e4 => wpAny_pure ?_)
 have gO4 : IsPair h4 O u q := e4.extBut _ _ D.Oj gO3
 refine wpAny_bind (wpAny_seqItems gO4 rfl (wpAny_bind (wpAny_updateSeq_pair gO4 fun h5 gO5 e5 => ?_)))
 replace gO5 : IsPair h5 O u v := gO5
 refine wpAny_bind (wpAny_letGo (wpAny_pure (wpAny_pure (wpAny_bind (wpAny_seqItems gO5 rfl (wpAny_bind (wpAny_newTuple ?_)))))))
 have sz : h5.objs.size = s.heap.objs.size := by rw [e5.1, e4.1, e3.1, e2.1, e1.1]
 have gc5 : IsZip h5 c P O .ellipsis := e5.extBut _ _ D.Oc.symm (e4.extBut _ _ D.jc.symm (e3.extBut _ _ D.Oc.symm (e2.extBut _ _ D.ic.symm gc1)))
 have k5 : ∀ d o, d ≠ c->d ≠ O->d ≠ i->d ≠ j->s.heap.get? d = some o->h5.get? d = some o := fun d o c1 c2 c3 c4 e => e5.extBut _ _ c2 (e4.extBut _ _ c4 (e3.extBut _ _ c2 (e2.extBut _ _ c3 (e1.extBut _ _ c1 e))))
 have gi5 : h5.IsTupleIter i a (m + 1) := ((gi2.extBut e3.extBut D.Oi.symm).extBut e4.extBut D.ij).extBut e5.extBut D.Oi.symm
 have gj5 : h5.IsTupleIter j b (n + 1) := gj4.extBut e5.extBut D.Oj.symm
 have lc : c < h5.objs.size := QnJ gc5
 show wpAny _ _ (Builtin.SmallTypes.ownedTupleHandOut (.ref c) (.ref h5.objs.size) >>= _) _ _ _
 refine wpAny_bind ?_
 unfold Builtin.SmallTypes.ownedTupleHandOut
 have gc6 : IsZip (h5.push { cls := .type "tuple", data := .seq #[u, v] }) c P O .ellipsis := QnG _ gc5
 refine wpAny_bind (wpAny_setField_rec gc6 (by simp) fun h7 gc7 e7 => ?_)
 replace gc7 : IsZip h7 c P O (rawInt h5.objs.size) := gc7
 refine wpAny_setField_rec gc7 (by simp) fun h8 gc8 e8 => ?_
 replace gc8 : IsZip h8 c P O (rawInt h5.objs.size) := gc8
 have up : ∀ d o, d ≠ c->h5.get? d = some o->h8.get? d = some o := fun d o c1 e => e8.extBut _ _ c1 (e7.extBut _ _ c1 (QnG _ e))
 have gn : IsPair h8 h5.objs.size u v := e8.extBut _ _ (Nat.ne_of_gt lc) (e7.extBut _ _ (Nat.ne_of_gt lc) (QnR _ rfl))
 have s8 : h8.objs.size = h5.objs.size + 1 := by rw [e8.1, e7.1, Heap.size_push]
 rw [sz] at gc8 gn s8
 refine wpAny_pure ⟨_, rfl, ?_⟩
 show Q (.ref h5.objs.size) _
 rw [sz]
 exact k h8 gc8 (up _ _ D.Oc gO5) (let ⟨o, e, r⟩ := gi5; ⟨o, up _ o D.ic e, r⟩) (let ⟨o, e, r⟩ := gj5; ⟨o, up _ o D.jc e, r⟩) gn s8 fun d o c1 c2 c3 c4 e => up d o c1 (k5 d o c1 c2 c3 c4 e)
theorem zipT_end {c P O i j a b : Addr} {m n : Nat} {us vs : Array Value} {p q : Value} {Q : PySem.Fin->Shared->Prop} (hh : A.handled = none) (D : ZA c P O i j a b)
  (gc : IsZip s.heap c P O .none) (gP : IsPair s.heap P (.ref i) (.ref j)) (gO : IsPair s.heap O p q) (gi : s.heap.IsTupleIter i a m) (gj : s.heap.IsTupleIter j b n) (ga : s.heap.IsTuple a us) (gb : s.heap.IsTuple b vs) (he : us[m]? = none\/vs[n]? = none)
  (k : ∀ h' e, (∀ d o, d ≠ c->d ≠ O->d ≠ i->d ≠ j->s.heap.get? d = some o->h'.get? d = some o)->(∃ o, h'.get? e = some o/\o.cls = .type "StopIteration")->E (.ref e) { s with heap := h' }) :
  wpAny (model prog w) A (Builtin.«zip.__next__» ⟨[.ref c], []⟩) Q E s := by
 show wpAny _ _ (field (.ref c) 2 >>= _) _ _ _
 refine wpAny_bind (wpAny_field gc rfl (x := .bool false) rfl ?_)
 show wpAny _ _ (field (.ref c) 3 >>= _) _ _ _
 refine wpAny_bind (wpAny_field gc rfl (x := .ref P) rfl (wpAny_bind (wpAny_seqItems gP rfl ?_)))
 show wpAny _ _ (Builtin.SmallTypes.ownedTupleIsFree (.ref c) >>= _) _ _ _
 refine wpAny_bind ?_
 unfold Builtin.SmallTypes.ownedTupleIsFree
 refine wpAny_bind (wpAny_field gc rfl (x := .none) rfl (wpAny_pure ?_))
 simp only [if_true]
 refine wpAny_bind (wpAny_rule (wpAny_bind (wpAny_field gc rfl (x := .ref O) rfl (wpAny_bind (wpAny_setField_rec gc (by simp) fun h1 gc1 e1 => ?_)))))
 replace gc1 : IsZip h1 c P O .ellipsis := gc1
 refine wpAny_bind ?_
 simp only [List.zipIdx_cons, List.zipIdx_nil, List.forIn_cons, List.forIn_nil]
 refine wpAny_bind (wpAny_bind (wpAny_onRaise ?_))
 show wpAny _ _ (Builtin.SmallTypes.nextOf (.ref i) >>= _) _ _ _
 cases hu : us[m]? with
 | none =>
  refine wpAny_bind (Qdg hh (gi.extBut e1.extBut D.ic) (ga.extBut e1.extBut D.ac) hu fun h2 e e2 hx => ?_)
  obtain ⟨oe, ho, hc⟩ := hx
  have gc2 : IsZip h2 c P O .ellipsis := e2 _ _ D.ic.symm gc1
  have ne : e ≠ c := fun z => by subst z; rw [gc2] at ho; cases ho; simp at hc
  exact wpAny_setField_rec gc2 (by simp) fun h3 _ e3 => k h3 e (fun d o c1 _ c3 _ z => e3.extBut _ _ c1 (e2 _ _ c3 (e1.extBut _ _ c1 z))) ⟨oe, e3.extBut _ _ ne ho, hc⟩
 | some u =>
  have hv : vs[n]? = none := by
   rcases he with h | h
   ·rw [hu] at h; cases h
   ·exact h
  refine wpAny_bind (Qeb (gi.extBut e1.extBut D.ic) (ga.extBut e1.extBut D.ac) hu fun h2 gi2 e2 => wpAny_pure ?_)
  have gO2 : IsPair h2 O p q := e2.extBut _ _ D.Oi (e1.extBut _ _ D.Oc gO)
  refine wpAny_bind (wpAny_seqItems gO2 rfl (wpAny_bind (wpAny_updateSeq_pair gO2 fun h3 gO3 e3 => wpAny_bind (wpAny_letGo (wpAny_pure (wpAny_bind (wpAny_bind (wpAny_onRaise ?_))))))))
  show wpAny _ _ (Builtin.SmallTypes.nextOf (.ref j) >>= _) _ _ _
  refine wpAny_bind (Qdg hh (((gj.extBut e1.extBut D.jc).extBut e2.extBut D.ij.symm).extBut e3.extBut D.Oj.symm) (((gb.extBut e1.extBut D.bc).extBut e2.extBut D.bi).extBut e3.extBut D.bO) hv fun h4 e e4 hx => ?_)
  obtain ⟨oe, ho, hc⟩ := hx
  have gc4 : IsZip h4 c P O .ellipsis := e4 _ _ D.jc.symm (e3.extBut _ _ D.Oc.symm (e2.extBut _ _ D.ic.symm gc1))
  have ne : e ≠ c := fun z => by subst z; rw [gc4] at ho; cases ho; simp at hc
  exact wpAny_setField_rec gc4 (by simp) fun h5 _ e5 => k h5 e (fun d o c1 c2 c3 c4 z => e5.extBut _ _ c1 (e4 _ _ c4 (e3.extBut _ _ c2 (e2.extBut _ _ c3 (e1.extBut _ _ c1 z))))) ⟨oe, e5.extBut _ _ ne ho, hc⟩
end
end L2
namespace L2
open PySem PySem.Spec PyProof.Rows
section
variable {prog : Program} {w : World} {A : Around} {E : Value->Shared->Prop} {s : Shared}
theorem QlW {c P O i j a b : Addr} {m n : Nat} {us vs : Array Value} {u v p q : Value} {Q : Option Value->Shared->Prop} (D : ZA c P O i j a b)
  (gc : IsZip s.heap c P O .none) (gP : IsPair s.heap P (.ref i) (.ref j)) (gO : IsPair s.heap O p q) (gi : s.heap.IsTupleIter i a m) (gj : s.heap.IsTupleIter j b n) (ga : s.heap.IsTuple a us) (gb : s.heap.IsTuple b vs) (hu : us[m]? = some u) (hv : vs[n]? = some v)
  (k : ∀ h', IsZip h' c P O (rawInt s.heap.objs.size)->IsPair h' O u v->h'.IsTupleIter i a (m + 1)->h'.IsTupleIter j b (n + 1)->IsPair h' s.heap.objs.size u v->h'.objs.size = s.heap.objs.size + 1 ->
   (∀ d o, d ≠ c->d ≠ O->d ≠ i->d ≠ j->s.heap.get? d = some o->h'.get? d = some o)->Q (some (.ref s.heap.objs.size)) { s with heap := h' }) : wpAny (model prog w) A (pyNext (.ref c)) Q E s := by
 have tz : s.TypeIs (.ref c) "zip" := ⟨_, gc, rfl⟩
 unfold pyNext
 refine wpAny_bind (wpAny_attempt (wpAny_callSpecial?_slot (name := Str.ofString "__next__") tz F.slot_zip_next (wpAny_call_entry F.slot_zip_next tz F.entry_zip_next ?_ (F.args_zip_next_1 _))))
 exact QkX D gc gP gO gi gj ga gb hu hv fun h' a1 a2 a3 a4 a5 a6 a7 => wpAny_pure (k h' a1 a2 a3 a4 a5 a6 a7)
theorem QgE {c P O i j a b : Addr} {m n : Nat} {us vs : Array Value} {p q : Value} {Q : Option Value->Shared->Prop} (hh : A.handled = none) (D : ZA c P O i j a b)
  (gc : IsZip s.heap c P O .none) (gP : IsPair s.heap P (.ref i) (.ref j)) (gO : IsPair s.heap O p q) (gi : s.heap.IsTupleIter i a m) (gj : s.heap.IsTupleIter j b n) (ga : s.heap.IsTuple a us) (gb : s.heap.IsTuple b vs) (he : us[m]? = none\/vs[n]? = none)
  (k : ∀ h', (∀ d o, d ≠ c->d ≠ O->d ≠ i->d ≠ j->s.heap.get? d = some o->h'.get? d = some o)->Q none { s with heap := h' }) : wpAny (model prog w) A (pyNext (.ref c)) Q E s := by
 have tz : s.TypeIs (.ref c) "zip" := ⟨_, gc, rfl⟩
 unfold pyNext
 refine wpAny_bind (wpAny_attempt (wpAny_callSpecial?_slot (name := Str.ofString "__next__") tz F.slot_zip_next (wpAny_call_entry F.slot_zip_next tz F.entry_zip_next ?_ (F.args_zip_next_1 _))))
 refine zipT_end hh D gc gP gO gi gj ga gb he fun h' e hk hx => ?_
 obtain ⟨o, ho, hc⟩ := hx
 exact wpAny_bind (wpAny_isInstance (T := "StopIteration") (b := true) ⟨o, ho, hc⟩ isSubtype_stop (wpAny_pure (k _ hk)))
abbrev zt1 (h : Heap) (a : Addr) : Heap := h.push { cls := .type "tuple_iterator", data := .fields #[.ref a, .int 0 0] }
abbrev zt2 (h : Heap) (a b : Addr) : Heap := (zt1 h a).push { cls := .type "tuple_iterator", data := .fields #[.ref b, .int 0 0] }
abbrev zt3 (h : Heap) (a b : Addr) : Heap := (zt2 h a b).push { cls := .type "tuple", data := .seq #[.ref h.objs.size, .ref (zt1 h a).objs.size] }
abbrev zt4 (h : Heap) (a b : Addr) : Heap := (zt3 h a b).push { cls := .type "tuple", data := .seq #[.none, .none] }
abbrev zt5 (h : Heap) (a b : Addr) : Heap := (zt4 h a b).push { cls := .type "zip", data := .fields #[.none, .bool false, .bool false, .ref (zt2 h a b).objs.size, .ref (zt3 h a b).objs.size] }
theorem Qkw (a b : Addr) (us vs : Array Value) :
  Meets (Builtin.«zip.__new__» ⟨[.type "zip", .ref a, .ref b], []⟩) (fun _ R s => s.heap.IsTuple a us/\s.heap.IsTuple b vs/\R (.ok (.ret (.ref (zt4 s.heap a b).objs.size))) { s with heap := zt5 s.heap a b }) :=
 .of_wp fun prog w A R s h => by
  obtain ⟨hp, g, d, tk, os⟩ := s; obtain ⟨ha, hb, h⟩ := h
  have hsub := sub_zip
  have hA : Heap.IsTuple (Shared.heap ⟨hp, g, d, tk, os⟩) a us := ha
  have hB : Heap.IsTuple (Shared.heap ⟨hp.push { cls := .type "tuple_iterator", data := .fields #[.ref a, .int 0 0] }, g, d, tk, os⟩) b vs := Heap.IsTuple.push hb _
  wp_walk using wpAny_pyIter_tuple hA, wpAny_pyIter_tuple hB
  exact ⟨_, rfl, h⟩
theorem Qnl {a b : Addr} {us vs : Array Value} {Q : Value->Shared->Prop} (ha : s.heap.IsTuple a us) (hb : s.heap.IsTuple b vs)
  (k : ∀ h', IsZip h' (s.heap.objs.size + 4) (s.heap.objs.size + 2) (s.heap.objs.size + 3) .none->IsPair h' (s.heap.objs.size + 2) (.ref s.heap.objs.size) (.ref (s.heap.objs.size + 1)) ->
   IsPair h' (s.heap.objs.size + 3) .none .none->h'.IsTupleIter s.heap.objs.size a 0->h'.IsTupleIter (s.heap.objs.size + 1) b 0->(∀ c o, s.heap.get? c = some o->h'.get? c = some o)->Q (.ref (s.heap.objs.size + 4)) { s with heap := h' }) :
  wpAny (model prog w) A (call (.type "zip") [.ref a, .ref b]) Q E s := by
 refine callType_new F.called_zip (by decide) (F.typeCall_zip_2 _ _) (F.newCall_zip_2 _ _) (fun obj => F.args_object_init_3 obj _ _) F.entry_zip_new (Qkw a b us vs) ⟨ha, hb, ?_⟩
 have z1 : (zt1 s.heap a).objs.size = s.heap.objs.size + 1 := Heap.size_push ..
 have z2 : (zt2 s.heap a b).objs.size = s.heap.objs.size + 2 := by rw [Heap.size_push, z1]
 have z3 : (zt3 s.heap a b).objs.size = s.heap.objs.size + 3 := by rw [Heap.size_push, z2]
 have z4 : (zt4 s.heap a b).objs.size = s.heap.objs.size + 4 := by rw [Heap.size_push, z3]
 have up : ∀ {h : Heap} {c : Addr} {x : Obj} (o : Obj), h.get? c = some x->(h.push o).get? c = some x := fun o e => QnG o e
 have g5 : (zt5 s.heap a b).get? (zt4 s.heap a b).objs.size = some _ := QnR _ rfl
 have g4 : (zt5 s.heap a b).get? (zt3 s.heap a b).objs.size = some _ := up _ (QnR _ rfl)
 have g3 : (zt5 s.heap a b).get? (zt2 s.heap a b).objs.size = some _ := up _ (up _ (QnR _ rfl))
 have g2 : (zt5 s.heap a b).get? (zt1 s.heap a).objs.size = some _ := up _ (up _ (up _ (QnR _ rfl)))
 have g1 : (zt5 s.heap a b).get? s.heap.objs.size = some _ := up _ (up _ (up _ (up _ (QnR _ rfl))))
 show _/\_
 rw [z2, z3, z4] at g5
 rw [z1, z2] at g3
 rw [z3] at g4
 rw [z1] at g2
 rw [z4]
 exact ⟨⟨_, g5, rfl⟩, k _ g5 g3 g4 ⟨_, g1, rfl, rfl⟩ ⟨_, g2, rfl, rfl⟩ fun c o x => up _ (up _ (up _ (up _ (up _ x))))⟩
end
section
variable {X : Cx} {pins : List (Addr × Obj)} {σ : List (Option V)} {H H' : Hp} {s : Shared} {h' : Heap}
theorem Inv.turnedL {t' : Nat} {ch : List Addr} (I : Inv X pins σ H s) (k : ∀ b o, b ∉ ch->s.heap.get? b = some o->h'.get? b = some o) (hf : ∀ b ∈ ch, FpOk X pins H b) : Inv X pins σ H { s with heap := h', toks := t' } := by
 have nit : ∀ b u, H b = some u->b ∉ ch := fun b u e z => by rw [(hf b z).1] at e; cases e
 refine I.step (g' := s.gens) (d' := s.drawn) (ch := ch) (fun b hb => ?_) (fun b o _ _ hc e _ => k b o hc e) (fun b o _ _ hc e _ => ⟨o.slots, k b o hc e⟩) (fun _ _ _ _ n => n)
  (fun b o hc e => ⟨o, k b o hc e⟩) (fun _ _ e => e) (fun _ _ _ e => e) (fun b ps e => ⟨#[], by rw [e]; simp⟩) (fun m hm => ?_) (fun b u e => ?_) I.bare
 ·obtain ⟨_, h1, _, h3, h4, h5⟩ := hf b hb
  exact ⟨h3, h1, h4, h5⟩
 ·obtain ⟨o, es, ep, ho, r⟩ := hm
  exact ⟨o, es, ep, k _ o (fun z => (hf _ z).2.1 rfl) ho, r⟩
 ·refine (I.hok b u e).stay (fun c v hc q => k c v ?_ q) (fun _ q => q) fun _ _ q => q
  rcases hc with z | z
  ·rw [z]; exact nit b u e
  ·exact nit c _ z
theorem Inv.trackT {a : Addr} {xs : List V} (I : Inv X pins σ H s) (fp : FpOk X pins H a) (h0 : X.s₀.heap.get? a = none) (ho : Qbr X.prog X.w (upd H a (.tup xs)) s.heap a (.tup xs)) : Inv X pins σ (upd H a (.tup xs)) s := by
 obtain ⟨hn, hL, _, _, hC, hP⟩ := fp
 have up : ∀ b u, H b = some u->upd H a (.tup xs) b = some u := fun b u e => by
  unfold upd
  rw [if_neg (fun z => by rw [z, hn] at e; cases e)]; exact e
 have un : ∀ b, b ≠ a->H b = none->upd H a (.tup xs) b = none := fun b n e => by unfold upd; rw [if_neg n]; exact e
 refine ⟨I.ok, I.os, I.bare, ⟨I.base.keep, I.base.slot, fun b o e n hx => un b (fun z => ?_) (I.base.free b o e n hx), I.base.there, fun b xs e => up _ _ (I.base.tups b xs e), fun b o xs e => up _ _ (I.base.frzs b o xs e), fun b ps e => ?_⟩, I.loc, I.cell, un _ (Ne.symm hL) I.free,
  fun x c e => un _ (hC x c e) (I.freeC x c e), fun p hp => ?_, fun b u e => ?_, I.len⟩
 ·rw [z, h0] at e; cases e
 ·obtain ⟨more, e'⟩ := I.base.tbls b ps e
  exact ⟨more, up _ _ e'⟩
 ·obtain ⟨e, n, ne', nf, d⟩ := I.pin p hp
  exact ⟨e, un _ (hP p hp) n, ne', nf, d⟩
 ·by_cases z : b = a
  ·subst z
   unfold upd at e; rw [if_pos rfl] at e; cases e
   exact ho
  ·unfold upd at e; rw [if_neg z] at e
   exact (I.hok b u e).stay (fun _ _ _ q => q) (fun _ q => up _ _ q) fun _ _ q => up _ _ q
def Itz (K : PySem.W.Frag) (a b : Addr) : It :=
  ⟨fun i H => ∃ xs ys x y, SqT K H a xs/\SqT K H b ys/\xs[i]? = some x/\ys[i]? = some y,
   fun i H v H' => ∃ p x y, v = .ref p/\H p = none/\H' = upd H p (.tup [x, y])/\(∀ xs, SqT K H a xs->xs[i]? = some x)/\∀ ys, SqT K H b ys->ys[i]? = some y,
   fun i H => ∃ xs ys, SqT K H a xs/\SqT K H b ys/\(xs.length<=i\/ys.length<=i)⟩
theorem turn_zip {P0 : Program} {w : World} {K : PySem.W.Frag} {es : List Expr} {tk : Nat} {tp : Pos} {c P O i j a b : Addr} (D : ZA c P O i j a b) :
  Turn P0 w K (.Tuple es tk tp) (Itz K a b) [c, P, O, i, j] c (fun n h => IsZip h c P O .none/\IsPair h P (.ref i) (.ref j)/\(∃ p q, IsPair h O p q)/\h.IsTupleIter i a n/\h.IsTupleIter j b n) where
 mem := by simp
 obj := fun n h st d hd => by
  obtain ⟨g1, g2, ⟨p, q, g3⟩, ⟨o4, g4, c4, d4⟩, ⟨o5, g5, c5, d5⟩⟩ := st
  simp only [List.mem_cons, List.not_mem_nil, or_false] at hd
  rcases hd with rfl | rfl | rfl | rfl | rfl
  ·exact ⟨_, g1, fun v z => by have z' : Data.fields _ = Data.cell v := z; cases z'⟩
  ·exact ⟨_, g2, fun v z => by have z' : Data.seq _ _ = Data.cell v := z; cases z'⟩
  ·exact ⟨_, g3, fun v z => by have z' : Data.seq _ _ = Data.cell v := z; cases z'⟩
  ·exact ⟨o4, g4, fun v z => by rw [d4] at z; cases z⟩
  ·exact ⟨o5, g5, fun v z => by rw [d5] at z; cases z⟩
 keep := fun n h h' st k => by
  obtain ⟨g1, g2, ⟨p, q, g3⟩, g4, g5⟩ := st
  exact ⟨k c (by simp) _ g1, k P (by simp) _ g2, ⟨p, q, k O (by simp) _ g3⟩, g4.at fun o e => k i (by simp) o e, g5.at fun o e => k j (by simp) o e⟩
 item := by
  intro X hP hw hK hc n pins s σ H E I hf st hg
  subst hP hw hK
  obtain ⟨xs, ys, x, y, hxs, hys, hx, hy⟩ := hg
  obtain ⟨g1, g2, ⟨p, q, g3⟩, g4, g5⟩ := st
  obtain ⟨us, rx, px, _⟩ := I.tuple hxs
  obtain ⟨vs, ry, py, _⟩ := I.tuple hys
  obtain ⟨u, hu, ru⟩ := rx.get hx
  obtain ⟨v, hv, rv⟩ := ry.get hy
  refine QlW D g1 g2 g3 g4 g5 (show s.heap.IsTuple a us.toArray from px) (show s.heap.IsTuple b vs.toArray from py) (by simpa using hu) (by simpa using hv) fun h1 a1 a2 a3 a4 a5 a6 a7 => ?_
  refine ⟨_, rfl, wpAny_letOwnedTupleGo_zip (s := { s with heap := h1 }) a1 fun h2 b1 b2 => ?_⟩
  have kk : ∀ d o, d ∉ [c, P, O, i, j]->s.heap.get? d = some o->h2.get? d = some o := fun d o nd e => by
   simp only [List.mem_cons, List.not_mem_nil, or_false, not_or] at nd
   exact b2.extBut _ _ nd.1 (a7 d o nd.1 nd.2.2.1 nd.2.2.2.1 nd.2.2.2.2 e)
  have I1 : Inv X pins σ H { s with heap := h2 } := I.turnedL (t' := s.toks) kk hf
  have lc : c < s.heap.objs.size := QnJ g1
  have lt : ∀ d ∈ [c, P, O, i, j], d < s.heap.objs.size := fun d hd => by
   simp only [List.mem_cons, List.not_mem_nil, or_false] at hd
   obtain ⟨o4, e4, _⟩ := g4
   obtain ⟨o5, e5, _⟩ := g5
   rcases hd with rfl | rfl | rfl | rfl | rfl
   ·exact lc
   ·exact QnJ g2
   ·exact QnJ g3
   ·exact QnJ e4
   ·exact QnJ e5
  have a5' : IsPair h2 s.heap.objs.size u v := b2.extBut _ _ (Nat.ne_of_gt lc) a5
  have fp := I.fpOk (H' := H) (QnL _) (I.hok.fresh (QnL _))
  have h0 : X.s₀.heap.get? s.heap.objs.size = none := by
   cases e : X.s₀.heap.get? s.heap.objs.size with
   | none => rfl
   | some o => exact absurd (QnP (QnJ e) I.sz) (QnY _)
  have I2 := I1.trackT (xs := [x, y]) fp h0 ⟨by show 2<=sizeLine; decide, [u, v], .cons ru (.cons rv .nil), ⟨_, a5', rfl, _, rfl⟩⟩
  refine ⟨.ref s.heap.objs.size, _, I2, rfl, ⟨_, x, y, rfl, I.hok.fresh (QnL _), rfl, fun zs hz => by rw [I.tuple_inj hz hxs]; exact hx, fun zs hz => by rw [I.tuple_inj hz hys]; exact hy⟩, ⟨b1, ?_, ⟨u, v, b2.extBut _ _ D.Oc a2⟩, a3.at fun o e => b2.extBut _ _ D.ic e, a4.at fun o e => b2.extBut _ _ D.jc e⟩, fun d hd => ?_⟩
  ·exact b2.extBut _ _ D.Pc (a7 _ _ D.Pc D.PO D.Pi D.Pj g2)
  ·unfold upd
   rw [if_neg (QnS (lt d hd))]
   exact (hf d hd).1
 done := by
  intro X hP hw hK hc n pins s σ H E I hf st hg
  subst hP hw hK
  obtain ⟨xs, ys, hxs, hys, hl⟩ := hg
  obtain ⟨g1, g2, ⟨p, q, g3⟩, g4, g5⟩ := st
  obtain ⟨us, rx, px, _⟩ := I.tuple hxs
  obtain ⟨vs, ry, py, _⟩ := I.tuple hys
  have l1 := rx.length
  have l2 := ry.length
  refine QgE (I.ok.hd hc) D g1 g2 g3 g4 g5 (show s.heap.IsTuple a us.toArray from px) (show s.heap.IsTuple b vs.toArray from py) (hl.imp (fun h => by simp; omega) fun h => by simp; omega) fun h1 a7 => ⟨rfl, I.turnedL (t' := s.toks) (fun d o nd e => ?_) hf⟩
  simp only [List.mem_cons, List.not_mem_nil, or_false, not_or] at nd
  exact a7 d o nd.1 nd.2.2.1 nd.2.2.2.1 nd.2.2.2.2 e
 self := fun _ _ _ _ _ st h => wpAny_pyIter_zip st.1 h
theorem za_new {n a b : Nat} (ha : a < n) (hb : b < n) : ZA (n + 4) (n + 2) (n + 3) n (n + 1) a b := by
 constructor <;> exact (show (_ : Nat) ≠ _ by omega)
end
end L2
namespace L2
open PySem PySem.Spec PyProof.Rows
section
variable {prog : Program} {w : World} {A : Around} {E : Value->Shared->Prop} {s : Shared}
end
section
variable {X : Cx} {pins : List (Addr × Obj)} {σ : List (Option V)} {H H' : Hp} {s : Shared} {h' : Heap}
end
end L2
namespace L2
open PySem PySem.Spec PyProof.Rows
structure CompSc2 (X : Cx) (scope : Scope) (x y : Str) (cl : List (Str × Addr)) (N : List Str) (cap : List Nat) : Prop where
 clos : closureFor scope X.env = pure cl
 cell : ∀ y ∈ scope.names, y.2 ≠ .cell
 kind : scope.kind = .function
 names : ∀ y ∈ scope.names, y.2 = .local->scope.names.lookup y.1 = some .local
 loc : scope.names.lookup x = some .local
 loc2 : scope.names.lookup y = some .local
 nd : N.Nodup
 n0 : N[0]? = some x
 n1 : N[1]? = some y
 len : N.length = cap.length + 2
 capN : ∀ (k j : Nat), cap[k]? = some j->N[k + 2]? = X.N[j]?
 out : ∀ (k : Nat) (y : Str), N[k + 2]? = some y->X.env.kindOf y = some .cell\/X.env.kindOf y = some .free
 inn : ∀ (k : Nat) (y : Str), N[k + 2]? = some y->(relabel scope X.env).names.lookup y = some .cell\/(relabel scope X.env).names.lookup y = some .free
 sub : ∀ y c, cl.lookup y = some c->X.env.cells.lookup y = some c
 has : ∀ y, ((relabel scope X.env).names.lookup y = some .cell\/(relabel scope X.env).names.lookup y = some .free)->∃ c, cl.lookup y = some c
def QcQ (cap : List Nat) (σ : St) (x y : Option V) : St := x :: y :: cap.map fun j => (σ[j]?).getD none
section
variable {X : Cx} {pins : List (Addr × Obj)} {σ : St} {H : Hp} {s : Shared} {scope : Scope} {x y : Str} {cl : List (Str × Addr)} {N : List Str} {cap : List Nat} {C : Addr} {fp : List Addr}
theorem QkM (S : CompSc2 X scope x y cl N cap) (I : Inv X pins σ H s) (hC : s.heap.objs.size<=C) (hfp : ∀ b ∈ fp, FpOk X pins H b/\b < s.heap.objs.size) : (Qao X scope cl C N s H fp).Ok where
 mod := I.ok.mod
 kind := S.kind
 glob := I.ok.glob
 blt := I.ok.blt
 above := hC
 inj := fun y' z c h1 h2 => I.ok.inj y' z c (S.sub y' c h1) (S.sub z c h2)
 has := fun y h => S.has y h
 cab := fun y c h => by cases h
 hd := I.ok.hd
 frames := I.ok.frames
 stk := .inl rfl
 exf := fun b hb => ⟨QnS (QnP (hfp b hb).2 hC), fun y c h => (hfp b hb).1.2.2.2.2.1 y c (S.sub y c h)⟩
 bs := I.bs
 bsz := QnV I.ok.bsz I.sz
 noex := fun b o e hb => by
  rcases (hfp b hb).1.2.2.2.1 with z | z
  ·exact I.ok.noex b o e z
  ·exact absurd (QnP (QnJ e) (QnV I.ok.bsz z)) (QnY _)
 exfs := fun b hb z => by
  rcases List.mem_cons.mp (I.stkSub b z) with e | e
  ·exact (hfp b hb).1.2.1 e
  ·exact (hfp b hb).1.2.2.1 e
 funs := I.stack
 frf := I.stkFree
theorem Qjk {h₁ : Heap} {tk : Nat} {m : Str->Option Value} (S : CompSc2 X scope x y cl N cap) (I : Inv X pins σ H s) (hC : s.heap.objs.size<=C) (hfp : ∀ b ∈ fp, FpOk X pins H b/\b < s.heap.objs.size)
    (hns : h₁.Ns C m) (old : ∀ b o, s.heap.get? b = some o->h₁.get? b = some o) : Inv (Qao X scope cl C N s H fp) [] (QcQ cap σ none none) H { s with heap := h₁, toks := tk } := by
  refine ⟨QkM S I hC hfp, rfl, I.bare, Un.kept old, ⟨m, hns, fun i y' v h1 h2 h3 => ?_⟩, fun y' c h => ?_, I.hok.fresh hC, fun y' c h => I.freeC y' c (S.sub y' c h), fun p hp => absurd (show p ∈ ([] : List (Addr × Obj)) from hp) (by simp), I.hok.kept old, ?_⟩
  · cases i with
    | zero => exact absurd h2 (by simp [QcQ])
    | succ k =>
     cases k with
     | zero => exact absurd h2 (by simp [QcQ])
     | succ k =>
      have h2' : (cap.map fun j => (σ[j]?).getD none)[k]? = some (some v) := by simpa [QcQ] using h2
      rw [QnT] at h2'
      cases ej : cap[k]? with
      | none => rw [ej] at h2'; cases h2'
      | some j =>
        rw [ej] at h2'
        have e1 : (σ[j]?).getD none = some v := by simpa using h2'
        have e2 : σ[j]? = some (some v) := by
          cases q : σ[j]? with
          | none => rw [q] at e1; cases e1
          | some z => rw [q] at e1; exact congrArg some e1
        have e3 : X.N[j]? = some y' := (S.capN k j ej).symm.trans h1
        obtain ⟨m2, hn2, hl⟩ := I.loc
        have ko := S.out k y' h1
        have vis : Vis X.env.scope y' := .inr ko
        obtain ⟨u, ru, lk⟩ := hl j y' v e3 e2 vis
        refine ⟨u, ru, .inr ⟨S.inn k y' h1, ?_⟩⟩
        rcases lk with ⟨kl, _⟩ | ⟨_, c, hc, cell⟩
        · rcases ko with z | z <;> (rw [z] at kl; cases kl)
        · obtain ⟨c', hc'⟩ := S.has y' (S.inn k y' h1)
          have e4 := S.sub y' c' hc'
          rw [hc] at e4
          cases e4
          obtain ⟨o, ho, hd⟩ := cell
          exact ⟨c, hc', o, old c o ho, hd⟩
  · obtain ⟨v, o, ho, hd⟩ := I.cell y' c (S.sub y' c h)
    exact ⟨v, o, old c o ho, hd⟩
  · show (QcQ cap σ none none).length = N.length
    rw [S.len]
    simp [QcQ]
end
section
variable {X : Cx} {pins : List (Addr × Obj)} {σ : St} {scope : Scope} {x y : Str} {px py pos tp : Pos} {tk : Nat} {cl : List (Str × Addr)} {N : List Str} {cap : List Nat} {elt iter : Expr} {te : TE} {E : Value->Shared->Prop}
end
end L2
namespace L2
open PySem PySem.Spec PyProof.Rows
section
variable {prog : Program} {w : World} {A : Around} {s : Shared} {env : Env} {R : Result->Shared->Prop}
theorem Qnh {elt iter : Expr} {elts ifs : List Expr} {x1 : Nat} {tp : Pos} {scope : Scope} {pos : Pos} {it acc : Value} (I : Nat->Shared->Prop)
  (turn : ∀ n s, I n s->wpAny (model prog w) A (pyNext it) (fun r s1 => match r with
   | none => R (.ok .next) s1
   | some v => wpAny (model prog w) A (letOwnedTupleGo (.Tuple elts x1 tp) it v) (fun _ s2 => wpAny (model prog w) A (assign (.Tuple elts x1 tp) env v) (fun _ s3 =>
     wpAny (model prog w) A (forIn ifs true fun c r => if r = true then do let ok <-isTrue c env (eval c env); pure (ForInStep.yield ok) else pure (ForInStep.yield r)) (fun ok s4 =>
      if ok = true then wpAny (model prog w) A (eval elt env) (fun x s5 =>
       wpAny (model prog w) A (call (.builtin "list.append") [acc, x]) (fun _ s6 => ∃ m, m < n/\I m s6) (notedBy (model prog w) A env fun e s' => R (.error e) s') s5) (notedBy (model prog w) A env fun e s' => R (.error e) s') s4
      else ∃ m, m < n/\I m s4) (notedBy (model prog w) A env fun e s' => R (.error e) s') s3) (notedBy (model prog w) A env fun e s' => R (.error e) s') s2)
     (notedBy (model prog w) A env fun e s' => R (.error e) s') s1) (notedBy (model prog w) A env fun e s' => R (.error e) s') s)
  (n : Nat) (h : I n s) : codeAny (model prog w) A (.compLoop (.ListComp elt [⟨.Tuple elts x1 tp, iter, ifs, 0⟩] scope pos) 0 it acc env) R s := by
 refine codeAny_loop rfl I (fun n s0 h0 => ?_) n h
 show wpAny _ A ((compTurn (.ListComp elt [⟨.Tuple elts x1 tp, iter, ifs, 0⟩] scope pos) 0 it acc env).onRaise (fun x => do noteFrame x env; theTreesLotGoes x)) _ _ s0
 refine wpAny_noted ?_
 rw [compTurn_list]
 refine wpAny_bind (wpAny_standAt (wpAny_bind (wpAny_mono (turn n s0 h0) (fun r s1 h1 => ?_) fun _ _ z => z)))
 cases r with
 | none => exact wpAny_pure h1
 | some v =>
  refine wpAny_bind (wpAny_mono h1 (fun _ s2 h2 => wpAny_bind (wpAny_mono h2 (fun _ s3 h3 => wpAny_bind (wpAny_mono h3 (fun ok s4 h4 => ?_) fun _ _ z => z)) fun _ _ z => z)) fun _ _ z => z)
  cases ok with
  | false => exact wpAny_pure ⟨rfl, h4⟩
  | true => exact wpAny_bind (wpAny_bind (wpAny_mono h4 (fun x s5 h5 => wpAny_bind (wpAny_mono h5 (fun _ s6 h6 => wpAny_pure (wpAny_pure ⟨rfl, h6⟩)) fun _ _ z => z)) fun _ _ z => z))
end
def QnD (K : PySem.W.Frag) (cap : List Nat) (tt : TT) (te : TE) (σ : St) (P : List V->Hp->Prop) (J : It) (H1 : Hp) : Prop :=
  ∃ W : Nat->Nat->List V->Hp->Prop, (∃ m, W 0 m [] H1)/\∀ i m ys H, W i m ys H->ys.length < sizeLine /\
    ((J.stop i H/\P ys H) ∨
     (J.go i H/\∀ v H', J.yld i H v H'->∃ p v1 v2, v = .ref p/\SqT K H' p [v1, v2]/\tt (QcQ cap σ (some v1) (some v2)) H' fun b H2 => if b = true then te (QcQ cap σ (some v1) (some v2)) H2 fun y H3 => ∃ m', m' < m/\W (i + 1) m' (ys ++ [y]) H3 else ∃ m', m' < m/\W (i + 1) m' ys H2))
def tComp3 (K : PySem.W.Frag) (wi : TI) (cap : List Nat) (tt : TT) (te : TE) : TE := fun σ H Q => wi σ H (QnD K cap tt te σ fun ys H2 => ∀ p, H2 p = none->Q (.ref p) (upd H2 p (.lst ys)))
section
variable {X : Cx} {pins : List (Addr × Obj)} {σ : St} {scope : Scope} {x y : Str} {px py pos tp : Pos} {tk : Nat} {cl : List (Str × Addr)} {N : List Str} {cap : List Nat} {elt iter : Expr} {ifs : List Expr} {tt : TT} {te : TE} {E : Value->Shared->Prop}
theorem QkO {P : List V->Hp->Prop} {RR : Value->Addr->Result->Shared->Prop} {H2 : Hp} {s2 : Shared} {it : Addr} {fp : List Addr} {tn : Nat->Heap->Prop} {J : It} (hc : X.calm = true) (S : CompSc2 X scope x y cl N cap)
  (ht : ∀ C s H ex, PTs (Qao X scope cl C N s H ex) ifs tt) (he : ∀ C s H ex, PE (Qao X scope cl C N s H ex) elt te)
  (I2 : Inv X pins σ H2 s2) (T : Turn X.prog X.w X.K (.Tuple [.Name x px, .Name y py] tk tp) J fp it tn) (st2 : tn 0 s2.heap) (f2 : ∀ b ∈ fp, FpOk X pins H2 b) (h : QnD X.K cap tt te σ P J H2)
  (hRR : ∀ (D C : Addr) (s4 : Shared) (ys : List V) (H3 : Hp) (oC : Obj) (m : Str->Option Value), Inv X (pins ++ [(C, oC)]) σ (upd H3 D (.lst ys)) s4->(∀ h : Heap, h.get? C = some oC->h.Ns C m)->FpOk X pins (upd H3 D (.lst ys)) C->H3 D = none->P ys H3->RR (.ref D) C (.ok .next) s4) :
  wpAny (model X.prog X.w) X.A (newList []) (fun acc s₃ => wpAny (model X.prog X.w) X.A (newFunctionEnv scope X.env.globals cl [] X.env.qual none .none (some X.env)) (fun cenv s₄ =>
   codeAny (model X.prog X.w) X.A (.compStart (.ListComp elt [⟨.Tuple [.Name x px, .Name y py] tk tp, iter, ifs, 0⟩] scope pos) 0 (.ref it) acc { cenv with scope := relabel scope X.env }) (RR acc cenv.locals) s₄) E s₃) E s2 := by
 obtain ⟨W, ⟨m0, w0⟩, turn⟩ := h
 refine wpAny_newObj_type (wpAny_newFunctionEnv S.cell (by intro y hy; simp at hy) (fun h₁ hns₁ hsb₁ => ?_) S.kind)
 dsimp only at hns₁ hsb₁ ⊢
 generalize hG : s2.heap.push { cls := .type "list", dict := none, data := .seq ([] : List Value).toArray } = G at hns₁ hsb₁ ⊢
 have hC : G.objs.size = s2.heap.objs.size + 1 := by rw [<-hG, Heap.size_push]
 have hDC : s2.heap.objs.size ≠ G.objs.size := by rw [hC]; exact QnS (Nat.lt_succ_self _)
 have hCle : s2.heap.objs.size<=G.objs.size := by rw [hC]; exact Nat.le_succ _
 have old : ∀ b o, s2.heap.get? b = some o->h₁.get? b = some o := fun b o e => by
  have hb := QnJ e
  exact hsb₁.extBut b o (by rw [hC]; exact QnS (Nat.lt_succ_of_lt hb)) (QnG _ (hG ▸ QnG _ e))
 have hacc : h₁.get? s2.heap.objs.size = some (lstO [] 0) := hsb₁.extBut _ _ hDC (QnG _ (hG ▸ QnR _ rfl))
 have flt : ∀ b ∈ fp, b < s2.heap.objs.size := fun b hb => by obtain ⟨o, e, _⟩ := T.obj 0 _ st2 b hb; exact QnJ e
 have fp2 : ∀ b ∈ fp, FpOk X pins H2 b/\b < s2.heap.objs.size := fun b hb => ⟨f2 b hb, flt b hb⟩
 have st1 : tn 0 h₁ := T.keep _ _ _ st2 fun b _ o e => old b o e
 have fD2 : H2 s2.heap.objs.size = none := I2.hok.fresh (QnL _)
 have nDx : ∀ y c, X.env.cells.lookup y = some c->c ≠ s2.heap.objs.size/\c ≠ G.objs.size := fun y c e => by
  obtain ⟨v, q⟩ := I2.cell y c e
  have := q.lt
  exact ⟨QnS this, by rw [hC]; exact QnS (Nat.lt_succ_of_lt this)⟩
 have nPx : ∀ p ∈ X.pn ++ pins, p.1 < s2.heap.objs.size := fun p hp => QnJ (I2.pin p hp).1
 have fpB : ∀ {H' : Hp} {pl : List (Addr × Obj)}, (∀ b ∈ fp, H' b = none)->(∀ p ∈ pl, p.1 = s2.heap.objs.size)->∀ b ∈ fp, FpOk (Qao X scope cl G.objs.size N s2 H2 fp) pl H' b := fun {H' pl} hn hp b hb => by
  refine ⟨hn b hb, QnS (QnP (flt b hb) hCle), fun z => ?_, .inl hb, fun y c e => (f2 b hb).2.2.2.2.1 y c (S.sub y c e), fun p hq z => ?_⟩
  ·rcases List.mem_cons.mp (I2.stkSub b z) with e | e
   ·exact (f2 b hb).2.1 e
   ·exact (f2 b hb).2.2.1 e
  ·have e1 : p.1 = s2.heap.objs.size := hp p (by simpa [Qao] using hq)
   rw [e1] at z
   exact absurd (flt b hb) (by rw [<-z]; exact QnY _)
 have nDfs : s2.heap.objs.size ∉ frs X.stack := fun z => by
  rcases List.mem_cons.mp (I2.stkSub _ z) with e | e
  ·exact absurd I2.lt (by rw [<-e]; exact QnY _)
  ·exact I2.nofs (QnL _) e
 have pinD : ∀ {σ' : St} {H' : Hp} {s' : Shared} {ob : Obj}, Inv (Qao X scope cl G.objs.size N s2 H2 fp) [] σ' H' s'->s'.heap.get? s2.heap.objs.size = some ob->(∀ v, ob.data ≠ .cell v)->H' s2.heap.objs.size = none ->
   Inv (Qao X scope cl G.objs.size N s2 H2 fp) [(s2.heap.objs.size, ob)] σ' H' s' := fun {σ' H' s' ob} J' e d n => J'.pins_of fun p hp => by
  have e1 : p = (s2.heap.objs.size, ob) := by simpa using hp
  subst e1
  exact ⟨e, n, hDC, nDfs, d⟩
 have nocell : ∀ (ys : List Value) (n : Nat) v, (lstO ys n).data ≠ .cell v := fun ys n v z => by cases (show Data.seq ys.toArray n = Data.cell v from z)
 have loop : ∀ s₃ : Shared, s₃ = { s2 with heap := h₁, toks := s2.toks + ([] : List (Str × Value)).length } ->
   codeAny (model X.prog X.w) X.A (.compLoop (.ListComp elt [⟨.Tuple [.Name x px, .Name y py] tk tp, iter, ifs, 0⟩] scope pos) 0 (.ref it) (.ref s2.heap.objs.size) (compEnvC scope cl G.objs.size X.env)) (RR (.ref s2.heap.objs.size) G.objs.size) s₃ := by
  rintro s₃ rfl
  refine Qnh
   (fun n s' => ∃ i ys vs e H' a a2, Inv (Qao X scope cl G.objs.size N s2 H2 fp) [(s2.heap.objs.size, lstO vs e)] (QcQ cap σ a a2) H' s'/\tn i s'.heap/\(∀ b ∈ fp, H' b = none)/\Vals ys vs/\H' s2.heap.objs.size = none/\W i n ys H') ?_ m0
   ⟨0, [], [], 0, H2, none, none, pinD (Qjk S I2 hCle fp2 hns₁ old) hacc (nocell _ _) fD2, st1, fun b hb => (f2 b hb).1, .nil, fD2, w0⟩
  rintro n s3 ⟨i, ys, vs, e, H3, a, a2, I3, st3, fr3, rel3, fD3, w3⟩
  obtain ⟨hlen, hcase⟩ := turn i n ys H3 w3
  have pl1 : ∀ p ∈ [(s2.heap.objs.size, lstO vs e)], p.1 = s2.heap.objs.size := fun p hp => by
   have e1 : p = (s2.heap.objs.size, lstO vs e) := by simpa using hp
   rw [e1]
  rcases hcase with ⟨stop, fin⟩ | ⟨go, step⟩
  ·refine wpAny_mono (T.done (Qao X scope cl G.objs.size N s2 H2 fp) rfl rfl rfl hc i _ s3 _ H3 (fun _ _ => False) I3 (fpB fr3 pl1) st3 stop) (fun r s4 ⟨hr, I4⟩ => ?_) fun _ _ z => z.elim
   subst hr
   obtain ⟨hD4, hDn, _, _, _⟩ := I4.pin (s2.heap.objs.size, lstO vs e) (by simp [Qao])
   have un4 : Un (frs X.stack) fp H2 H3 s2.heap s4.heap := I4.base
   have un5 : Un (frs X.stack) fp H2 (upd H3 s2.heap.objs.size (.lst ys)) s2.heap s4.heap := un4.track (QnL _) hDn
   have ok5 : HOk X.prog X.w (upd H3 s2.heap.objs.size (.lst ys)) s4.heap := HOk.track I4.hok hDn ⟨Nat.le_of_lt hlen, vs, e, rel3, hD4⟩
   have I5 : Inv X pins σ (upd H3 s2.heap.objs.size (.lst ys)) s4 := I2.call' I4.os un5 ok5 I4.bare fun b hb => ⟨(f2 b hb).2.2.2.1, (f2 b hb).2.1, (f2 b hb).2.2.2.2.1, (f2 b hb).2.2.2.2.2⟩
   obtain ⟨m, hnC, _⟩ := I4.loc
   have hnC' : s4.heap.Ns G.objs.size m := hnC
   obtain ⟨oC, es, ep, hoC, hdC, hrC⟩ := id hnC'
   have hHC : (upd H3 s2.heap.objs.size (.lst ys)) G.objs.size = none := by
    rw [Qan (Ne.symm hDC)]
    exact I4.free
   have fC : FpOk X pins (upd H3 s2.heap.objs.size (.lst ys)) G.objs.size := by
    refine ⟨hHC, Nat.ne_of_gt (QnP I2.lt hCle), I2.nofs hCle, .inr (QnV I2.sz hCle), fun y c q => (nDx y c q).2, fun p hp z => ?_⟩
    have := nPx p hp
    rw [z] at this
    exact absurd (QnP this hCle) (QnY _)
   refine hRR s2.heap.objs.size G.objs.size s4 ys H3 oC m (I5.pins_of fun p hp => ?_) (fun h q => ⟨oC, es, ep, q, hdC, hrC⟩) fC hDn fin
   rcases List.mem_append.mp hp with hp | hp
   ·exact I5.pin p (QnH _ hp)
   ·have e1 : p = (G.objs.size, oC) := by simpa using hp
    subst e1
    exact ⟨hoC, hHC, fC.2.1, fC.2.2.1, fun v z => by rw [hdC] at z; cases z⟩
  ·refine wpAny_mono (T.item (Qao X scope cl G.objs.size N s2 H2 fp) rfl rfl rfl hc i _ s3 _ H3 (fun _ _ => False) I3 (fpB fr3 pl1) st3 go) (fun r s4 ⟨u, hr, h4⟩ => ?_) fun _ _ z => z.elim
   subst hr
   refine wpAny_mono h4 (fun _ s5 ⟨v, H5, I5, r5, y5, st5, fr5⟩ => ?_) fun _ _ z => z.elim
   have I5' := I5.pinned (fpB fr5 pl1) (T.obj _ _ st5)
   have hloc : (Qao X scope cl G.objs.size N s2 H2 fp).env.scope.names.lookup x = some .local := lookup_relabel_local S.loc
   have hloc2 : (Qao X scope cl G.objs.size N s2 H2 fp).env.scope.names.lookup y = some .local := lookup_relabel_local S.loc2
   obtain ⟨pn, v1, v2, rfl, sq, step'⟩ := step v H5 y5
   have pg : PG (Qao X scope cl G.objs.size N s2 H2 fp) (.Tuple [.Name x px, .Name y py] tk tp) _ := pg_tup hc (Qey (Qgx (i := 0) (pos := px) S.nd S.n0 (.inl hloc) (.inr hloc)) (Qey (Qgx (i := 1) (pos := py) S.nd S.n1 (.inl hloc2) (.inr hloc2)) QlI))
   refine wpAny_mono (pg _ s5 _ H5 _ u (fun σ6 H6 => σ6 = QcQ cap σ (some v1) (some v2)/\H6 = H5) I5' r5 ⟨pn, [v1, v2], rfl, sq, rfl, v1, [v2], rfl, v2, [], rfl, rfl, rfl, rfl⟩) (fun _ s6 ⟨σ6, H6, I6, e6, e6'⟩ => ?_) fun _ _ z => z.elim
   subst e6 e6'
   refine wpAny_mono (ht _ _ _ _ _ s6 _ H6 _ I6 step') (fun ok s7 ⟨H7, I7, q7⟩ => ?_) fun _ _ z => z.elim
   have after : ∀ {H8 : Hp} {s8 : Shared}, Inv (Qao X scope cl G.objs.size N s2 H2 fp) ([(s2.heap.objs.size, lstO vs e)] ++ QfP fp s5.heap) (QcQ cap σ (some v1) (some v2)) H8 s8 ->
     tn (i + 1) s8.heap/\(∀ b ∈ fp, H8 b = none)/\s8.heap.get? s2.heap.objs.size = some (lstO vs e)/\H8 s2.heap.objs.size = none := fun {H8 s8} I8 => by
    refine ⟨T.keep _ _ _ st5 fun b hb o q => (I8.pin (b, o) (QnH _ (QnH _ (QbL hb q)))).1, fun b hb => ?_, (I8.pin (s2.heap.objs.size, lstO vs e) (QnH _ (List.mem_append_left _ QnI))).1, (I8.pin (s2.heap.objs.size, lstO vs e) (QnH _ (List.mem_append_left _ QnI))).2.1⟩
    obtain ⟨o, q, _⟩ := T.obj _ _ st5 b hb
    exact (I8.pin (b, o) (QnH _ (QnH _ (QbL hb q)))).2.1
   cases ok with
   | false =>
    rw [if_neg QnE] at q7 ⊢
    obtain ⟨m', hm, w7⟩ := q7
    obtain ⟨st7, fr7, hD7, fD7⟩ := after I7
    exact ⟨m', hm, i + 1, ys, vs, e, H7, some v1, some v2, I7.unpinned, st7, fr7, rel3, fD7, w7⟩
   | true =>
    rw [if_pos rfl] at q7 ⊢
    refine wpAny_mono (he _ _ _ _ _ s7 _ H7 _ I7 q7) (fun yv s8 ⟨y', H8, I8, r8, m', hm, w8⟩ => ?_) fun _ _ z => z.elim
    obtain ⟨st8, fr8, hD8, fD8⟩ := after I8
    refine append_at (hsz := by rw [QnK, <-rel3.length]; exact Nat.le_of_lt hlen) hD8 fun h9 hs9 hD9 => ?_
    have I8u : Inv (Qao X scope cl G.objs.size N s2 H2 fp) [] (QcQ cap σ (some v1) (some v2)) H8 s8 := I8.pins_of fun p hp => absurd hp (by simp)
    have I9 : Inv (Qao X scope cl G.objs.size N s2 H2 fp) [] (QcQ cap σ (some v1) (some v2)) H8 { s8 with heap := h9 } :=
     I8u.turned (t' := s8.toks) (it := s2.heap.objs.size) (fun b o hb q => (hs9.2 b hb).trans q) fD8 hDC (.inr (QnL _)) (fun y c q => (nDx y c (S.sub y c q)).1) fun p hp => absurd (show p ∈ ([] : List (Addr × Obj)) from hp) (by simp)
    have hD9' : h9.get? s2.heap.objs.size = some (lstO (vs ++ [yv]) (e + 1)) := by
     rw [hD9]
     show some ({ cls := .type "list", data := .seq (vs.toArray.push yv) (e + 1) } : Obj) = some { cls := .type "list", data := .seq (vs ++ [yv]).toArray (e + 1) }
     rw [List.push_toArray]
    refine ⟨m', hm, i + 1, ys ++ [y'], vs ++ [yv], e + 1, H8, some v1, some v2, pinD I9 hD9' (nocell _ _) fD8, ?_, fr8, rel3.append (.cons r8 .nil), fD8, w8⟩
    exact T.keep _ _ _ st8 fun b hb o q => (hs9.2 b (QnS (flt b hb))).trans q
 exact codeAny_compStart_list (loop _ rfl) (T.self _ 0 _ _ _ st1 (loop _ rfl))
theorem QjB {wi : TI} (hc : X.calm = true) (hi : PI X (.Tuple [.Name x px, .Name y py] tk tp) iter wi) (S : CompSc2 X scope x y cl N cap) (ht : ∀ C s H ex, PTs (Qao X scope cl C N s H ex) ifs tt) (he : ∀ C s H ex, PE (Qao X scope cl C N s H ex) elt te)
  (hs : ∀ z, foldedSetIterable iter X.env z = pure z := by intro _; rfl) : PE X (.ListComp elt [⟨.Tuple [.Name x px, .Name y py] tk tp, iter, ifs, 0⟩] scope pos) (tComp3 X.K wi cap tt te) := by
 intro pins s σ H Q I h
 rw [eval_ListComp]
 refine wpAny_comprehension_free (use := none) rfl hs S.clos S.kind S.names (thn (hi pins s σ H _ I h) fun v s1 h1 => thn h1 fun itv s2 h2 => ?_)
 obtain ⟨it, fp, tn, J, H2, e, I2, T, st2, f2, h⟩ := h2
 subst e
 refine QkO (RR := fun acc C => compPost (model X.prog X.w) X.A X.xe none (EP X pins σ Q) acc C) hc S ht he I2 T st2 f2 h fun D C s4 ys H3 oC m I4 hnC fC hD fin => ?_
 have hoC := (I4.pin (C, oC) (QnH _ (QnH _ QnI))).1
 refine ⟨m, hnC _ hoC, fun h' hs' => ?_⟩
 exact ⟨.ref D, _, I4.unpinned.turned (t' := s4.toks) (it := C) (fun b o hb q => (hs'.2 b hb).trans q) fC.1 fC.2.1 fC.2.2.2.1 fC.2.2.2.2.1 fC.2.2.2.2.2, rfl, fin D hD⟩
end
end L2
namespace L2
open PySem PySem.Spec PyProof.Rows
def RawD (h : Heap) (d : Addr) (es : Array DictEntry) (ep : Nat) : Prop := ∃ o, h.get? d = some o/\o.ExactDict/\o.data = .dict es ep
section
variable {prog : Program} {w : World} {A : Around} {E : Value->Shared->Prop} {s : Shared} {d it : Addr} {es : Array DictEntry} {ep i : Nat}
theorem RawD.type (r : RawD s.heap d es ep) : s.TypeIs (.ref d) "dict" := let ⟨o, h1, h2, _⟩ := r; ⟨o, h1, h2.1⟩
theorem RawD.at {h h' : Heap} (r : RawD h d es ep) (k : ∀ o, h.get? d = some o->h'.get? d = some o) : RawD h' d es ep := let ⟨o, h1, h2, h3⟩ := r; ⟨o, k o h1, h2, h3⟩
theorem iter_raw {Q : Value->Shared->Prop} (lo : (d == sysModules) = false) (r : RawD s.heap d es ep)
  (hQ : Q (.ref s.heap.objs.size) { s with heap := s.heap.push { cls := .type "dict_keyiterator", data := .fields #[.ref d, .int 0 0, .int es.size 0, .int ep 0] } }) : wpAny (model prog w) A (pyIter (.ref d)) Q E s := by
 have ty := r.type
 obtain ⟨o, g1, g2, g3⟩ := id r
 refine wpAny_pyIter_slot ty F.slot_dict_iter (wpAny_call_entry F.slot_dict_iter ty F.entry_dict_iter ?_ (F.args_dict_iter_1 _))
 unfold Builtin.«dict.__iter__»
 refine wpAny_bind ?_
 unfold Builtin.Dict.dictSlotNone
 refine wpAny_bind (wpAny_notOrdered_dict ty ?_)
 show wpAny _ _ (pure (Value.ref d)) _ _ s
 refine wpAny_pure ?_
 show wpAny _ _ (Builtin.Dict.showsAll d >>= _) _ _ s
 unfold Builtin.Dict.showsAll
 rw [if_neg (by rw [lo]; exact QnE)]
 refine wpAny_bind (wpAny_pure (wpAny_bind (wpAny_dictEntries g1 g3 (wpAny_bind (wpAny_dictEpoch g1 g3 ?_)))))
 refine wpAny_bind (wpAny_newObj_type (wpAny_pure ⟨_, rfl, "dict_keyiterator", _, ⟨_, QnR _ rfl, rfl⟩, F.slot_dict_keyiterator_next.lookup, ?_⟩))
 simpa [rawInt] using hQ
theorem next_raw {Q : Option Value->Shared->Prop} (hit : s.heap.IsKeyIter it d i es.size ep) (r : RawD s.heap d es ep) (hlt : i < es.size)
  (hQ : ∀ h', h'.IsKeyIter it d (i + 1) es.size ep->Heap.SameBut it s.heap h'->Q (some es[i].key) { s with heap := h' }) : wpAny (model prog w) A (pyNext (.ref it)) Q E s := by
 obtain ⟨o, ho, hc, hd⟩ := id hit
 obtain ⟨od, g1, g2, g3⟩ := id r
 have ty := hit.typeIs
 unfold pyNext
 refine wpAny_bind (wpAny_attempt (wpAny_callSpecial?_slot (name := Str.ofString "__next__") ty F.slot_dict_keyiterator_next (wpAny_call_entry F.slot_dict_keyiterator_next ty F.entry_dict_keyiterator_next ?_ (F.args_dict_keyiterator_next_1 _))))
 refine wpAny_bind (wpAny_pure (wpAny_bind (wpAny_bind ?_)))
 first | refine wpAny_bind (wpAny_typeNameOfWhole_keyiter ty (wpAny_pure ?_)) | refine wpAny_bind (wpAny_typeNameOf_keyiter ty (wpAny_pure ?_))
 refine wpAny_bind (wpAny_fieldsOf ho hd ?_)
 simp only [show Builtin.Dict_items.ownsTuple "dict_keyiterator" = false by decide, Bool.false_eq_true, if_false]
 show wpAny _ _ (if (Value.ref d == Value.none) = true then _ else _) _ _ s
 rw [if_neg (show ¬ ((Value.ref d == Value.none) = true) from QnE)]
 refine wpAny_bind (wpAny_pure (wpAny_bind (wpAny_dictEntries g1 g3 ?_)))
 rw [if_neg (by simp)]
 refine wpAny_bind (wpAny_pure (wpAny_bind (wpAny_dictEpoch g1 g3 ?_)))
 rw [if_neg (by simp)]
 refine wpAny_pure ?_
 simp only [show ¬ ((i : Int) < 0) from by omega, if_false, Int.toNat_natCast, Array.getElem?_eq_getElem hlt]
 refine wpAny_bind ?_
 first | refine wpAny_bind (wpAny_typeNameOfWhole_keyiter ty (wpAny_pure ?_)) | refine wpAny_bind (wpAny_typeNameOf_keyiter ty (wpAny_pure ?_))
 refine wpAny_bind (wpAny_isOneOf_keyiter ty ?_)
 show wpAny _ _ (setField (.ref it) 1 (rawInt ((i : Int) + 1)) >>= _) _ _ s
 refine wpAny_bind (wpAny_setField ho hd (by simp) ?_)
 have up : (s.heap.update it (Obj.mapFields (·.setIfInBounds 1 (rawInt ((i : Int) + 1))))).IsKeyIter it d (i + 1) es.size ep :=
  ⟨_, Heap.get?_update_self _ ho (Obj.isFreed_of_fields (Obj.data_mapFields hd _)), (Obj.cls_mapFields ..).trans hc, by rw [Obj.data_mapFields hd]; simp [rawInt]⟩
 refine wpAny_bind (wpAny_holding ?_)
 refine wpAny_bind (wpAny_isOneOf_keyiter (s := { s with heap := s.heap.update it (Obj.mapFields (·.setIfInBounds 1 (rawInt ((i : Int) + 1)))) }) up.typeIs ?_)
 show wpAny _ _ (pure es[i].key) _ _ _
 exact wpAny_pure (wpAny_pure ⟨_, rfl, wpAny_pure (hQ _ up (Heap.SameBut.update ..))⟩)
theorem end_raw {Q : Option Value->Shared->Prop} (hh : A.handled = none) (hit : s.heap.IsKeyIter it d i es.size ep) (r : RawD s.heap d es ep) (hge : es.size<=i)
  (hQ : ∀ h', Heap.ExtBut it s.heap h'->Q none { s with heap := h' }) : wpAny (model prog w) A (pyNext (.ref it)) Q E s := by
 obtain ⟨o, ho, hc, hd⟩ := id hit
 obtain ⟨od, g1, g2, g3⟩ := id r
 have ty := hit.typeIs
 unfold pyNext
 refine wpAny_bind (wpAny_attempt (wpAny_callSpecial?_slot (name := Str.ofString "__next__") ty F.slot_dict_keyiterator_next (wpAny_call_entry F.slot_dict_keyiterator_next ty F.entry_dict_keyiterator_next ?_ (F.args_dict_keyiterator_next_1 _))))
 refine wpAny_bind (wpAny_pure (wpAny_bind (wpAny_bind ?_)))
 first | refine wpAny_bind (wpAny_typeNameOfWhole_keyiter ty (wpAny_pure ?_)) | refine wpAny_bind (wpAny_typeNameOf_keyiter ty (wpAny_pure ?_))
 refine wpAny_bind (wpAny_fieldsOf ho hd ?_)
 simp only [show Builtin.Dict_items.ownsTuple "dict_keyiterator" = false by decide, Bool.false_eq_true, if_false]
 show wpAny _ _ (if (Value.ref d == Value.none) = true then _ else _) _ _ s
 rw [if_neg (show ¬ ((Value.ref d == Value.none) = true) from QnE)]
 refine wpAny_bind (wpAny_pure (wpAny_bind (wpAny_dictEntries g1 g3 ?_)))
 rw [if_neg (by simp)]
 refine wpAny_bind (wpAny_pure (wpAny_bind (wpAny_dictEpoch g1 g3 ?_)))
 rw [if_neg (by simp)]
 refine wpAny_pure ?_
 simp only [show ¬ ((i : Int) < 0) from by omega, if_false, Int.toNat_natCast, Array.getElem?_eq_none hge]
 refine wpAny_bind ?_
 first | refine wpAny_bind (wpAny_typeNameOfWhole_keyiter ty (wpAny_pure ?_)) | refine wpAny_bind (wpAny_typeNameOf_keyiter ty (wpAny_pure ?_))
 show wpAny _ _ (setField (.ref it) 0 .none >>= _) _ _ s
 refine wpAny_bind (wpAny_setField ho hd (by simp) ?_)
 show wpAny _ _ (newExc (.type "StopIteration") [] >>= _) _ _ _
 refine wpAny_bind ?_
 simp only [newExc, newTuple]
 refine wpAny_bind (wpAny_newObj_type ?_ (by size_fits))
 refine wpAny_bind (m := firstArgMember _ _) (wpAny_of_eq (a := Value.none) (by first | (simp only [firstArgMember]; rfl) | rfl) ?_)
 refine wpAny_newObj_type ?_ (by size_fits)
 simp only [raiseNew]
 refine wpAny_bind (wpAny_handled ?_)
 rw [show A.in1.handled = none from hh]
 refine wpAny_bind (wpAny_pure (wpAny_throw ?_))
 refine wpAny_bind (wpAny_isInstance (T := "StopIteration") (b := true) ⟨_, QnR _ rfl, rfl⟩ isSubtype_stop (wpAny_pure (hQ _ (((Heap.SameBut.update ..).extBut.push _).push _))))
theorem QkZ (hh : A.handled = none) (J d : Addr) (hne : d ≠ J) (es : Array DictEntry) (ep : Nat) :
  Walks prog w A J [J, d] [J] es.size (fun i v => ∃ e, es[i]? = some e/\v = e.key) (fun i h => h.IsKeyIter J d i es.size ep/\RawD h d es ep) where
 sub := fun b hb => by simp at hb; simp [hb]
 frame := fun _ _ _ st hk => ⟨st.1.at fun o e => hk J (by simp) o e, st.2.at fun o e => hk d (by simp) o e⟩
 item := fun i s Q E hi st hQ => next_raw st.1 st.2 hi fun h' up sb => hQ _ h' s.toks ⟨es[i], by simp [hi], rfl⟩ ⟨up, st.2.at fun o e => sb.extBut d o hne e⟩ fun b o hb e => sb.extBut b o (fun z => hb (by simp [z])) e
 done := fun s Q E st hQ => end_raw hh st.1 st.2 (QnL _) fun h' eb => hQ h' s.toks fun b o hb e => eb b o (fun z => hb (by simp [z])) e
 self := fun _ _ _ _ st hQ => wpAny_pyIter_keyiter st.1 hQ
theorem src_raw (lo : (d == sysModules) = false) : PySem.W.KdlSrc prog w "dict" d d es.size (fun i v => ∃ e, es[i]? = some e/\v = e.key) (fun h => RawD h d es ep) where
 type := fun _ r => r.type
 there := fun _ ⟨o, h1, _⟩ => ⟨QnJ h1, QnJ h1⟩
 keep := fun _ _ r hk => r.at fun o e => hk d (.inl rfl) o e
 notList := by decide
 notTuple := by decide
 hint := fun _ _ _ _ r hq => PySem.W.kdl_hint_dict r.type hq
 iter := fun _ _ hh r => ⟨_, _, (fun _ _ hq => iter_raw lo r hq), QkZ hh _ d (let ⟨_, h1, _⟩ := r; QnS (QnJ h1)) es ep, ⟨⟨_, QnR _ rfl, rfl, rfl⟩, r.at fun o e => QnG _ e⟩⟩
end
section
variable {X : Cx} {pins : List (Addr × Obj)} {σ : St} {H : Hp} {s : Shared} {a : Addr}
theorem d_list {kvs : List (List Key × V)} {Q : Value->Shared->Prop} (hc : X.A.handled = none) (I : Inv X pins σ H s) (e : H a = some (.dT kvs))
  (k : ∀ (p : Addr) (bs : List Addr) (s' : Shared), H p = none->bs.length = kvs.length->(∀ (j : Nat) (b : Addr) (q : List Key × V), bs[j]? = some b->kvs[j]? = some q->H b = some (.tup (q.1.map kV)))->Inv X pins σ (upd H p (.lst (bs.map V.ref))) s'->Q (.ref p) s') :
  wpAny (model X.prog X.w) X.A (call (.type "list") [.ref a]) Q X.xe s := by
 obtain ⟨z, lo, xs, rel, o, es, ep, h1, h2, h3, h4, h5⟩ := (show Qbr X.prog X.w H s.heap a (.dT kvs) from I.hok a _ e)
 have r : RawD s.heap a es ep := ⟨o, h1, h2, h3⟩
 have lk : kvs.length = xs.length := Paired.length rel
 have le : es.size = xs.length := by rw [<-Array.length_toList, h4, QnM]
 have at_ : ∀ (j : Nat) v, (∃ en, es[j]? = some en/\v = en.key)->∃ x, xs[j]? = some x/\v = .ref x.2.1 := fun j v ⟨en, he, hv⟩ => by
  rw [<-Array.getElem?_toList, h4, QnT] at he
  cases hx : xs[j]? with
  | none => rw [hx] at he; cases he
  | some x => rw [hx] at he; cases he; exact ⟨x, rfl, hv⟩
 have prs : ∀ {l : List (List Key × V)} {m : List (List Key × Addr × Value)}, Paired (fun (p : List Key × V) (q : List Key × Addr × Value) => p.1 = q.1/\H q.2.1 = some (.tup (p.1.map kV))/\RelV p.2 q.2.2) l m->∀ (j : Nat) x q, m[j]? = some x->l[j]? = some q->H x.2.1 = some (.tup (q.1.map kV)) := by
  intro l m r
  induction r with
  | nil => intro j x q hx; simp at hx
  | cons hd _ ih =>
   intro j x q hx hq
   cases j with
   | zero => simp at hx hq; subst hx hq; exact hd.2.1
   | succ j => exact ih j x q (by simpa using hx) (by simpa using hq)
 refine PySem.W.kdl_call (src_raw (es := es) (ep := ep) lo) hc r (by rw [le, <-lk]; exact z) fun h' tk acc c' hk hD hacc => ?_
 obtain ⟨ha1, ha2⟩ := hacc
 have hb : acc.toList = (xs.map fun x => x.2.1).map Value.ref := by
  refine List.ext_getElem? fun j => ?_
  rw [QnT, QnT, Array.getElem?_toList]
  by_cases hj : j < acc.size
  ·obtain ⟨x, hx, hv⟩ := at_ j acc[j] (ha2 j _ (by simp [hj]))
   rw [hx, Array.getElem?_eq_getElem hj, hv]; rfl
  ·rw [Array.getElem?_eq_none (by omega), List.getElem?_eq_none (by omega)]; rfl
 have vals : ∀ bs : List Addr, Vals (bs.map V.ref) (bs.map Value.ref) := by
  intro bs
  induction bs with
  | nil => exact .nil
  | cons b bs ih => exact .cons rfl ih
 refine k s.heap.objs.size (xs.map fun x => x.2.1) _ (I.hok.fresh (QnL _)) (by rw [QnM, lk]) (fun j b q hb' hq => ?_) (I.laid (a := s.heap.objs.size) (o := .lst ((xs.map fun x => x.2.1).map V.ref)) (t' := tk) hk (QnL _) ⟨by rw [QnM, QnM, <-lk]; exact z, (xs.map fun x => x.2.1).map Value.ref, c', vals _, by rw [<-hb, Array.toArray_toList]; exact hD⟩)
 rw [QnT] at hb'
 cases hx : xs[j]? with
 | none => rw [hx] at hb'; cases hb'
 | some x =>
  rw [hx] at hb'
  cases hb'
  exact prs rel j x q hx hq
end
end L2
namespace L2
open PySem PySem.Spec PyProof.Rows
section
variable {prog : Program} {w : World} {A : Around} {R : Result->Shared->Prop} {J : Addr} {fp wr : List Addr} {n : Nat} {P : Nat->Value->Prop} {St : Nat->Heap->Prop} {kw : List (Str × Value)}
theorem QgJ : (toString "max" ++ toString ".loop" : String) = "max.loop" := by decide
theorem mx_loop (W : Walks prog w A.in1 J fp wr n P St) (bt : Nat->Nat->Bool) (hcmp : CmpOf prog w A.in1 .Gt P bt) (B : Addr) (hB : B ∉ fp) :
  ∀ (k j : Nat) (z : Shared) (b : Value) (c : Nat), n - (j + 1) = k->j + 1<=n->St (j + 1) z.heap->P (argBest bt j) b->z.heap.get? B = some { cls := .type "list", dict := none, data := .seq #[b, b] c, slots := #[] } ->
  (∀ v h' tk, P (argBest bt (n - 1)) v->(∀ x o, x ∉ wr->x ≠ B->z.heap.get? x = some o->h'.get? x = some o)->R (.ok (.ret v)) { z with heap := h', toks := tk }) ->
  codeAny (model prog w) A (.builtin "max.loop" ⟨[.ref J, .none, .ref B], kw⟩) R z := by
 have hBw : B ∉ wr := fun q => hB (W.sub _ q)
 intro k
 induction k with
 | zero =>
  intro j z b c hk hj hst hb gB hR
  have hin : j + 1 = n := by omega
  refine codeAny_builtin F.entry_max_loop ?_
  rw [Around.under_plainId F.plain_max_loop _]
  show wpAny _ A.in1 (seqItems? (.ref B) >>= _) _ _ z
  refine wpAny_bind (wpAny_seqItems gB rfl ?_)
  show wpAny _ A.in1 (tryCatch (pyNext (.ref J)) _ >>= _) _ _ z
  refine wpAny_bind (wpAny_tryCatch (W.done z _ _ (hin ▸ hst) fun h' tk kp => ?_))
  show wpAny _ A.in1 (updateSeq B (fun _ => #[]) >>= _) _ _ _
  refine wpAny_bind (wpAny_updateSeq (kp B _ hBw gB) rfl (wpAny_bind (wpAny_letGo (wpAny_pure ?_))))
  exact hR b _ tk (by rw [<-hin]; exact hb) fun x o hx hxB e => (Heap.get?_update_other _ _ (Ne.symm hxB)).trans (kp x o hx e)
 | succ k ih =>
  intro j z b c hk hj hst hb gB hR
  have hlt : j + 1 < n := by omega
  refine codeAny_builtin F.entry_max_loop ?_
  rw [Around.under_plainId F.plain_max_loop _]
  show wpAny _ A.in1 (seqItems? (.ref B) >>= _) _ _ z
  refine wpAny_bind (wpAny_seqItems gB rfl ?_)
  show wpAny _ A.in1 (tryCatch (pyNext (.ref J)) _ >>= _) _ _ z
  refine wpAny_bind (wpAny_tryCatch (W.item (j + 1) z _ _ hlt hst fun v h' tk hP hst' kp => ?_))
  have gB' := kp B _ hBw gB
  show wpAny _ A.in1 (tryCatch (holding [v, v] (richCompare .Gt v b >>= _)) _ >>= _) _ _ _
  refine wpAny_bind (wpAny_tryCatch (wpAny_holding (wpAny_bind (hcmp (j + 1) (argBest bt j) v b _ _ _ hP hb (wpAny_bind (wpAny_holding (wpAny_truthy_bool (wpAny_bind (wpAny_letGo (wpAny_pure ?_))))))))))
  cases hq : bt (j + 1) (argBest bt j) with
  | true =>
   simp only [if_true]
   refine wpAny_bind (wpAny_updateSeq gB' rfl (wpAny_bind (wpAny_letGo ?_)))
   rw [QgJ]
   refine wpAny_pure ⟨plainId_quiet F.plain_max_loop _, ih (j + 1) _ v _ (by omega) hlt (W.frame _ _ _ hst' fun x hx o e => ?_) (by simp only [argBest, hq, if_true]; exact hP) (Heap.get?_update_self _ gB' rfl) fun v' h2 tk2 hP2 k2 => ?_⟩
   ·exact (Heap.get?_update_other _ _ (fun q : B = x => hB (by rw [q]; exact hx))).trans e
   ·exact hR v' h2 tk2 hP2 fun x o hx hxB e => k2 x o hx hxB ((Heap.get?_update_other _ _ (Ne.symm hxB)).trans (kp x o hx e))
  | false =>
   simp only [Bool.false_eq_true, if_false]
   refine wpAny_bind (wpAny_letGo ?_)
   rw [QgJ]
   refine wpAny_pure ⟨plainId_quiet F.plain_max_loop _, ih (j + 1) _ b c (by omega) hlt hst' (by simp only [argBest, hq, Bool.false_eq_true, if_false]; exact hb) gB' fun v' h2 tk2 hP2 k2 => ?_⟩
   exact hR v' h2 tk2 hP2 fun x o hx hxB e => k2 x o hx hxB (kp x o hx e)
theorem mx_first (W : Walks prog w A.in1 J fp wr n P St) (bt : Nat->Nat->Bool) (hcmp : CmpOf prog w A.in1 .Gt P bt) (B : Addr) (hB : B ∉ fp) (d : Value) {z : Shared} {c : Nat} (hst : St 0 z.heap)
  (gB : z.heap.get? B = some { cls := .type "list", dict := none, data := .seq #[] c, slots := #[] })
  (hR : ∀ v h' tk, (if n = 0 then v = d else P (argBest bt (n - 1)) v)->(∀ x o, x ∉ wr->x ≠ B->z.heap.get? x = some o->h'.get? x = some o)->R (.ok (.ret v)) { z with heap := h', toks := tk }) :
  codeAny (model prog w) A (.builtin "max.loop" ⟨[.ref J, .none, .ref B], [(Str.ofString "default", d)]⟩) R z := by
 have hBw : B ∉ wr := fun q => hB (W.sub _ q)
 refine codeAny_builtin F.entry_max_loop ?_
 rw [Around.under_plainId F.plain_max_loop _]
 show wpAny _ A.in1 (seqItems? (.ref B) >>= _) _ _ z
 refine wpAny_bind (wpAny_seqItems gB rfl ?_)
 show wpAny _ A.in1 (tryCatch (pyNext (.ref J)) _ >>= _) _ _ z
 by_cases hn : n = 0
 ·refine wpAny_bind (wpAny_tryCatch (W.done z _ _ (hn ▸ hst) fun h' tk kp => ?_))
  refine wpAny_bind (wpAny_rule (wpAny_pure ?_))
  exact hR d h' tk (by rw [if_pos hn]) fun x o hx _ e => kp x o hx e
 ·refine wpAny_bind (wpAny_tryCatch (W.item 0 z _ _ (by omega) hst fun v h' tk hP hst' kp => ?_))
  have gB' := kp B _ hBw gB
  show wpAny _ A.in1 (updateSeq B (fun _ => #[v, v]) >>= _) _ _ _
  refine wpAny_bind (wpAny_updateSeq gB' rfl ?_)
  rw [QgJ]
  refine wpAny_pure ⟨plainId_quiet F.plain_max_loop _, mx_loop W bt hcmp B hB _ 0 _ v _ rfl (by omega) (W.frame _ _ _ hst' fun x hx o e => ?_) hP (Heap.get?_update_self _ gB' rfl) fun v' h2 tk2 hP2 k2 => ?_⟩
  ·exact (Heap.get?_update_other _ _ (fun q : B = x => hB (by rw [q]; exact hx))).trans e
  ·exact hR v' h2 tk2 (by rw [if_neg hn]; exact hP2) fun x o hx hxB e => k2 x o hx hxB ((Heap.get?_update_other _ _ (Ne.symm hxB)).trans (kp x o hx e))
end
theorem mx_args (a v : Value) : argsOk "max" ⟨[a], [(Str.ofString "default", v)]⟩ := by unfold argsOk; kernel_rfl
section
variable {prog : Program} {w : World} {A : Around} {E : Value->Shared->Prop} {s : Shared}
theorem Qnm {l : Addr} {us : Array Value} {d : Value} {bt : Nat->Nat->Bool} {Q : Value->Shared->Prop} (hh : A.handled = none) (hl : s.heap.IsList l us) (hcmp : CmpOf prog w A.in1 .Gt (fun i v => us[i]? = some v) bt)
  (k : ∀ v h' tk, (if us.size = 0 then v = d else us[argBest bt (us.size - 1)]? = some v)->(∀ x o, s.heap.get? x = some o->h'.get? x = some o)->Q v { s with heap := h', toks := tk }) :
  wpAny (model prog w) A (call (.builtin "max") [.ref l] [(Str.ofString "default", d)]) Q E s := by
 refine kmk_tree F.kind_max F.plain_max F.entry_max (mx_args _ _) ?_
 show wpAny _ A.in1 (Builtin.Builtins.bindParams "max" ["key", "default"] 0 ⟨[], [(Str.ofString "default", d)]⟩ >>= _) _ _ s
 refine wpAny_bind (wpAny_of_eq (show Builtin.Builtins.bindParams "max" ["key", "default"] 0 ⟨[], [(Str.ofString "default", d)]⟩ = pure [none, some d] from rfl) (wpAny_bind (wpAny_pure ?_)))
 have ll : l < s.heap.objs.size := by obtain ⟨o, e, _⟩ := hl; exact QnJ e
 refine wpAny_bind (wpAny_pyIter_list hl ?_)
 refine wpAny_bind (wpAny_newObj_type ?_)
 have W := Walks.list (prog := prog) (w := w) (A := A.in1) hh s.heap.objs.size l (QnS ll) us
 rw [QgJ]
 refine wpAny_pure ⟨plainId_quiet F.plain_max_loop _, mx_first W bt hcmp _ ?_ d ?_ (QnR _ rfl) fun v h' tk hv kp => ?_⟩
 ·have e1 : (s.heap.push { cls := .type "list_iterator", data := .fields #[.ref l, .int 0 0] }).objs.size = s.heap.objs.size + 1 := Heap.size_push ..
  intro q
  simp only [List.mem_cons, List.not_mem_nil, or_false] at q
  rcases q with q | q
  ·rw [e1] at q; exact absurd q (Nat.succ_ne_self _)
  ·rw [e1] at q; exact absurd q (Nat.ne_of_gt (Nat.lt_succ_of_lt ll))
 ·exact ⟨⟨_, QnG _ (QnR _ rfl), rfl, rfl⟩, hl.at fun o e => QnG _ (QnG _ e)⟩
 ·refine k v h' tk hv fun x o e => kp x o ?_ ?_ (QnG _ (QnG _ e))
  ·intro q
   simp only [List.mem_cons, List.not_mem_nil, or_false] at q
   exact absurd (QnJ e) (by rw [q]; exact QnY _)
  ·intro q
   have e1 : (s.heap.push { cls := .type "list_iterator", data := .fields #[.ref l, .int 0 0] }).objs.size = s.heap.objs.size + 1 := Heap.size_push ..
   have := QnJ e
   rw [q, e1] at this
   exact absurd this (Nat.not_lt.mpr (Nat.le_succ _))
end
end L2
namespace L2
open PySem PySem.Spec PyProof.Rows
section
open PySem.W
def runT {α : Type} (lt : Nat->Nat->Bool) : KasT α->α
 | .ret a => a
 | .ask i j k => runT lt (k (lt i j))
def AskP {α : Type} (n : Nat) (P : α->Prop) : KasT α->Prop
 | .ret a => P a
 | .ask i j k => i < n/\j < n/\∀ b, AskP n P (k b)
theorem AskP.bind {α β : Type} {n : Nat} {P : α->Prop} {P' : β->Prop} {f : α->KasT β} (hf : ∀ a, P a->AskP n P' (f a)) : ∀ t : KasT α, AskP n P t->AskP n P' (t.bind f)
 | .ret a, h => hf a h
 | .ask _ _ k, h => ⟨h.1, h.2.1, fun b => AskP.bind hf (k b) (h.2.2 b)⟩
theorem AskP.run {α : Type} {n : Nat} {P : α->Prop} {lt : Nat->Nat->Bool} : ∀ t : KasT α, AskP n P t->P (runT lt t)
 | .ret _, h => h
 | .ask i j k, h => AskP.run (k (lt i j)) (h.2.2 _)
theorem QiB {α : Type} {n : Nat} {P : α->Prop} {lt : Nat->Nat->Bool} {cmp : Nat->Nat->(Bool->Shared->Prop)->Shared->Prop} {Q : α->Shared->Prop} {s : Shared} (hc : ∀ i j C, i < n->j < n->C (lt i j) s->cmp i j C s) :
  ∀ t : KasT α, AskP n P t->Q (runT lt t) s->t.kasWp cmp Q s
 | .ret _, _, q => q
 | .ask i j k, h, q => hc i j _ h.1 h.2.1 (QiB hc (k (lt i j)) (h.2.2 _) q)
def Gd (n : Nat) (p : Array Nat) : Prop := p.size = n/\∀ x, x ∈ p->x < n
theorem Gd.get {n : Nat} {p : Array Nat} (g : Gd n p) (h : 0 < n) (i : Nat) : p.getD i 0 < n := by
 by_cases hi : i < p.size
 ·have e : p.getD i 0 = p[i] := by simp [hi]
  rw [e]; exact g.2 _ (Array.getElem_mem hi)
 ·have e : p.getD i 0 = 0 := by simp [hi]
  rw [e]; exact h
theorem Gd.perm {n : Nat} {p q : Array Nat} (g : Gd n p) (h : q.Perm p) : Gd n q := ⟨h.size_eq.trans g.1, fun x hx => g.2 x (h.mem_iff.mp hx)⟩
theorem Gd.rev {n : Nat} {p : Array Nat} (g : Gd n p) (i j : Nat) : Gd n (kas_rev p i j) := g.perm (mirror_perm _ _ _ _)
theorem Gd.bub {n : Nat} {p : Array Nat} (g : Gd n p) (i j : Nat) : Gd n (bubble p i j) := g.perm (bubble_perm _ _ _)
theorem Qjn {n : Nat} {p : Array Nat} (h : 0 < n) (g : Gd n p) : ∀ f m, AskP n (fun _ => True) (kas_asc p f m)
 | 0, _ => trivial
 | f + 1, m => ⟨g.get h _, g.get h _, fun b => by
  cases b with
  | true => exact trivial
  | false => exact Qjn h g f (m + 1)⟩
theorem QeI {n : Nat} (h : 0 < n) : ∀ f p m q, Gd n p->AskP n (fun r : Array Nat × Nat × Nat => Gd n r.1) (kas_desc f p m q)
 | 0, _, _, _, g => g
 | f + 1, p, m, q, g => ⟨g.get h _, g.get h _, fun b => by
  cases b with
  | true =>
   show AskP n _ (if q > 0 then kas_desc f (kas_rev p (m - (q + 1)) m) (m + 1) 0 else kas_desc f p (m + 1) 0)
   split
   ·exact QeI h f _ _ _ (g.rev _ _)
   ·exact QeI h f _ _ _ g
  | false =>
   refine ⟨g.get h _, g.get h _, fun d => ?_⟩
   cases d with
   | true => exact g
   | false => exact QeI h f _ _ _ g⟩
theorem Qiq {n : Nat} (h : 0 < n) {p : Array Nat} (g : Gd n p) (k m : Nat) : AskP n (fun r : Nat × Array Nat => Gd n r.2) (kas_tail3 k m p) := by
 unfold kas_tail3
 refine AskP.bind (P := fun _ => True) (fun _ _ => ?_) _ (Qjn h (g.rev 0 k) _ _)
 exact g.rev 0 k
theorem Qen {n : Nat} (h : 0 < n) {p : Array Nat} (g : Gd n p) (k m : Nat) : AskP n (fun r : Nat × Array Nat => Gd n r.2) (kas_descPart k m p) := by
 refine AskP.bind (fun r hr => ?_) _ (QeI h _ _ _ _ g)
 split
 ·exact Qiq h (hr.rev _ _) _ _
 ·exact Qiq h hr _ _
theorem Qnq {n : Nat} (h : 0 < n) {p : Array Nat} (g : Gd n p) (m : Nat) : AskP n (fun r : Nat × Array Nat => Gd n r.2) (kas_count m p) := by
 refine AskP.bind (fun r _ => ?_) _ (Qjn h g _ _)
 split
 ·exact g
 ·split
  ·refine ⟨g.get h _, g.get h _, fun b => ?_⟩
   cases b with
   | true => exact g
   | false => exact Qen h (g.rev _ _) _ _
  ·exact Qen h g _ _
theorem Qfu {n : Nat} (h : 0 < n) {p : Array Nat} (g : Gd n p) (k : Nat) : ∀ f l r, AskP n (fun _ => True) (kas_place p k f l r)
 | 0, _, _ => trivial
 | f + 1, l, r => by
  unfold kas_place
  split
  ·exact trivial
  ·refine ⟨g.get h _, g.get h _, fun b => ?_⟩
   cases b with
   | true => exact Qfu h g k f _ _
   | false => exact Qfu h g k f _ _
theorem Qnr {n : Nat} (h : 0 < n) : ∀ f p k, Gd n p->AskP n (Gd n) (kas_bin f p k)
 | 0, _, _, g => g
 | f + 1, _, k, g => AskP.bind (fun _ _ => Qnr h f _ _ (g.bub _ _)) _ (Qfu h g k _ _ _)
theorem QeH {n : Nat} (h : 0 < n) : AskP n (Gd n) (kas_sort n) := by
 have g0 : Gd n (List.toArray (List.range n)) := ⟨by simp, fun x hx => by simpa using hx⟩
 refine AskP.bind (fun r hr => ?_) _ (Qnq h g0 n)
 split
 ·exact Qnr h _ _ _ hr
 ·exact hr
def ordT (n : Nat) (lt : Nat->Nat->Bool) : List Nat := (runT lt (kas_sort n)).toList
theorem QdZ {n : Nat} (h : 0 < n) (lt : Nat->Nat->Bool) : (ordT n lt).length = n/\∀ i ∈ ordT n lt, i < n := by
 obtain ⟨h1, h2⟩ := AskP.run (lt := lt) _ (QeH h)
 exact ⟨by unfold ordT; rw [Array.length_toList]; exact h1, fun i hi => h2 i (Array.mem_toList_iff.mp hi)⟩
theorem QfN {α : Type} {n : Nat} {P : α->Prop} {lt lt' : Nat->Nat->Bool} (e : ∀ i j, i < n->j < n->lt i j = lt' i j) : ∀ t : KasT α, AskP n P t->runT lt t = runT lt' t
 | .ret _, _ => rfl
 | .ask i j k, h => by
  show runT lt (k (lt i j)) = runT lt' (k (lt' i j))
  rw [e i j h.1 h.2.1]
  exact QfN e _ (h.2.2 _)
theorem Qkq {n : Nat} (h : 0 < n) {lt lt' : Nat->Nat->Bool} (e : ∀ i j, i < n->j < n->lt i j = lt' i j) : ordT n lt = ordT n lt' := by
 unfold ordT; rw [QfN e _ (QeH h)]
end
section
variable {X : Cx}
def EqV (X : Cx) (H : Hp) (n : Nat) (x y : V) (b : Bool) : Prop := ∀ (pins : List (Addr × Obj)) (σ : St) (s : Shared) (u v : Value) (A : Around), Inv X pins σ H s->RelV x u->RelV y v->A.units + n < cLine->SeqAt.EqAt A s u v b
def LtV (X : Cx) (H : Hp) (n : Nat) (x y : V) (b : Bool) : Prop := ∀ (pins : List (Addr × Obj)) (σ : St) (s : Shared) (u v : Value) (A : Around), Inv X pins σ H s->RelV x u->RelV y v->A.units + n < cLine->RcLt A s u v b
theorem QgM {pins : List (Addr × Obj)} {σ : St} {H : Hp} {s : Shared} {c : Bool} (I : Inv X pins σ H s) {A : Around} {n : Nat} {Q : Bool->Shared->Prop} (hA : A.units + n < cLine) : ∀ {xs ys : List V} {r : Bool}, LtR (EqV X H n) (LtV X H n) xs ys r->xs.length = ys.length->∀ {us vs : List Value}, Vals xs us->Vals ys vs ->
  ∀ i, (c = false\/1<=i)->Q r s->PySem.W.KatLex X.prog X.w A c false Q (us.zip vs) i s
 | _, _, _, .nn, _, _, _, .nil, .nil, i, _, q => PySem.W.kat_nil q
 | _, _, _, .nc, hl, _, _, _, _, _, _, _ => by simp at hl
 | _, _, _, .cn, hl, _, _, _, _, _, _, _ => by simp at hl
 | _, _, _, .eq e h, hl, _, _, .cons r t, .cons r' t', i, hi, q => by
  rw [List.zip_cons_cons]
  refine PySem.W.kat_cons (e _ _ _ _ _ A I r r' hA _ _ _ _ (PySem.W.kat_yes ?_))
  exact QgM I hA h (by simpa using hl) t t' (i + 1) (.inr (by omega)) q
 | _, _, _, .ne e l, hl, _, _, .cons r t, .cons r' t', i, hi, q => by
  rw [List.zip_cons_cons]
  refine PySem.W.kat_cons (e _ _ _ _ _ A I r r' hA _ _ _ _ (PySem.W.kat_no ?_))
  have hb : (c && i == 0) = false := by
   rcases hi with hi | hi
   ·rw [hi]; rfl
   ·have : (i == 0) = false := by simp; omega
    rw [this]; simp
  rw [hb]
  exact PySem.W.kat_one _ _ (l _ _ _ _ _ A I r r' hA _ _ _ _ q)
def TupLt (X : Cx) (H : Hp) (n : Nat) (c : Bool) (xs ys : List V) (r : Bool) : Prop := xs.length = ys.length/\(if c = true then ∃ a d xs' ys', xs = .str a :: xs'/\ys = .str d :: ys'/\((a = d/\LtR (EqV X H n) (LtV X H n) xs' ys' r)\/(a ≠ d/\r = decide (a.cps.toList < d.cps.toList))) else LtR (EqV X H n) (LtV X H n) xs ys r)
theorem QhF {pins : List (Addr × Obj)} {σ : St} {H : Hp} {s : Shared} {c : Bool} (I : Inv X pins σ H s) {A : Around} {n : Nat} {Q : Bool->Shared->Prop} {E : Value->Shared->Prop} (hA : A.units + n < cLine) {p q : Addr} {xs ys : List V} {r : Bool} (hp : SqT X.K H p xs) (hq : SqT X.K H q ys) (h : TupLt X H n c xs ys r) (hQ : Q r s) :
  wpAny (model X.prog X.w) A (keyLt' (tuples' c) (.ref p) (.ref q)) Q E s := by
 obtain ⟨its1, v1, q1, _⟩ := I.tuple hp
 obtain ⟨its2, v2, q2, _⟩ := I.tuple hq
 obtain ⟨o1, ho1, hc1, n1, hd1⟩ := id q1
 obtain ⟨o2, ho2, hc2, n2, hd2⟩ := id q2
 obtain ⟨hl, h⟩ := h
 have len2 : its1.toArray.size = its2.toArray.size := by rw [QnK, QnK, <-v1.length, <-v2.length, hl]
 have efin : decide (its1.toArray.size < its2.toArray.size) = false := by rw [len2]; exact decide_eq_false (QnY _)
 refine PySem.W.kat_lt ho1 hd1 ho2 hd2 ?_
 rw [efin]
 cases c with
 | false => exact QgM I hA h hl v1 v2 0 (.inl rfl) hQ
 | true =>
  obtain ⟨a, d, xs', ys', rfl, rfl, h⟩ := h
  cases v1 with
  | cons ra t =>
   cases v2 with
   | cons rd t' =>
    obtain ⟨ta, rfl⟩ := ra
    obtain ⟨td, rfl⟩ := rd
    show PySem.W.KatLex X.prog X.w A true false Q ((_, _) :: _) 0 s
    rcases h with ⟨rfl, h⟩ | ⟨hne, rfl⟩
    ·refine PySem.W.kat_cons (QmU I 0 (.str a) (.str a) true _ _ A ⟨rfl, rfl, by simp [eqV]⟩ ⟨_, rfl⟩ ⟨_, rfl⟩ (by omega) _ _ _ _ (PySem.W.kat_yes ?_))
     exact QgM I hA h (by simpa using hl) t t' 1 (.inr (QnL _)) hQ
    ·refine PySem.W.kat_cons (QmU I 0 (.str a) (.str d) false _ _ A ⟨rfl, rfl, by simp [eqV, hne]⟩ ⟨_, rfl⟩ ⟨_, rfl⟩ (by omega) _ _ _ _ (PySem.W.kat_no ?_))
     show wpAny _ _ (oneLt' true _ _) _ _ _
     exact oneLt_str hQ
end
end L2
namespace L2
open PySem PySem.Spec PyProof.Rows
section
variable {κ : Type} [DecidableEq κ]
def valV (kvs : List (κ × V)) (k : κ) : Option V := (kvs.find? fun kv => decide (kv.1 = k)).map (·.2)
def putK (kvs : List (κ × V)) (k : κ) (v : V) : List (κ × V) :=
 if (kvs.any fun kv => decide (kv.1 = k)) = true then kvs.map (fun kv => if kv.1 = k then (kv.1, v) else kv) else kvs ++ [(k, v)]
theorem Qev {p : κ × V} {r : List (κ × V)} {k : κ} (e : p.1 = k) : valV (p :: r) k = some p.2 := by simp [valV, List.find?_cons, e]
theorem Qew {p : κ × V} {r : List (κ × V)} {k : κ} (e : ¬ p.1 = k) : valV (p :: r) k = valV r k := by simp [valV, List.find?_cons, e]
theorem Qjs (k : κ) : ∀ kvs : List (κ × V), (kvs.any fun kv => decide (kv.1 = k)) = (valV kvs k).isSome
 | [] => rfl
 | p :: r => by
  rw [List.any_cons]
  by_cases e : p.1 = k
  ·simp only [Qev e, decide_eq_true e, Bool.true_or, Option.isSome_some]
  ·rw [Qew e, decide_eq_false e, Bool.false_or]; exact Qjs k r
theorem Qfb (kvs : List (κ × V)) (k : κ) (v : V) : (putK kvs k v).length<=kvs.length + 1 := by
 unfold putK
 split
 ·rw [QnM]; omega
 ·rw [QnO, QnU, List.length_nil]; omega
theorem RelO.isSome_eq {o : Option V} {u : Option Value} (r : RelO o u) : o.isSome = u.isSome := by
 cases o with
 | none => cases u with
  | none => rfl
  | some _ => exact (show False from r).elim
 | some _ => cases u with
  | none => exact (show False from r).elim
  | some _ => rfl
theorem RelO.getD {o : Option V} {u : Option Value} {d : V} {d' : Value} (r : RelO o u) (rd : RelV d d') : RelV (o.getD d) (u.getD d') := by
 cases o with
 | none => cases u with
  | none => exact rd
  | some _ => exact (show False from r).elim
 | some _ => cases u with
  | none => exact (show False from r).elim
  | some _ => exact r
theorem KV.val {kvs : List (κ × V)} {vs : List (κ × Value)} (r : KV kvs vs) (k : κ) : RelO (valV kvs k) (valueAt vs k) := by
 unfold KV at r
 induction r with
 | nil => exact True.intro
 | @cons p q ps qs h t ih =>
  obtain ⟨h1, h2⟩ := h
  by_cases e : p.1 = k
  ·have e' : q.1 = k := h1.symm.trans e
   have b : valueAt (q :: qs) k = some q.2 := by simp [valueAt, List.find?_cons, e']
   rw [Qev e, b]; exact h2
  ·have e' : ¬ q.1 = k := fun z => e (h1.trans z)
   have b : valueAt (q :: qs) k = valueAt qs k := by simp [valueAt, List.find?_cons, e']
   rw [Qew e, b]; exact ih
theorem KV.any {kvs : List (κ × V)} {vs : List (κ × Value)} (r : KV kvs vs) (k : κ) : (kvs.any fun kv => decide (kv.1 = k)) = vs.any fun kv => decide (kv.1 = k) := by
 unfold KV at r
 induction r with
 | nil => rfl
 | cons h t ih => rw [List.any_cons, List.any_cons, ih, h.1]
theorem KV.repl {kvs : List (κ × V)} {vs : List (κ × Value)} (r : KV kvs vs) (k : κ) {y : V} {u : Value} (ry : RelV y u) :
  KV (kvs.map fun kv => if kv.1 = k then (kv.1, y) else kv) (vs.map fun kv => if kv.1 = k then (kv.1, u) else kv) := by
 unfold KV at r ⊢
 induction r with
 | nil => exact .nil
 | @cons p q ps qs h t ih =>
  rw [List.map_cons, List.map_cons]
  refine .cons ?_ ih
  obtain ⟨h1, h2⟩ := h
  by_cases e : p.1 = k
  ·rw [if_pos e, if_pos (h1.symm.trans e)]; exact ⟨h1, ry⟩
  ·rw [if_neg e, if_neg (fun z => e (h1.trans z))]; exact ⟨h1, h2⟩
theorem KV.put {kvs : List (κ × V)} {vs : List (κ × Value)} (r : KV kvs vs) (k : κ) {y : V} {u : Value} (ry : RelV y u) : KV (putK kvs k y) (stored vs k u) := by
 unfold putK stored
 rw [r.any k]
 by_cases e : (vs.any fun kv => decide (kv.1 = k)) = true
 ·rw [if_pos e, if_pos e]; exact r.repl k ry
 ·rw [if_neg e, if_neg e]; exact Paired.snoc r ⟨rfl, ry⟩
theorem KV.length {kvs : List (κ × V)} {vs : List (κ × Value)} (r : KV kvs vs) : kvs.length = vs.length := Paired.length r
end
theorem QiV {P : Program} {w : World} {k : Key} {u : Value} (r : RelV (kV k) u) : (QaU P w).is k u = true := by
 cases k with
 | inl i => obtain ⟨t, e⟩ := (show ∃ t, u = Value.int i t from r); subst e; exact QiR P w i t
 | inr x => obtain ⟨t, e⟩ := (show ∃ t, u = Value.str x t from r); subst e; exact QiQ P w x t
theorem QhH {P : Program} {w : World} : ∀ {ks : List Key} {us : List Value}, Vals (ks.map kV) us->ItemsAre (QaU P w) ks us
 | [], _, r => by rw [List.map_nil] at r; cases r; exact .nil
 | k :: ks, _, r => by
  rw [List.map_cons] at r
  cases r with
  | cons h t => exact .cons (QiV h) (QhH t)
abbrev KT (H : Hp) : List (List Key × V)->List (List Key × Addr × Value)->Prop := Paired fun p q => p.1 = q.1/\H q.2.1 = some (.tup (p.1.map kV))/\RelV p.2 q.2.2
theorem KT.val {H : Hp} {kvs : List (List Key × V)} {xs : List (List Key × Addr × Value)} (r : KT H kvs xs) (k : List Key) : RelO (valV kvs k) ((atKey xs k).map (·.2)) := by
 induction r with
 | nil => exact True.intro
 | @cons p q ps qs h t ih =>
  obtain ⟨h1, _, h2⟩ := h
  by_cases e : p.1 = k
  ·have e' : q.1 = k := h1.symm.trans e
   have b : atKey (q :: qs) k = some q.2 := by simp [atKey, List.find?_cons, e']
   rw [Qev e, b]; exact h2
  ·have e' : ¬ q.1 = k := fun z => e (h1.trans z)
   have b : atKey (q :: qs) k = atKey qs k := by simp [atKey, List.find?_cons, e']
   rw [Qew e, b]; exact ih
theorem KT.repl {H : Hp} {kvs : List (List Key × V)} {xs : List (List Key × Addr × Value)} (r : KT H kvs xs) (k : List Key) {y : V} {u : Value} (ry : RelV y u) :
  KT H (kvs.map fun kv => if kv.1 = k then (kv.1, y) else kv) (xs.map (putAt k u)) := by
 induction r with
 | nil => exact .nil
 | @cons p q ps qs h t ih =>
  rw [List.map_cons, List.map_cons]
  refine .cons ?_ ih
  obtain ⟨h1, h2, h3⟩ := h
  unfold putAt
  by_cases e : p.1 = k
  ·rw [if_pos e, if_pos (h1.symm.trans e)]; exact ⟨h1, h2, ry⟩
  ·rw [if_neg e, if_neg (fun z => e (h1.trans z))]; exact ⟨h1, h2, h3⟩
theorem KT.put {H : Hp} {kvs : List (List Key × V)} {xs : List (List Key × Addr × Value)} (r : KT H kvs xs) (k : List Key) {b : Addr} {y : V} {u : Value} (hb : H b = some (.tup (k.map kV))) (ry : RelV y u) :
  KT H (putK kvs k y) (storedH xs k b u) := by
 have e : (kvs.any fun kv => decide (kv.1 = k)) = (atKey xs k).isSome := by
  rw [Qjs, (r.val k).isSome_eq, Option.isSome_map]
 unfold putK storedH
 rw [e]
 by_cases q : (atKey xs k).isSome = true
 ·rw [if_pos q, if_pos q]; exact r.repl k ry
 ·rw [if_neg q, if_neg q]; exact Paired.snoc r ⟨rfl, hb, ry⟩
theorem KT.keeps {H H' : Hp} {kvs : List (List Key × V)} {xs : List (List Key × Addr × Value)} (r : KT H kvs xs) (ht : ∀ b ys, H b = some (.tup ys)->H' b = some (.tup ys)) : KT H' kvs xs :=
 Paired.mapP r fun _ _ z => ⟨z.1, ht _ _ z.2.1, z.2.2⟩
section
variable {P : Program} {w : World} {H : Hp} {h : Heap} {a : Addr}
theorem rd_of {u : HO} (ok : HOk P w H h) (e : Rd H a u) : Qbr P w H h a u := e.ok ok
theorem Qjd {kvs : List (Key × V)} (ok : HOk P w H h) (e : Rd H a (.dK kvs)) : kvs.length<=sizeLine/\(a == sysModules) = false/\∃ vs, KV kvs vs/\h.DictOf (QaU P w) a vs :=
 show Qbr P w H h a (.dK kvs) from rd_of ok e
theorem dk_of {kvs : List (Key × V)} (ok : HOk P w H h) (e : H a = some (.dK kvs)) : kvs.length<=sizeLine/\(a == sysModules) = false/\∃ vs, KV kvs vs/\h.DictOf (QaU P w) a vs := Qjd ok (.inl e)
theorem Qff {ks : List Key} (ok : HOk P w H h) (e : H a = some (.tup (ks.map kV))) : (tupleKind (QaU P w)).is h ks a := by
 obtain ⟨_, its, r, o, h1, h2, n, h3⟩ := (show Qbr P w H h a (.tup (ks.map kV)) from ok a _ e)
 exact ⟨o, its.toArray, n, h1, h2, h3, by simpa using QhH r⟩
theorem Qjc {kvs : List (List Key × V)} (ok : HOk P w H h) (e : Rd H a (.dT kvs)) : kvs.length<=sizeLine/\(a == sysModules) = false /\
  ∃ xs, KT H kvs xs/\h.DictOfH (tupleKind (QaU P w)) a xs := by
 obtain ⟨z, y, xs, r, o, es, ep, h1, h2, h3, h4, h5⟩ := (show Qbr P w H h a (.dT kvs) from rd_of ok e)
 refine ⟨z, y, xs, r, o, es, ep, h1, h2, h3, h4, fun x hx => ?_, h5⟩
 have all : ∀ {l : List (List Key × V)} {m : List (List Key × Addr × Value)}, KT H l m->∀ x ∈ m, (tupleKind (QaU P w)).is h x.1 x.2.1 := by
  intro l m q
  induction q with
  | nil => intro x hx; exact nomatch hx
  | @cons p q ps qs hq t ih =>
   intro x hx
   rcases List.mem_cons.mp hx with e | hx
   ·subst e
    exact Qff ok (by rw [<-hq.1]; exact hq.2.1)
   ·exact ih x hx
 exact all r x hx
theorem dt_of {kvs : List (List Key × V)} (ok : HOk P w H h) (e : H a = some (.dT kvs)) : kvs.length<=sizeLine/\(a == sysModules) = false /\
  ∃ xs, KT H kvs xs/\h.DictOfH (tupleKind (QaU P w)) a xs := Qjc ok (.inl e)
end
def DGet (H : Hp) (a : Addr) (y : V) (r : Option V) : Prop :=
 (∃ kvs k, Rd H a (.dK kvs)/\y = kV k/\r = valV kvs k)\/∃ kvs k b, Rd H a (.dT kvs)/\y = .ref b/\H b = some (.tup (k.map kV))/\r = valV kvs k
def DPut (H : Hp) (a : Addr) (y v : V) (H' : Hp) : Prop :=
 (∃ kvs k, H a = some (.dK kvs)/\y = kV k/\kvs.length < sizeLine/\H' = upd H a (.dK (putK kvs k v))) ∨
 ∃ kvs k b, H a = some (.dT kvs)/\y = .ref b/\H b = some (.tup (k.map kV))/\kvs.length < sizeLine/\H' = upd H a (.dT (putK kvs k v))
theorem DGet.t {H : Hp} {a b : Addr} {kvs : List (List Key × V)} {k : List Key} (e : H a = some (.dT kvs)) (eb : H b = some (.tup (k.map kV))) : DGet H a (.ref b) (valV kvs k) := .inr ⟨kvs, k, b, .inl e, rfl, eb, rfl⟩
theorem DPut.t {H : Hp} {a b : Addr} {kvs : List (List Key × V)} {k : List Key} {v : V} (e : H a = some (.dT kvs)) (eb : H b = some (.tup (k.map kV))) (hl : kvs.length < sizeLine) :
  DPut H a (.ref b) v (upd H a (.dT (putK kvs k v))) := .inr ⟨kvs, k, b, e, rfl, eb, hl, rfl⟩
section
variable {X : Cx} {pins : List (Addr × Obj)} {σ : St} {H : Hp} {s : Shared} {a : Addr} {y v : V} {u r : Value} {o : Option V} {A : Around} {E : Value->Shared->Prop}
theorem Inv.big (I : Inv X pins σ H s) : sysModules < s.heap.objs.size := by
 have h : mainGlobals < s.heap.objs.size := (I.mod.glob.keeps I.bk).lt
 exact Nat.lt_trans (by decide) h
theorem Qnd {Q : Value->Shared->Prop} (hu : A.units + 1 < cLine) (I : Inv X pins σ H s) (g : DGet H a y (some v)) (ry : RelV y u) (h : ∀ w' s', Inv X pins σ H s'->RelV v w'->Q w' s') :
  wpAny (model X.prog X.w) A (getItem (.ref a) u) Q E s := by
 rcases g with ⟨kvs, k, e, ey, l⟩ | ⟨kvs, k, b, e, ey, eb, l⟩
 ·subst ey
  obtain ⟨z, hd, vs, rel, dd⟩ := Qjd I.hok e
  obtain ⟨w', hw, rw'⟩ := RelO.some_of (v := v) (o := valueAt vs k) (by rw [l]; exact rel.val k)
  exact wpAny_getItem_of (QiV ry) dd.mapOf hw (h w' _ (I.tok _) rw')
 ·subst ey
  cases (show u = Value.ref b from ry)
  obtain ⟨z, hd, xs, rel, dd⟩ := Qjc I.hok e
  obtain ⟨w', hw, rw'⟩ := RelO.some_of (v := v) (o := (atKey xs k).map (·.2)) (by rw [l]; exact rel.val k)
  obtain ⟨p, hp, hp2⟩ := Option.map_eq_some_iff.mp hw
  refine wpAny_getItem_heap (tupleKind_room_in1 hu) (Qff I.hok eb) dd hp ?_
  rw [hp2]
  exact h w' _ (I.tok _) rw'
theorem d_in {Q : Value->Shared->Prop} (hu : A.units + 1 < cLine) (I : Inv X pins σ H s) (g : DGet H a y o) (ry : RelV y u) (h : ∀ s', Inv X pins σ H s'->Q (.bool o.isSome) s') :
  wpAny (model X.prog X.w) A (compareOp .In u (.ref a)) Q E s := by
 rcases g with ⟨kvs, k, e, ey, l⟩ | ⟨kvs, k, b, e, ey, eb, l⟩
 ·subst ey
  obtain ⟨z, hd, vs, rel, dd⟩ := Qjd I.hok e
  refine wpAny_in_of (QiV ry) hd dd.mapOf ?_
  rw [<-(rel.val k).isSome_eq, <-l]
  exact h _ (I.tok _)
 ·subst ey
  cases (show u = Value.ref b from ry)
  obtain ⟨z, hd, xs, rel, dd⟩ := Qjc I.hok e
  refine wpAny_in_heap (tupleKind_room_in1 hu) (Qff I.hok eb) hd dd ?_
  have q := (rel.val k).isSome_eq
  rw [Option.isSome_map] at q
  rw [<-q, <-l]
  exact h _ (I.tok _)
theorem d_notIn {Q : Value->Shared->Prop} (hu : A.units + 1 < cLine) (I : Inv X pins σ H s) (g : DGet H a y o) (ry : RelV y u) (h : ∀ s', Inv X pins σ H s'->Q (.bool (!o.isSome)) s') :
  wpAny (model X.prog X.w) A (compareOp .NotIn u (.ref a)) Q E s := by
 rcases g with ⟨kvs, k, e, ey, l⟩ | ⟨kvs, k, b, e, ey, eb, l⟩
 ·subst ey
  obtain ⟨z, hd, vs, rel, dd⟩ := Qjd I.hok e
  refine wpAny_notIn_of (QiV ry) hd dd.mapOf ?_
  rw [<-(rel.val k).isSome_eq, <-l]
  exact h _ (I.tok _)
 ·subst ey
  cases (show u = Value.ref b from ry)
  obtain ⟨z, hd, xs, rel, dd⟩ := Qjc I.hok e
  refine wpAny_notIn_heap (tupleKind_room_in1 hu) (Qff I.hok eb) hd dd ?_
  have q := (rel.val k).isSome_eq
  rw [Option.isSome_map] at q
  rw [<-q, <-l]
  exact h _ (I.tok _)
theorem Qnb {h' : Heap} {t' : Nat} {ob : HO} (I : Inv X pins σ H s) (mu : Mut (H a)) (hs : Heap.SameBut a s.heap h') (he : ∃ q, h'.get? a = some q) (new : Qbr X.prog X.w (upd H a ob) h' a ob) :
  Inv X pins σ (upd H a ob) { s with heap := h', toks := t' } :=
 I.write (x := a) (e := a) mu (.inl rfl) (fun b q hb z => (hs.2 b hb).trans z) he new
theorem dk_new {P : Program} {w : World} {H' : Hp} {h' : Heap} {kvs : List (Key × V)} {vs : List (Key × Value)} (z : kvs.length<=sizeLine) (hd : (a == sysModules) = false) (rel : KV kvs vs) (dd : h'.DictOf (QaU P w) a vs) :
  Qbr P w H' h' a (.dK kvs) := ⟨z, hd, vs, rel, dd⟩
theorem Qnc {H' : Hp} {Q : Unit->Shared->Prop} (hu : A.units + 1 < cLine) (I : Inv X pins σ H s) (g : DPut H a y v H') (ry : RelV y u) (rv : RelV v r) (h : ∀ s', Inv X pins σ H' s'->Q () s') :
  wpAny (model X.prog X.w) A (setItem (.ref a) u r) Q E s := by
 rcases g with ⟨kvs, k, e, ey, l, eH⟩ | ⟨kvs, k, b, e, ey, eb, l, eH⟩
 ·subst ey eH
  obtain ⟨z, hd, vs, rel, dd⟩ := dk_of I.hok e
  have hz : vs.length<=sizeLine := by rw [<-rel.length]; exact z
  have hl : (putK kvs k v).length<=sizeLine := by have := Qfb kvs k v; omega
  refine wpAny_setItem_pairs (hsz := hz) (QiV ry) dd fun h' dd' hs => h _ ?_
  have he : ∃ q, h'.get? a = some q := let ⟨q, _, _, hq, _⟩ := dd'; ⟨q, hq⟩
  exact Qnb I (by rw [e]; exact True.intro) hs he (dk_new hl hd (rel.put k rv) dd')
 ·subst ey eH
  cases (show u = Value.ref b from ry)
  obtain ⟨z, hd, xs, rel, dd⟩ := dt_of I.hok e
  have hz : xs.length<=sizeLine := by rw [<-Paired.length rel]; exact z
  have hl : (putK kvs k v).length<=sizeLine := by have := Qfb kvs k v; omega
  refine wpAny_setItem_heap (hsz := hz) (tupleKind_room_in1 hu) (Qff I.hok eb) dd fun h' dd' hs => h _ ?_
  obtain ⟨q, es, ep, hq, h2, h3, h4, _, h5⟩ := dd'
  refine Qnb I (by rw [e]; exact True.intro) hs ⟨q, hq⟩ ⟨hl, hd, _, (rel.put k eb rv).keeps fun c ys ec => ?_, q, es, ep, hq, h2, h3, h4, h5⟩
  rw [Qan (ne_of ec e (fun z => nomatch z))]
  exact ec
end
section
variable {X : Cx} {pins : List (Addr × Obj)} {σ : St} {H : Hp} {s : Shared} {a : Addr} {kvs : List (Key × V)} {k : Key} {u : Value} {A : Around} {E : Value->Shared->Prop}
end
def NoSl (i : Expr) : Prop := ∀ ov iv, subscripted i false ov iv = operate [ov, iv] (getItem ov iv)
theorem subD_of {prog : Program} {w : World} {A : Around} {E : Value->Shared->Prop} {s : Shared} {env : Env} {value slice : Expr} {pos : Pos} {T id : String} {Q : Value->Shared->Prop}
  (hl : typeLookup (.type T) "__getitem__" = pure (some (.builtin id))) (hs : NoSl slice)
  (h : wpAny (model prog w) A (eval value env) (fun o s₁ => wpAny (model prog w) A (eval slice env) (fun i s₂ => s₂.TypeIs o T/\wpAny (model prog w) A (getItem o i) Q E s₂) E s₁) E s) :
  wpAny (model prog w) A (eval (.Subscript value slice pos) env) Q E s := by
 refine Subscript_ (wpAny_mono h (fun o s₁ h₁ => wpAny_mono h₁ (fun i s₂ h₂ => ?_) fun _ _ x => x) fun _ _ x => x)
 obtain ⟨hT, h₂⟩ := h₂
 unfold subscriptTail
 refine wpAny_bind ?_
 rw [getitemInPython_of_ne hT.not_modules]
 refine wpAny_bind (wpAny_specialOf hT hl ?_)
 have fin : wpAny (model prog w) A (subscripted slice false o i) (fun r s₃ => wpAny (model prog w) A (letTemporaryGo value o r >>= fun _ => pure r) Q E s₃) E s₂ := by
  rw [hs o i]
  exact wpAny_operating (wpAny_mono h₂ (fun r s₃ h₃ => wpAny_bind (wpAny_letTemporaryGo (wpAny_pure h₃))) fun _ _ x => x)
 first
  | exact wpAny_pure (wpAny_bind fin)
  | exact wpAny_bind (wpAny_pure (wpAny_bind fin))
  | exact wpAny_bind fin
theorem Qje {X : Cx} {pins : List (Addr × Obj)} {σ : St} {H : Hp} {s : Shared} {a : Addr} {y : V} {o : Option V} (I : Inv X pins σ H s) (g : DGet H a y o) : s.TypeIs (.ref a) "dict" := by
 rcases g with ⟨kvs, k, e, _, _⟩ | ⟨kvs, k, b, e, _, _, _⟩
 ·obtain ⟨_, _, vs, _, dd⟩ := Qjd I.hok e
  exact dd.typeIs
 ·obtain ⟨_, _, xs, _, dd⟩ := Qjc I.hok e
  exact dd.typeIs
def tDGet (td ty : TE) : TE := fun σ H Q => td σ H fun x H1 => ty σ H1 fun y H2 => ∃ a v, x = .ref a/\DGet H2 a y (some v)/\Q v H2
def sDPut (td ty tv : TE) : TS := fun D σ H => tv σ H fun v H1 => td σ H1 fun x H2 => ty σ H2 fun y H3 => ∃ a H4, x = .ref a/\DPut H3 a y v H4/\D.nx σ H4
section
variable {X : Cx} {o i e value : Expr} {pos pos' tpos : Pos} {td ty tv : TE}
theorem pe_dget (hu : X.A.units + 1 < cLine) (ho : PE X o td) (hi : PE X i ty) (hs : NoSl i) : PE X (.Subscript o i pos) (tDGet td ty) := by
 intro pins s σ H Q I h
 refine subD_of PySem.F.slot_dict_getitem.lookup hs (thn (ho pins s σ H _ I h) fun u s1 ⟨x, H1, I1, rx, q1⟩ => thn (hi pins s1 σ H1 _ I1 q1) fun iv s2 ⟨y, H2, I2, ry, a, v, ex, g, q2⟩ => ?_)
 subst ex
 obtain rfl : u = Value.ref a := rx
 exact ⟨Qje I2 g, Qnd hu I2 g ry fun w' s3 I3 rw' => ⟨v, H2, I3, rw', q2⟩⟩
theorem ps_dput (hu : X.A.units + 1 < cLine) (ho : PE X o td) (hi : PE X i ty) (hv : PE X value tv) (hs : swapsWith value (some (.Subscript o i pos')) pos.line X.env = pure false) :
  PS X (.Assign [.Subscript o i pos'] value pos) (sDPut td ty tv) := by
 intro pins s σ H D I h
 refine wpAny_Assign_Subscript (thn (hv pins s σ H _ I h) fun r s1 ⟨v, H1, I1, rv, q1⟩ => thn (ho pins s1 σ H1 _ I1 q1) fun u s2 ⟨x, H2, I2, rx, q2⟩ => thn (hi pins s2 σ H2 _ I2 q2) fun iv s3 ⟨y, H3, I3, ry, a, H4, ex, g, q3⟩ => ?_) hs
 subst ex
 obtain rfl : u = Value.ref a := rx
 exact Qnc hu I3 g ry rv fun s4 I4 => ⟨σ, H4, I4, q3⟩
end
theorem dt_empty {P : Program} {w : World} {H : Hp} (h : Heap) (hb : sysModules < h.objs.size) : Qbr P w H (h.push { cls := .type "dict", data := .dict #[] }) h.objs.size (.dT []) :=
 ⟨Nat.zero_le _, beq_eq_false_iff_ne.mpr (Ne.symm (QnS hb)), [], .nil, _, #[], 0, QnR _ rfl, ⟨rfl, rfl, rfl⟩, rfl, rfl, List.nodup_nil⟩
def tDNewT : TE := fun _ H Q => ∀ p, H p = none->Q (.ref p) (upd H p (.dT []))
section
variable {X : Cx} {pos : Pos}
theorem QjA : PE X (.Dict [] [] pos) tDNewT := fun pins s σ H Q I h =>
 wpAny_Dict_empty ⟨.ref s.heap.objs.size, _, I.laid (a := s.heap.objs.size) (o := .dT []) (t' := s.toks) (fun _ _ q => QnG _ q) (QnL _) (dt_empty s.heap I.big), rfl, h _ (I.hok.fresh (QnL _))⟩
end
section
variable {X : Cx} {pins : List (Addr × Obj)} {σ : St} {H : Hp} {s : Shared} {a : Addr} {y d : V} {u r : Value} {o : Option V} {A : Around} {E : Value->Shared->Prop}
theorem d_get1 {Q : Value->Shared->Prop} (hu : A.units + 1 < cLine) (I : Inv X pins σ H s) (g : DGet H a y o) (ry : RelV y u) (h : ∀ w' s', Inv X pins σ H s'->RelV (o.getD .non) w'->Q w' s') :
  wpAny (model X.prog X.w) A (call (.builtin "dict.get") [.ref a, u]) Q E s := by
 rcases g with ⟨kvs, k, e, ey, l⟩ | ⟨kvs, k, b, e, ey, eb, l⟩
 ·subst ey
  obtain ⟨z, hd, vs, rel, dd⟩ := Qjd I.hok e
  refine call_meetsIn PySem.F.slot_dict_get dd.typeIs PySem.F.entry_dict_get (PySem.F.args_dict_get_2 _ _) (meets_dict_get (QaU X.prog X.w) a (QiV ry) hd) ⟨_, dd.mapOf, h _ _ (I.tok _) ?_⟩
  rw [l]
  exact (rel.val k).getD rfl
 ·subst ey
  cases (show u = Value.ref b from ry)
  obtain ⟨z, hd, xs, rel, dd⟩ := Qjc I.hok e
  refine call_meetsIn PySem.F.slot_dict_get dd.typeIs PySem.F.entry_dict_get (PySem.F.args_dict_get_2 _ _) (meetsH_dict_get (tupleKind (QaU X.prog X.w)) a b hd) ⟨tupleKind_room_in1 hu, k, xs, Qff I.hok eb, dd, h _ _ (I.tok _) ?_⟩
  rw [l]
  exact (rel.val k).getD rfl
theorem d_get2 {Q : Value->Shared->Prop} (hu : A.units + 1 < cLine) (I : Inv X pins σ H s) (g : DGet H a y o) (ry : RelV y u) (rd : RelV d r) (h : ∀ w' s', Inv X pins σ H s'->RelV (o.getD d) w'->Q w' s') :
  wpAny (model X.prog X.w) A (call (.builtin "dict.get") [.ref a, u, r]) Q E s := by
 rcases g with ⟨kvs, k, e, ey, l⟩ | ⟨kvs, k, b, e, ey, eb, l⟩
 ·subst ey
  obtain ⟨z, hd, vs, rel, dd⟩ := Qjd I.hok e
  refine call_meetsIn PySem.F.slot_dict_get dd.typeIs PySem.F.entry_dict_get (PySem.F.args_dict_get_3 _ _ _) (meets_dict_get_default (QaU X.prog X.w) a (QiV ry) hd r) ⟨_, dd.mapOf, h _ _ (I.tok _) ?_⟩
  rw [l]
  exact (rel.val k).getD rd
 ·subst ey
  cases (show u = Value.ref b from ry)
  obtain ⟨z, hd, xs, rel, dd⟩ := Qjc I.hok e
  refine call_meetsIn PySem.F.slot_dict_get dd.typeIs PySem.F.entry_dict_get (PySem.F.args_dict_get_3 _ _ _) (meetsH_dict_get_default (tupleKind (QaU X.prog X.w)) a b hd r) ⟨tupleKind_room_in1 hu, k, xs, Qff I.hok eb, dd, h _ _ (I.tok _) ?_⟩
  rw [l]
  exact (rel.val k).getD rd
end
section
variable {X : Cx} {o e f : Expr} {apos cpos : Pos} {td ty tx : TE}
end
section
variable {X : Cx} {pins : List (Addr × Obj)} {σ : St} {H : Hp} {s : Shared} {a : Addr} {kvs : List (Key × V)} {A : Around} {E : Value->Shared->Prop}
end
section
variable {X : Cx} {pins : List (Addr × Obj)} {σ : St} {H : Hp} {s : Shared} {a : Addr} {y : V} {u : Value} {A : Around} {E : Value->Shared->Prop}
end
end L2
namespace DL
open PySem PySem.Spec PyProof.Rows L2
abbrev St := L2.St
abbrev DKey := List Key
abbrev dKo (kvs : List (DKey × V)) : HO := .dT kvs
inductive W where
 | non | bl (b : Bool) | int (i : Int) | str (x : Str) | ty (n : String)
 | tup (xs : List W) | lst (xs : List W) | dct (ks : List DKey) (vs : List W) | ref (n : Nat) | exn (x : Str)
instance : Inhabited W := ⟨.non⟩
def kT : Bool := false
inductive MO where
 | lst (xs : List W) | dct (ks : List DKey) (vs : List W)
structure S where
 nxt : Nat
 mu : Nat->Option MO
inductive R (α : Type) where
 | ok (a : α) (s : S) | ex (c : W) (s : S) | stuck
def R.bind {α β : Type} (r : R α) (f : α->S->R β) : R β := match r with
 | .ok a s => f a s
 | .ex c s => .ex c s
 | .stuck => .stuck
abbrev Ga := List (Option W)
section
variable (K : PySem.W.Frag) (ι : Nat->Addr) (N : Nat) (G : Hp)
mutual
inductive RelW : V->W->Prop
 | non : RelW .non .non
 | bl (b : Bool) : RelW (.bl b) (.bl b)
 | int (i : Int) : RelW (.int i) (.int i)
 | str (x : Str) : RelW (.str x) (.str x)
 | ty (n : String) : RelW (.ty n) (.ty n)
 | tup {a : Addr} {xs : List V} {ws : List W} : SqT K G a xs->(kT = false->G a = some (.tup xs))->RelWs xs ws->RelW (.ref a) (.tup ws)
 | lst {a : Addr} {xs : List V} {ws : List W} : SqL K G a xs->RelWs xs ws->RelW (.ref a) (.lst ws)
 | dct {a : Addr} {xs : List V} {ks : List DKey} {ws : List W} : G a = some (dKo (ks.zip xs))->xs.length = ks.length->RelWs xs ws->RelW (.ref a) (.dct ks ws)
 | ref {n : Nat} : n < N->RelW (.ref (ι n)) (.ref n)
 | exn {a C : Addr} {x : Str} : G a = some (.ext (exPh a (.ref C)))->PySem.W.nsIn K mainGlobals x = some (some (.ref C))->RelW (.ref a) (.exn x)
inductive RelWs : List V->List W->Prop
 | nil : RelWs [] []
 | cons {x : V} {w : W} {xs : List V} {ws : List W} : RelW x w->RelWs xs ws->RelWs (x :: xs) (w :: ws)
end
end
structure Ext (ι : Nat->Addr) (N : Nat) (G : Hp) (ι' : Nat->Addr) (N' : Nat) (G' : Hp) : Prop where
 le : N<=N'
 ag : ∀ n, n < N->ι' n = ι n
 sm : Same G G'
theorem Ext.refl (ι : Nat->Addr) (N : Nat) (G : Hp) : Ext ι N G ι N G := ⟨QnL _, fun _ _ => rfl, Same.refl G⟩
theorem Ext.trans {ι ι1 ι2 : Nat->Addr} {N N1 N2 : Nat} {G G1 G2 : Hp} (a : Ext ι N G ι1 N1 G1) (b : Ext ι1 N1 G1 ι2 N2 G2) : Ext ι N G ι2 N2 G2 :=
 ⟨QnV a.le b.le, fun n h => (b.ag n (QnP h a.le)).trans (a.ag n h), a.sm.trans b.sm⟩
theorem sqT_same {K : PySem.W.Frag} {H H' : Hp} {a : Addr} {xs : List V} (e : Same H H') (h : SqT K H a xs) : SqT K H' a xs := by
 rcases h with (h | ⟨o, h⟩) | h
 ·exact .inl (.inl (e _ _ h))
 ·exact .inl (.inr ⟨o, e _ _ h⟩)
 ·exact .inr h
section
variable {K : PySem.W.Frag} {ι ι' : Nat->Addr} {N N' : Nat} {G G' : Hp}
theorem RelW.mono (e : Ext ι N G ι' N' G') {v : V} {w : W} (h : RelW K ι N G v w) : RelW K ι' N' G' v w := by
 refine RelW.rec (motive_1 := fun v w _ => RelW K ι' N' G' v w) (motive_2 := fun vs ws _ => RelWs K ι' N' G' vs ws) ?_ ?_ ?_ ?_ ?_ ?_ ?_ ?_ ?_ ?_ ?_ ?_ h
 ·exact .non
 ·exact .bl
 ·exact .int
 ·exact .str
 ·exact .ty
 ·intro a xs ws s c _ r; exact .tup (sqT_same e.sm s) (fun h => e.sm _ _ (c h)) r
 ·intro a xs ws s _ r; exact .lst (e.sm.seq s) r
 ·intro a xs ks ws s l _ r; exact .dct (e.sm _ _ s) l r
 ·intro n hn; rw [<-e.ag n hn]; exact .ref (QnP hn e.le)
 ·intro a C x s n; exact .exn (e.sm _ _ s) n
 ·exact .nil
 ·intro x w xs ws _ _ r1 r2; exact .cons r1 r2
theorem RelWs.mono (e : Ext ι N G ι' N' G') : ∀ {vs : List V} {ws : List W}, RelWs K ι N G vs ws->RelWs K ι' N' G' vs ws
 | _, _, .nil => .nil
 | _, _, .cons r t => .cons (r.mono e) (RelWs.mono e t)
theorem RelWs.length : ∀ {vs : List V} {ws : List W}, RelWs K ι N G vs ws->vs.length = ws.length
 | _, _, .nil => rfl
 | _, _, .cons _ t => by rw [QnU, QnU, RelWs.length t]
theorem RelWs.get : ∀ {vs : List V} {ws : List W} {i : Nat} {w : W}, RelWs K ι N G vs ws->ws[i]? = some w->∃ v, vs[i]? = some v/\RelW K ι N G v w
 | _, _, _, _, .nil, e => by simp at e
 | _, _, 0, _, .cons r _, e => by simp at e; subst e; exact ⟨_, rfl, r⟩
 | _, _, i + 1, x, .cons _ t, e => by
  obtain ⟨u, h1, h2⟩ := RelWs.get (i := i) (w := x) t (by simpa using e)
  exact ⟨u, by simpa using h1, h2⟩
theorem RelWs.get' : ∀ {vs : List V} {ws : List W} {i : Nat} {v : V}, RelWs K ι N G vs ws->vs[i]? = some v->∃ w, ws[i]? = some w/\RelW K ι N G v w
 | _, _, _, _, .nil, e => by simp at e
 | _, _, 0, _, .cons r _, e => by simp at e; subst e; exact ⟨_, rfl, r⟩
 | _, _, i + 1, x, .cons _ t, e => by
  obtain ⟨u, h1, h2⟩ := RelWs.get' (i := i) (v := x) t (by simpa using e)
  exact ⟨u, by simpa using h1, h2⟩
theorem RelWs.append : ∀ {vs vs' : List V} {ws ws' : List W}, RelWs K ι N G vs ws->RelWs K ι N G vs' ws'->RelWs K ι N G (vs ++ vs') (ws ++ ws')
 | _, _, _, _, .nil, s => s
 | _, _, _, _, .cons r t, s => .cons r (RelWs.append t s)
theorem RelWs.take : ∀ {vs : List V} {ws : List W} (n : Nat), RelWs K ι N G vs ws->RelWs K ι N G (vs.take n) (ws.take n)
 | _, _, 0, _ => .nil
 | _, _, _ + 1, .nil => .nil
 | _, _, n + 1, .cons r t => .cons r (RelWs.take n t)
theorem RelWs.drop : ∀ {vs : List V} {ws : List W} (n : Nat), RelWs K ι N G vs ws->RelWs K ι N G (vs.drop n) (ws.drop n)
 | _, _, 0, r => r
 | _, _, _ + 1, .nil => .nil
 | _, _, n + 1, .cons _ t => RelWs.drop n t
theorem RelWs.set {v : V} {w : W} (r : RelW K ι N G v w) : ∀ {vs : List V} {ws : List W} (n : Nat), RelWs K ι N G vs ws->RelWs K ι N G (vs.set n v) (ws.set n w)
 | _, _, _, .nil => .nil
 | _, _, 0, .cons _ t => .cons r t
 | _, _, n + 1, .cons q t => .cons q (RelWs.set r n t)
theorem RelWs.bls : ∀ {vs : List V} {bs : List Bool}, RelWs K ι N G vs (bs.map W.bl)->vs = bs.map V.bl
 | _, [], .nil => rfl
 | _, b :: bs, .cons r t => by cases r; rw [List.map_cons, RelWs.bls t]
theorem RelWs.ofInts (ns : List Int) : RelWs K ι N G (ns.map V.int) (ns.map W.int) := by
 induction ns with
 | nil => exact .nil
 | cons n ns ih => exact .cons (.int n) ih
def MOR (K : PySem.W.Frag) (ι : Nat->Addr) (N : Nat) (G H : Hp) (a : Addr) : MO->Prop
 | .lst ws => ∃ xs, H a = some (.lst xs)/\RelWs K ι N G xs ws
 | .dct ks ws => ∃ xs, H a = some (dKo (ks.zip xs))/\xs.length = ks.length/\RelWs K ι N G xs ws
structure SR (K : PySem.W.Frag) (ι : Nat->Addr) (st : S) (G H : Hp) : Prop where
 sub : Same G H
 live : ∀ n o, st.mu n = some o->n < st.nxt/\G (ι n) = none/\MOR K ι st.nxt G H (ι n) o
 inj : ∀ n m o o', st.mu n = some o->st.mu m = some o'->ι n = ι m->n = m
end
structure EnvR (K : PySem.W.Frag) (ι : Nat->Addr) (N : Nat) (G : Hp) (σ : St) (Γ : Ga) : Prop where
 len : σ.length = Γ.length
 get : ∀ (i : Nat) (w : W), Γ[i]? = some (some w)->∃ v, σ[i]? = some (some v)/\RelW K ι N G v w
theorem EnvR.mono {K : PySem.W.Frag} {ι ι' : Nat->Addr} {N N' : Nat} {G G' : Hp} {σ : St} {Γ : Ga} (e : Ext ι N G ι' N' G') (h : EnvR K ι N G σ Γ) : EnvR K ι' N' G' σ Γ :=
 ⟨h.len, fun i w q => let ⟨v, h1, h2⟩ := h.get i w q; ⟨v, h1, h2.mono e⟩⟩
theorem EnvR.set {K : PySem.W.Frag} {ι : Nat->Addr} {N : Nat} {G : Hp} {σ : St} {Γ : Ga} {v : V} {w : W} (h : EnvR K ι N G σ Γ) (i : Nat) (r : RelW K ι N G v w) : EnvR K ι N G (σ.set i (some v)) (Γ.set i (some w)) := by
 refine ⟨by rw [List.length_set, List.length_set]; exact h.len, fun j u q => ?_⟩
 rw [List.getElem?_set] at q ⊢
 by_cases hij : i = j
 ·rw [if_pos hij] at q ⊢
  subst hij
  by_cases hl : i < Γ.length
  ·rw [if_pos hl] at q
   rw [if_pos (by rw [h.len]; exact hl)]
   cases q
   exact ⟨v, rfl, r⟩
  ·rw [if_neg hl] at q; cases q
 ·rw [if_neg hij] at q ⊢
  exact h.get j u q
section
variable {K : PySem.W.Frag} {ι : Nat->Addr} {st : S} {G H : Hp}
theorem SR.laid (h : SR K ι st G H) {p : Addr} {o : HO} (hp : H p = none) : SR K ι st (upd G p o) (upd H p o)/\Ext ι st.nxt G ι st.nxt (upd G p o) := by
 have hG : G p = none := h.sub.free hp
 have sm : Same G (upd G p o) := fun b u e => by rw [Qan (Qar e hG)]; exact e
 have ex : Ext ι st.nxt G ι st.nxt (upd G p o) := ⟨QnL _, fun _ _ => rfl, sm⟩
 refine ⟨⟨fun b u e => ?_, fun n m e => ?_, h.inj⟩, ex⟩
 ·by_cases hb : b = p
  ·subst hb; rw [QaA] at e ⊢; exact e
  ·rw [Qan hb] at e ⊢; exact h.sub b u e
 ·obtain ⟨h1, h2, h3⟩ := h.live n m e
  have hne : ι n ≠ p := by
   intro z
   cases m with
   | lst ws => obtain ⟨xs, q, _⟩ := h3; rw [z, hp] at q; cases q
   | dct ks ws => obtain ⟨xs, q, _⟩ := h3; rw [z, hp] at q; cases q
  refine ⟨h1, by rw [Qan hne]; exact h2, ?_⟩
  cases m with
  | lst ws => obtain ⟨xs, q, r⟩ := h3; exact ⟨xs, by rw [Qan hne]; exact q, r.mono ex⟩
  | dct ks ws => obtain ⟨xs, q, l, r⟩ := h3; exact ⟨xs, by rw [Qan hne]; exact q, l, r.mono ex⟩
def S.new (st : S) (o : MO) : S := ⟨st.nxt + 1, fun n => if n = st.nxt then some o else st.mu n⟩
def S.put (st : S) (n : Nat) (o : MO) : S := ⟨st.nxt, fun m => if m = n then some o else st.mu m⟩
theorem SR.newL (h : SR K ι st G H) {p : Addr} {xs : List V} {ws : List W} (hp : H p = none) (r : RelWs K ι st.nxt G xs ws) :
  ∃ ι', Ext ι st.nxt G ι' (st.nxt + 1) G/\SR K ι' (st.new (.lst ws)) G (upd H p (.lst xs))/\ι' st.nxt = p := by
 have hG : G p = none := h.sub.free hp
 have ex : Ext ι st.nxt G (fun n => if n = st.nxt then p else ι n) (st.nxt + 1) G := ⟨Nat.le_succ _, fun n hn => if_neg (QnS hn), Same.refl G⟩
 have nep : ∀ n o, st.mu n = some o->ι n ≠ p := fun n o e z => by
  obtain ⟨_, _, h3⟩ := h.live n o e
  cases o with
  | lst ws => obtain ⟨xs, q, _⟩ := h3; rw [z, hp] at q; cases q
  | dct ks ws => obtain ⟨xs, q, _⟩ := h3; rw [z, hp] at q; cases q
 refine ⟨fun n => if n = st.nxt then p else ι n, ex, ⟨fun b u e => ?_, fun n o e => ?_, fun n m o o' e e' z => ?_⟩, if_pos rfl⟩
 ·rw [Qan (Qar e hG)]; exact h.sub b u e
 ·by_cases hn : n = st.nxt
  ·subst hn
   have e' : (if st.nxt = st.nxt then some (MO.lst ws) else st.mu st.nxt) = some o := e
   rw [if_pos rfl] at e'
   cases e'
   refine ⟨Nat.lt_succ_self _, by (try dsimp only); rw [if_pos rfl]; exact hG, xs, by (try dsimp only); rw [if_pos rfl, QaA], r.mono ex⟩
  ·have e' : (if n = st.nxt then some (MO.lst ws) else st.mu n) = some o := e
   rw [if_neg hn] at e'
   obtain ⟨h1, h2, h3⟩ := h.live n o e'
   have hne := nep n o e'
   refine ⟨Nat.lt_succ_of_lt h1, by (try dsimp only); rw [if_neg hn]; exact h2, ?_⟩
   cases o with
   | lst ws => obtain ⟨xs, q, r⟩ := h3; exact ⟨xs, by (try dsimp only); rw [if_neg hn, Qan hne]; exact q, r.mono ex⟩
   | dct ks ws => obtain ⟨xs, q, l, r⟩ := h3; exact ⟨xs, by (try dsimp only); rw [if_neg hn, Qan hne]; exact q, l, r.mono ex⟩
 ·have e1 : (if n = st.nxt then some (MO.lst ws) else st.mu n) = some o := e
  have e2 : (if m = st.nxt then some (MO.lst ws) else st.mu m) = some o' := e'
  (try dsimp only at z)
  by_cases hn : n = st.nxt
  ·by_cases hm : m = st.nxt
   ·rw [hn, hm]
   ·rw [if_neg hm] at e2
    rw [if_pos hn, if_neg hm] at z
    exact absurd z.symm (nep m o' e2)
  ·rw [if_neg hn] at e1
   by_cases hm : m = st.nxt
   ·rw [if_neg hn, if_pos hm] at z
    exact absurd z (nep n o e1)
   ·rw [if_neg hm] at e2
    rw [if_neg hn, if_neg hm] at z
    exact h.inj n m o o' e1 e2 z
theorem SR.putL (h : SR K ι st G H) {n : Nat} {o : MO} {xs : List V} {ws : List W} (hn : st.mu n = some o) (r : RelWs K ι st.nxt G xs ws) : SR K ι (st.put n (.lst ws)) G (upd H (ι n) (.lst xs)) := by
 obtain ⟨h1, h2, _⟩ := h.live n o hn
 refine ⟨fun b u e => ?_, fun m u e => ?_, fun a b u u' e e' z => ?_⟩
 ·rw [Qan (Qar e h2)]; exact h.sub b u e
 ·have e' : (if m = n then some (MO.lst ws) else st.mu m) = some u := e
  by_cases hm : m = n
  ·subst hm
   rw [if_pos rfl] at e'
   cases e'
   exact ⟨h1, h2, xs, QaA, r⟩
  ·rw [if_neg hm] at e'
   obtain ⟨g1, g2, g3⟩ := h.live m u e'
   have hne : ι m ≠ ι n := fun z => hm (h.inj m n u o e' hn z)
   refine ⟨g1, g2, ?_⟩
   cases u with
   | lst ws => obtain ⟨xs, q, r⟩ := g3; exact ⟨xs, by rw [Qan hne]; exact q, r⟩
   | dct ks ws => obtain ⟨xs, q, l, r⟩ := g3; exact ⟨xs, by rw [Qan hne]; exact q, l, r⟩
 ·have e1 : (if a = n then some (MO.lst ws) else st.mu a) = some u := e
  have e2 : (if b = n then some (MO.lst ws) else st.mu b) = some u' := e'
  have l1 : ∃ o, st.mu a = some o := by
   by_cases q : a = n
   ·exact ⟨o, by rw [q]; exact hn⟩
   ·rw [if_neg q] at e1; exact ⟨u, e1⟩
  have l2 : ∃ o, st.mu b = some o := by
   by_cases q : b = n
   ·exact ⟨o, by rw [q]; exact hn⟩
   ·rw [if_neg q] at e2; exact ⟨u', e2⟩
  obtain ⟨o1, l1⟩ := l1
  obtain ⟨o2, l2⟩ := l2
  exact h.inj a b o1 o2 l1 l2 z
end
def ClsR (K : PySem.W.Frag) (c : W) (cls : Value) : Prop := ∃ x C, c = .str x/\PySem.W.nsIn K mainGlobals x = some (some (.ref C))/\cls = .ref C
def XW (X : Cx) (ι : Nat->Addr) (N : Nat) (G : Hp) (c : W) (st' : S) : Prop :=
 ∀ (H' : Hp) (ι' : Nat->Addr) (G' : Hp) (ea : Addr) (cls : Value) (s' : Shared), Ext ι N G ι' st'.nxt G'->SR X.K ι' st' G' H'->ClsR X.K c cls->ExcIn X H' ea cls s'->X.xe (.ref ea) s'
theorem XW.mono {X : Cx} {ι ι1 : Nat->Addr} {N N1 : Nat} {G G1 : Hp} {c : W} {st' : S} (e : Ext ι N G ι1 N1 G1) (h : XW X ι N G c st') : XW X ι1 N1 G1 c st' :=
 fun H' ι' G' x cl s' e' r q I => h H' ι' G' x cl s' (e.trans e') r q I
def wpR (X : Cx) {α : Type} (Rel : (ι : Nat->Addr)->Nat->Hp->α->V->Prop) (ι : Nat->Addr) (N : Nat) (G : Hp) (r : R α) (Q : VK) : Prop := match r with
 | .ok w st' => ∀ v ι' G' H', Ext ι N G ι' st'.nxt G'->SR X.K ι' st' G' H'->Rel ι' st'.nxt G' w v->Q v H'
 | .ex c st' => XW X ι N G c st'
 | .stuck => False
abbrev RW (X : Cx) : (ι : Nat->Addr)->Nat->Hp->W->V->Prop := fun ι N G w v => RelW X.K ι N G v w
abbrev wpW (X : Cx) := wpR X (RW X)
theorem wpW.bind {X : Cx} {ι : Nat->Addr} {N : Nat} {G : Hp} {r : R W} {f : W->S->R W} {Q Q' : VK} (h : wpW X ι N G (r.bind f) Q)
  (k : ∀ w st' v ι' G' H', r = .ok w st'->Ext ι N G ι' st'.nxt G'->SR X.K ι' st' G' H'->RelW X.K ι' st'.nxt G' v w->wpW X ι' st'.nxt G' (f w st') Q->Q' v H') : wpW X ι N G r Q' := by
 cases r with
 | stuck => exact h
 | ex c s => exact h
 | ok w st' =>
  intro v ι' G' H' e sr rel
  refine k w st' v ι' G' H' rfl e sr rel ?_
  have h' : wpW X ι N G (f w st') Q := h
  cases q : f w st' with
  | stuck => rw [q] at h'; exact h'
  | ex c s => rw [q] at h'; exact XW.mono e h'
  | ok w2 st2 =>
   rw [q] at h'
   exact fun v2 ι2 G2 H2 e2 sr2 rel2 => h' v2 ι2 G2 H2 (e.trans e2) sr2 rel2
theorem wpW.mono {X : Cx} {ι : Nat->Addr} {N : Nat} {G : Hp} {r : R W} {Q Q' : VK} (h : wpW X ι N G r Q) (k : ∀ v H, Q v H->Q' v H) : wpW X ι N G r Q' := by
 cases r with
 | stuck => exact h
 | ex c s => exact h
 | ok w st' => exact fun v ι' G' H' e sr rel => k _ _ (h v ι' G' H' e sr rel)
theorem wpW.later {X : Cx} {ι ι1 : Nat->Addr} {N N1 : Nat} {G G1 : Hp} {r : R W} {Q : VK} (e : Ext ι N G ι1 N1 G1) (h : wpW X ι N G r Q) : wpW X ι1 N1 G1 r Q := by
 cases r with
 | stuck => exact h
 | ex c s => exact XW.mono e h
 | ok w st' => exact fun v ι' G' H' e' sr rel => h v ι' G' H' (e.trans e') sr rel
abbrev Run := Ga->S->R W
def tD (X : Cx) (run : Run) : TE := fun σ H Q => ∃ ι G st Γ, EnvR X.K ι st.nxt G σ Γ/\SR X.K ι st G H/\wpW X ι st.nxt G (run Γ st) Q
abbrev PD (X : Cx) (e : Expr) (run : Run) : Prop := PE X e (tD X run)
theorem PE.imp {X : Cx} {e : Expr} {t t' : TE} (h : PE X e t) (k : ∀ σ H Q, t' σ H Q->t σ H Q) : PE X e t' := fun pins s σ H Q I q => h pins s σ H Q I (k σ H Q q)
theorem PT.imp {X : Cx} {e : Expr} {t t' : TT} (h : PT X e t) (k : ∀ σ H Q, t' σ H Q->t σ H Q) : PT X e t' := fun pins s σ H Q I q => h pins s σ H Q I (k σ H Q q)
theorem PS.imp {X : Cx} {e : Stmt} {t t' : TS} (h : PS X e t) (k : ∀ D σ H, t' D σ H->t D σ H) : PS X e t' := fun pins s σ H D I q => h pins s σ H D I (k D σ H q)
theorem PSs.imp {X : Cx} {e : List Stmt} {t t' : TS} (h : PSs X e t) (k : ∀ D σ H, t' D σ H->t D σ H) : PSs X e t' := fun pins s σ H D I q => h pins s σ H D I (k D σ H q)
theorem PA.imp {X : Cx} {e : List Expr} {t t' : TA} (h : PA X e t) (k : ∀ σ H Q, t' σ H Q->t σ H Q) : PA X e t' := fun pos pins s σ H Q I q => h pos pins s σ H Q I (k σ H Q q)
def tDT (X : Cx) (run : Run) : TT := fun σ H Q => tD X run σ H fun v H' => ∃ b, v = .bl b/\Q b H'
section
variable {X : Cx}
def rVar (i : Nat) : Run := fun Γ st => match Γ[i]? with
 | some (some w) => .ok w st
 | _ => .stuck
theorem pd_var {i : Nat} {x : Str} {pos : Pos} (hN : X.N[i]? = some x) (hv : Vis X.env.scope x) (hd : (x == ("__debug__" : Str)) = false) (hcd : (x == ("__classdict__" : Str)) = false) : PD X (.Name x pos) (rVar i) := by
 refine PE.imp (pe_var hN hv hd hcd) fun σ H Q h => ?_
 obtain ⟨ι, G, st, Γ, en, sr, q⟩ := h
 unfold rVar at q
 cases e : Γ[i]? with
 | none => rw [e] at q; exact q.elim
 | some o =>
  cases o with
  | none => rw [e] at q; exact q.elim
  | some w =>
   rw [e] at q
   obtain ⟨v, h1, h2⟩ := en.get i w e
   exact ⟨v, h1, q v ι G H (Ext.refl _ _ _) sr h2⟩
def rCon (w : W) : Run := fun _ st => .ok w st
theorem QfQ {e : Expr} {v : V} {w : W} (h : PE X e (tC v)) (r : ∀ ι N G, RelW X.K ι N G v w) : PD X e (rCon w) := by
 refine PE.imp h fun σ H Q h => ?_
 obtain ⟨ι, G, st, Γ, en, sr, q⟩ := h
 exact q v ι G H (Ext.refl _ _ _) sr (r _ _ _)
abbrev Op2 := W->W->S->R W
def OpW (X : Cx) (f : Value->Value->Sem Value) (op : Op2) : Prop :=
 ∀ (pins : List (Addr × Obj)) (s : Shared) (σ : St) (H : Hp) (ι : Nat->Addr) (G : Hp) (st : S) (x y : V) (w1 w2 : W) (v u : Value) (Q : VK), Inv X pins σ H s->SR X.K ι st G H->RelV x v->RelV y u->RelW X.K ι st.nxt G x w1->RelW X.K ι st.nxt G y w2 ->
  wpW X ι st.nxt G (op w1 w2 st) Q->wpAny (model X.prog X.w) X.A (f v u) (EP X pins σ Q) X.xe s
def rOp (X : Cx) (op : Op2) : R2 := fun x y H Q => ∃ ι G st w1 w2, SR X.K ι st G H/\RelW X.K ι st.nxt G x w1/\RelW X.K ι st.nxt G y w2/\wpW X ι st.nxt G (op w1 w2 st) Q
theorem OpW.r {f : Value->Value->Sem Value} {op : Op2} (h : OpW X f op) : OpR X f (rOp X op) :=
 fun pins s σ H x y v u Q I rx ry ⟨ι, G, st, w1, w2, sr, r1, r2, q⟩ => h pins s σ H ι G st x y w1 w2 v u Q I sr rx ry r1 r2 q
def run2 (ra rb : Run) (op : Op2) : Run := fun Γ st => (ra Γ st).bind fun w1 st1 => (rb Γ st1).bind fun w2 st2 => op w1 w2 st2
theorem tD_op {ra rb : Run} {op : Op2} {σ : St} {H : Hp} {Q : VK} (h : tD X (run2 ra rb op) σ H Q) : tOp (rOp X op) (tD X ra) (tD X rb) σ H Q := by
 obtain ⟨ι, G, st, Γ, en, sr, q⟩ := h
 refine ⟨ι, G, st, Γ, en, sr, wpW.bind q fun w1 st1 v1 ι1 G1 H1 _ e1 sr1 r1 q1 => ?_⟩
 refine ⟨ι1, G1, st1, Γ, en.mono e1, sr1, wpW.bind q1 fun w2 st2 v2 ι2 G2 H2 _ e2 sr2 r2 q2 => ?_⟩
 exact ⟨ι2, G2, st2, w1, w2, sr2, r1.mono e2, r2, q2⟩
theorem pd_op {a b : Expr} {op : Operator} {pos : Pos} {ra rb : Run} {o : Op2} (ho : OpW X (binaryOp op) o) (ha : PD X a ra) (hb : PD X b rb) : PD X (.BinOp a op b pos) (run2 ra rb o) :=
 PE.imp (pe_op ho.r ha hb) fun _ _ _ h => tD_op h
theorem pd_cmp {a b : Expr} {op : CmpOp} {pos : Pos} {ra rb : Run} {o : Op2} (ho : OpW X (compareOp op) o) (ha : PD X a ra) (hb : PD X b rb) (hm : behindInMarks op b = false) : PD X (.Compare a [op] [b] pos) (run2 ra rb o) :=
 PE.imp (pe_cmpR ho.r ha hb hm) fun _ _ _ h => tD_op h
theorem pdt_cmp {a b : Expr} {op : CmpOp} {pos : Pos} {ra rb : Run} {o : Op2} (ho : OpW X (compareOp op) o) (ha : PD X a ra) (hb : PD X b rb) (hm : behindInMarks op b = false) : PT X (.Compare a [op] [b] pos) (tDT X (run2 ra rb o)) :=
 PT.imp (pt_cmpR ho.r ha hb hm) fun _ _ _ h => tD_op h
def QaZ (ra rb : Run) : Run := fun Γ st => (ra Γ st).bind fun w st1 => match w with
 | .bl true => rb Γ st1
 | .bl false => .ok (.bl false) st1
 | _ => .stuck
def Qch (ra rb : Run) : Run := fun Γ st => (ra Γ st).bind fun w st1 => match w with
 | .bl true => .ok (.bl true) st1
 | .bl false => rb Γ st1
 | _ => .stuck
def QdA (ra : Run) : Run := fun Γ st => (ra Γ st).bind fun w st1 => match w with
 | .bl b => .ok (.bl (!b)) st1
 | _ => .stuck
def Qlw (rc ra rb : Run) : Run := fun Γ st => (rc Γ st).bind fun w st1 => match w with
 | .bl true => ra Γ st1
 | .bl false => rb Γ st1
 | _ => .stuck
theorem pd_one {a : Expr} {op : BoolOp} {pos : Pos} {ra : Run} (ha : PD X a ra) : PD X (.BoolOp op [a] pos) ra := pe_one ha
theorem pd_and {a b : Expr} {rest : List Expr} {pos : Pos} {ra rb : Run} (ha : PD X a ra) (hb : PD X (.BoolOp .And (b :: rest) pos) rb) : PD X (.BoolOp .And (a :: b :: rest) pos) (QaZ ra rb) := by
 refine PE.imp (pe_and ha hb) fun σ H Q h => ?_
 obtain ⟨ι, G, st, Γ, en, sr, q⟩ := h
 refine ⟨ι, G, st, Γ, en, sr, wpW.bind q fun w st1 v ι1 G1 H1 _ e1 sr1 r1 q1 => ?_⟩
 cases w with
 | bl b =>
  cases r1
  refine ⟨b, rfl, ?_⟩
  cases b with
  | false => rw [if_neg QnE]; exact q1 _ ι1 G1 H1 (Ext.refl _ _ _) sr1 (.bl false)
  | true => rw [if_pos rfl]; exact ⟨ι1, G1, st1, Γ, en.mono e1, sr1, q1⟩
 | _ => exact (show False from q1).elim
theorem pd_or {a b : Expr} {rest : List Expr} {pos : Pos} {ra rb : Run} (ha : PD X a ra) (hb : PD X (.BoolOp .Or (b :: rest) pos) rb) : PD X (.BoolOp .Or (a :: b :: rest) pos) (Qch ra rb) := by
 refine PE.imp (pe_or ha hb) fun σ H Q h => ?_
 obtain ⟨ι, G, st, Γ, en, sr, q⟩ := h
 refine ⟨ι, G, st, Γ, en, sr, wpW.bind q fun w st1 v ι1 G1 H1 _ e1 sr1 r1 q1 => ?_⟩
 cases w with
 | bl b =>
  cases r1
  refine ⟨b, rfl, ?_⟩
  cases b with
  | true => rw [if_pos rfl]; exact q1 _ ι1 G1 H1 (Ext.refl _ _ _) sr1 (.bl true)
  | false => rw [if_neg QnE]; exact ⟨ι1, G1, st1, Γ, en.mono e1, sr1, q1⟩
 | _ => exact (show False from q1).elim
theorem pd_not {a : Expr} {pos : Pos} {ra : Run} (ha : PD X a ra) : PD X (.UnaryOp .Not a pos) (QdA ra) := by
 refine PE.imp (pe_not ha) fun σ H Q h => ?_
 obtain ⟨ι, G, st, Γ, en, sr, q⟩ := h
 refine ⟨ι, G, st, Γ, en, sr, wpW.bind q fun w st1 v ι1 G1 H1 _ e1 sr1 r1 q1 => ?_⟩
 cases w with
 | bl b => cases r1; exact ⟨b, rfl, q1 _ ι1 G1 H1 (Ext.refl _ _ _) sr1 (.bl _)⟩
 | _ => exact (show False from q1).elim
theorem pdt_not {a : Expr} {pos : Pos} {ra : Run} (ha : PT X a (tDT X ra)) : PT X (.UnaryOp .Not a pos) (tDT X (QdA ra)) := by
 refine PT.imp (pt_not ha) fun σ H Q h => ?_
 obtain ⟨ι, G, st, Γ, en, sr, q⟩ := h
 refine ⟨ι, G, st, Γ, en, sr, wpW.bind q fun w st1 v ι1 G1 H1 _ e1 sr1 r1 q1 => ?_⟩
 cases w with
 | bl b =>
  cases r1
  obtain ⟨b', e, q'⟩ := q1 _ ι1 G1 H1 (Ext.refl _ _ _) sr1 (.bl _)
  cases e
  exact ⟨b, rfl, q'⟩
 | _ => exact (show False from q1).elim
theorem pwt_one {a : Expr} {op : BoolOp} {pos : Pos} {ra : Run} (ha : PT X a (tDT X ra)) : PW X (.BoolOp op [a] pos) (tDT X ra) := by
 cases op with
 | And => exact pw_and1 ha
 | Or => exact pw_or1 ha
theorem PW.imp {e : Expr} {t t' : TT} (h : PW X e t) (k : ∀ σ H Q, t' σ H Q->t σ H Q) : PW X e t' := fun whole pins s σ H Q I q => h whole pins s σ H Q I (k σ H Q q)
theorem pwt_and {a b : Expr} {rest : List Expr} {pos : Pos} {ra rb : Run} (ha : PT X a (tDT X ra)) (hb : PW X (.BoolOp .And (b :: rest) pos) (tDT X rb)) : PW X (.BoolOp .And (a :: b :: rest) pos) (tDT X (QaZ ra rb)) := by
 refine PW.imp (pw_and ha hb) fun σ H Q h => ?_
 obtain ⟨ι, G, st, Γ, en, sr, q⟩ := h
 refine ⟨ι, G, st, Γ, en, sr, wpW.bind q fun w st1 v ι1 G1 H1 _ e1 sr1 r1 q1 => ?_⟩
 cases w with
 | bl b =>
  cases r1
  refine ⟨b, rfl, ?_⟩
  cases b with
  | false =>
   rw [if_neg QnE]
   obtain ⟨b', e, q'⟩ := q1 _ ι1 G1 H1 (Ext.refl _ _ _) sr1 (.bl false)
   cases e; exact q'
  | true => rw [if_pos rfl]; exact ⟨ι1, G1, st1, Γ, en.mono e1, sr1, q1⟩
 | _ => exact (show False from q1).elim
theorem pwt_or {a b : Expr} {rest : List Expr} {pos : Pos} {ra rb : Run} (ha : PT X a (tDT X ra)) (hb : PW X (.BoolOp .Or (b :: rest) pos) (tDT X rb)) : PW X (.BoolOp .Or (a :: b :: rest) pos) (tDT X (Qch ra rb)) := by
 refine PW.imp (pw_or ha hb) fun σ H Q h => ?_
 obtain ⟨ι, G, st, Γ, en, sr, q⟩ := h
 refine ⟨ι, G, st, Γ, en, sr, wpW.bind q fun w st1 v ι1 G1 H1 _ e1 sr1 r1 q1 => ?_⟩
 cases w with
 | bl b =>
  cases r1
  refine ⟨b, rfl, ?_⟩
  cases b with
  | true =>
   rw [if_pos rfl]
   obtain ⟨b', e, q'⟩ := q1 _ ι1 G1 H1 (Ext.refl _ _ _) sr1 (.bl true)
   cases e; exact q'
  | false => rw [if_neg QnE]; exact ⟨ι1, G1, st1, Γ, en.mono e1, sr1, q1⟩
 | _ => exact (show False from q1).elim
theorem pd_if {c a b : Expr} {pos : Pos} {rc ra rb : Run} (hc : PT X c (tDT X rc)) (ha : PD X a ra) (hb : PD X b rb) : PD X (.IfExp c a b pos) (Qlw rc ra rb) := by
 refine PE.imp (pe_ifExp hc ha hb) fun σ H Q h => ?_
 obtain ⟨ι, G, st, Γ, en, sr, q⟩ := h
 refine ⟨ι, G, st, Γ, en, sr, wpW.bind q fun w st1 v ι1 G1 H1 _ e1 sr1 r1 q1 => ?_⟩
 cases w with
 | bl b =>
  cases r1
  refine ⟨b, rfl, ?_⟩
  cases b with
  | true => rw [if_pos rfl]; exact ⟨ι1, G1, st1, Γ, en.mono e1, sr1, q1⟩
  | false => rw [if_neg QnE]; exact ⟨ι1, G1, st1, Γ, en.mono e1, sr1, q1⟩
 | _ => exact (show False from q1).elim
theorem pdt_val {e : Expr} {r : Run} (h : PD X e r) (he : ∀ whole, isTrue e X.env whole = (do let v <-whole; standAt e.pos; holding [v] (truthy v))) : PT X e (tDT X r) := pt_val h he
abbrev Runs := Ga->S->R (List W)
def tDA (X : Cx) (run : Runs) : TA := fun σ H Q => ∃ ι G st Γ, EnvR X.K ι st.nxt G σ Γ/\SR X.K ι st G H/\(match run Γ st with
 | .ok ws st' => ∀ vs ι' G' H', Ext ι st.nxt G ι' st'.nxt G'->SR X.K ι' st' G' H'->RelWs X.K ι' st'.nxt G' vs ws->Q vs H'
 | .ex c st' => XW X ι st.nxt G c st'
 | .stuck => False)
abbrev PDA (X : Cx) (es : List Expr) (run : Runs) : Prop := PA X es (tDA X run)
def Qab : Runs := fun _ st => .ok [] st
def Qaa (ra : Run) (rr : Runs) : Runs := fun Γ st => (ra Γ st).bind fun w st1 => (rr Γ st1).bind fun ws st2 => .ok (w :: ws) st2
theorem Qgy : PDA X [] Qab := by
 refine PA.imp pa_nil fun σ H Q h => ?_
 obtain ⟨ι, G, st, Γ, en, sr, q⟩ := h
 exact q [] ι G H (Ext.refl _ _ _) sr .nil
theorem QeA {e : Expr} {es : List Expr} {ra : Run} {rr : Runs} (ha : PD X e ra) (hr : PDA X es rr) (hs : starEach (e :: es) X.env = (false, eval e X.env) :: starEach es X.env) : PDA X (e :: es) (Qaa ra rr) := by
 refine PA.imp (pa_cons ha hr hs) fun σ H Q h => ?_
 obtain ⟨ι, G, st, Γ, en, sr, q⟩ := h
 refine ⟨ι, G, st, Γ, en, sr, ?_⟩
 unfold Qaa at q
 cases e1 : ra Γ st with
 | stuck => rw [e1] at q; exact q
 | ex c s => rw [e1] at q; exact q
 | ok w st1 =>
  rw [e1] at q
  intro v ι1 G1 H1 x1 sr1 r1
  refine ⟨ι1, G1, st1, Γ, en.mono x1, sr1, ?_⟩
  have q' : match (rr Γ st1).bind fun ws st2 => R.ok (w :: ws) st2 with
   | .ok ws st' => ∀ vs ι' G' H', Ext ι st.nxt G ι' st'.nxt G'->SR X.K ι' st' G' H'->RelWs X.K ι' st'.nxt G' vs ws->Q vs H'
   | .ex c st' => XW X ι st.nxt G c st'
   | .stuck => False := q
  cases e2 : rr Γ st1 with
  | stuck => rw [e2] at q'; exact q'
  | ex c s => rw [e2] at q'; exact XW.mono x1 q'
  | ok ws st2 =>
   rw [e2] at q'
   exact fun vs ι2 G2 H2 x2 sr2 r2 => q' (v :: vs) ι2 G2 H2 (x1.trans x2) sr2 (.cons (r1.mono x2) r2)
abbrev OpN := List W->S->R W
def runN (rr : Runs) (op : OpN) : Run := fun Γ st => (rr Γ st).bind op
theorem Qgo {rr : Runs} {op : OpN} {σ : St} {H : Hp} {Q : VK} {Q' : List V->Hp->Prop} (h : tD X (runN rr op) σ H Q)
  (k : ∀ ws st' vs ι' G' H', SR X.K ι' st' G' H'->RelWs X.K ι' st'.nxt G' vs ws->wpW X ι' st'.nxt G' (op ws st') Q->Q' vs H') : tDA X rr σ H Q' := by
 obtain ⟨ι, G, st, Γ, en, sr, q⟩ := h
 refine ⟨ι, G, st, Γ, en, sr, ?_⟩
 unfold runN at q
 cases e1 : rr Γ st with
 | stuck => rw [e1] at q; exact q
 | ex c s => rw [e1] at q; exact q
 | ok ws st1 =>
  rw [e1] at q
  intro vs ι1 G1 H1 x1 sr1 r1
  exact k ws st1 vs ι1 G1 H1 sr1 r1 (wpW.later x1 (show wpW X ι st.nxt G (op ws st1) Q from q))
def Qdf (X : Cx) (f : Value) (op : OpN) : Prop :=
 ∀ (pins : List (Addr × Obj)) (s : Shared) (σ : St) (H : Hp) (ι : Nat->Addr) (G : Hp) (st : S) (xs : List V) (ws : List W) (us : List Value) (Q : VK), Inv X pins σ H s->SR X.K ι st G H->Vals xs us->RelWs X.K ι st.nxt G xs ws ->
  wpW X ι st.nxt G (op ws st) Q->wpAny (model X.prog X.w) X.A (call f us) (EP X pins σ Q) X.xe s
def rCall (X : Cx) (op : OpN) : List V->Hp->VK->Prop := fun xs H Q => ∃ ι G st ws, SR X.K ι st G H/\RelWs X.K ι st.nxt G xs ws/\wpW X ι st.nxt G (op ws st) Q
theorem Qdf.r {f : Value} {op : OpN} (h : Qdf X f op) : Qhg X f (rCall X op) := fun pins s σ H xs us Q I r ⟨ι, G, st, ws, sr, r1, q⟩ => h pins s σ H ι G st xs ws us Q I sr r r1 q
theorem Qjw {rr : Runs} {op : OpN} {σ : St} {H : Hp} {Q : VK} (h : tD X (runN rr op) σ H Q) : tCB (rCall X op) (tDA X rr) σ H Q :=
 Qgo h fun ws st' vs ι' G' H' sr r q => ⟨ι', G', st', ws, sr, r, q⟩
def QaM : OpN := fun ws st => if ws.length<=sizeLine then .ok (.tup ws) st else .stuck
def QfE : OpN := fun ws st => if ws.length<=sizeLine then .ok (.lst ws) st else .stuck
def Qeh : OpN := fun ws st => if ws.length<=sizeLine then .ok (.ref st.nxt) (st.new (.lst ws)) else .stuck
theorem Qju {ι : Nat->Addr} {G H : Hp} {st : S} {xs : List V} {ws : List W} {Q : VK} (sr : SR X.K ι st G H) (r : RelWs X.K ι st.nxt G xs ws) (q : wpW X ι st.nxt G (QaM ws st) Q) : xs.length<=sizeLine/\∀ p, H p = none->Q (.ref p) (upd H p (.tup xs)) := by
 unfold QaM at q
 by_cases hl : ws.length<=sizeLine
 ·rw [if_pos hl] at q
  refine ⟨by rw [r.length]; exact hl, fun p hp => ?_⟩
  obtain ⟨s2, e2⟩ := sr.laid (o := .tup xs) hp
  exact q _ ι _ _ e2 s2 (.tup (.inl (.inl QaA)) (fun _ => QaA) (r.mono e2))
 ·rw [if_neg hl] at q; exact q.elim
theorem QdE {ι : Nat->Addr} {G H : Hp} {st : S} {xs : List V} {ws : List W} {Q : VK} (sr : SR X.K ι st G H) (r : RelWs X.K ι st.nxt G xs ws) (q : wpW X ι st.nxt G (QfE ws st) Q) : xs.length<=sizeLine/\∀ p, H p = none->Q (.ref p) (upd H p (.lst xs)) := by
 unfold QfE at q
 by_cases hl : ws.length<=sizeLine
 ·rw [if_pos hl] at q
  refine ⟨by rw [r.length]; exact hl, fun p hp => ?_⟩
  obtain ⟨s2, e2⟩ := sr.laid (o := .lst xs) hp
  exact q _ ι _ _ e2 s2 (.lst (.inl (.inl QaA)) (r.mono e2))
 ·rw [if_neg hl] at q; exact q.elim
theorem QcM {ι : Nat->Addr} {G H : Hp} {st : S} {xs : List V} {ws : List W} {Q : VK} (sr : SR X.K ι st G H) (r : RelWs X.K ι st.nxt G xs ws) (q : wpW X ι st.nxt G (Qeh ws st) Q) : xs.length<=sizeLine/\∀ p, H p = none->Q (.ref p) (upd H p (.lst xs)) := by
 unfold Qeh at q
 by_cases hl : ws.length<=sizeLine
 ·rw [if_pos hl] at q
  refine ⟨by rw [r.length]; exact hl, fun p hp => ?_⟩
  obtain ⟨ι', e2, s2, ep⟩ := sr.newL hp r
  have q' := q (.ref p) ι' G (upd H p (.lst xs)) e2 s2
  rw [<-ep] at q' ⊢
  exact q' (.ref (Nat.lt_succ_self _))
 ·rw [if_neg hl] at q; exact q.elim
theorem pd_tup {es : List Expr} {k : Nat} {pos : Pos} {rr : Runs} (h : PDA X es rr) : PD X (.Tuple es k pos) (runN rr QaM) :=
 PE.imp (pe_tup h) fun _ _ _ h => Qgo h fun _ _ _ _ _ _ sr r q => Qju sr r q
theorem pd_lst {es : List Expr} {pos : Pos} {rr : Runs} (h : PDA X es rr) : PD X (.List es pos) (runN rr QfE) :=
 PE.imp (pe_lst h) fun _ _ _ h => Qgo h fun _ _ _ _ _ _ sr r q => QdE sr r q
theorem pd_newL {es : List Expr} {pos : Pos} {rr : Runs} (h : PDA X es rr) : PD X (.List es pos) (runN rr Qeh) :=
 PE.imp (pe_lst h) fun _ _ _ h => Qgo h fun _ _ _ _ _ _ sr r q => QcM sr r q
end
end DL
namespace DL
open PySem PySem.Spec PyProof.Rows L2
section
variable {X : Cx}
def MO.items : Option MO->Option (List W)
 | some (.lst xs) => some xs
 | _ => none
def catO (a b : Option (List W)) (st : S) : R W := match a, b with
 | some xs, some ys => if xs.length + ys.length<=sizeLine then .ok (.lst (xs ++ ys)) st else .stuck
 | _, _ => .stuck
def Qau : Op2 := fun a b st => match a, b with
 | .int i, .int j => .ok (.int (i + j)) st
 | .str x, .str y => if x.length + y.length<=sizeLine then .ok (.str (x ++ y)) st else .stuck
 | .lst xs, .lst ys => catO (some xs) (some ys) st
 | .lst xs, .ref m => catO (some xs) (MO.items (st.mu m)) st
 | .ref n, .lst ys => catO (MO.items (st.mu n)) (some ys) st
 | .ref n, .ref m => catO (MO.items (st.mu n)) (MO.items (st.mu m)) st
 | .tup xs, .tup ys => if xs ≠ []/\xs.length + ys.length<=sizeLine then .ok (.tup (xs ++ ys)) st else .stuck
 | _, _ => .stuck
def QeT : Op2 := fun a b st => match a, b with
 | .int i, .int j => .ok (.int (i - j)) st
 | _, _ => .stuck
instance (i j : Int) : Decidable (CMul i j) := by unfold CMul; infer_instance
instance (i j : Int) : Decidable (CDiv i j) := by unfold CDiv; infer_instance
def opMulI : Op2 := fun a b st => match a, b with
 | .int i, .int j => if CMul i j then .ok (.int (i * j)) st else .stuck
 | _, _ => .stuck
def repO (a : Option (List W)) (k : Int) (st : S) : R W := match a with
 | some xs => if (-(2 ^ 63)<=k/\k < 2 ^ 63)/\xs.length * k.toNat<=sizeLine then .ok (.lst (List.replicate k.toNat xs).flatten) st else .stuck
 | none => .stuck
def Qbf : Op2 := fun a b st => match a, b with
 | .lst xs, .int k => repO (some xs) k st
 | .ref n, .int k => repO (MO.items (st.mu n)) k st
 | a, b => opMulI a b st
def Qay : Op2 := fun a b st => match a, b with
 | .int i, .int j => if CDiv i j then .ok (.int (i / j)) st else .stuck
 | _, _ => .stuck
def Qap : Op2 := fun a b st => match a, b with
 | .int i, .int j => if 0 < j then .ok (.int (i % j)) st else .stuck
 | _, _ => .stuck
theorem op_catL : OpR X (binaryOp .Add) (fun x y H Q => ∃ l b xs zs, x = .ref l/\y = .ref b/\SqL X.K H l xs/\SqL X.K H b zs/\xs.length + zs.length<=sizeLine/\∀ p, H p = none->Q (.ref p) (upd H p (.lst (xs ++ zs)))) := by
 intro pins s σ H x y v u Q I rx ry h
 obtain ⟨l, b, xs, zs, rfl, rfl, hH, hB, hz, q⟩ := h
 cases rx
 cases ry
 obtain ⟨its, r, pl, z⟩ := I.list hH
 obtain ⟨its2, r2, pl2, z2⟩ := I.list hB
 have hl := r.length
 have hl2 := r2.length
 obtain ⟨⟨cls, dd, data, sl⟩, n, e, ec, ed, es⟩ := pl
 obtain ⟨⟨cls2, dd2, data2, sl2⟩, n2, e2, ec2, ed2, es2⟩ := pl2
 simp only at ec es ec2 es2
 subst ec es ec2 es2
 have ea : its.toArray ++ its2.toArray = (its ++ its2).toArray := by simp
 refine concat_meets ⟨_, e, rfl⟩ ⟨_, e2, rfl⟩ noFill_list_add seq_list_add PySem.F.slot_list_add PySem.F.entry_list_add (PySem.F.args_list_add_2 _ _) (list_addW l b its.toArray its2.toArray n n2 dd dd2 sl sl2 (by rw [QnK, QnK]; omega)) ⟨e, e2, ?_⟩
 rw [ea]
 exact ⟨.ref _, _, I.lnew (t' := s.toks) (r.append r2) (by rw [QnO]; omega), rfl, q _ I.fresh⟩
theorem Qbv {K : PySem.W.Frag} {ι : Nat->Addr} {st : S} {G H : Hp} {n : Nat} {ws : List W} (sr : SR K ι st G H) (h : MO.items (st.mu n) = some ws) : ∃ xs, SqL K H (ι n) xs/\RelWs K ι st.nxt G xs ws := by
 cases e : st.mu n with
 | none => rw [e] at h; cases h
 | some o =>
  obtain ⟨_, _, h3⟩ := sr.live n o e
  cases o with
  | lst zs =>
   rw [e] at h
   cases h
   obtain ⟨vs, q, r⟩ := h3
   exact ⟨vs, SqL.of q, r⟩
  | dct ks vs => rw [e] at h; cases h
theorem opw_add : OpW X (binaryOp .Add) Qau := by
 intro pins s σ H ι G st x y w1 w2 v u Q I sr rx ry r1 r2 q
 have cat : ∀ {a b : Addr} {xs ys : List V} {ws ws' : List W}, RelV (.ref a) v->RelV (.ref b) u->SqL X.K H a xs->SqL X.K H b ys->RelWs X.K ι st.nxt G xs ws->RelWs X.K ι st.nxt G ys ws'->wpW X ι st.nxt G (catO (some ws) (some ws') st) Q ->
   wpAny (model X.prog X.w) X.A (binaryOp .Add v u) (EP X pins σ Q) X.xe s := by
  intro a b xs ys ws ws' rx ry s1 s2 t1 t2 q
  have q' : wpW X ι st.nxt G (if ws.length + ws'.length<=sizeLine then .ok (.lst (ws ++ ws')) st else .stuck) Q := q
  by_cases hl : ws.length + ws'.length<=sizeLine
  ·rw [if_pos hl] at q'
   refine op_catL pins s σ H _ _ v u Q I rx ry ⟨_, _, _, _, rfl, rfl, s1, s2, by rw [t1.length, t2.length]; exact hl, fun p hp => ?_⟩
   obtain ⟨sr2, e2⟩ := sr.laid (o := .lst _) hp
   exact q' _ ι _ _ e2 sr2 (.lst (.inl (.inl QaA)) ((t1.append t2).mono e2))
  ·rw [if_neg hl] at q'; exact q'.elim
 cases w1 with
 | int i =>
  cases w2 with
  | int j => cases r1; cases r2; exact op_add pins s σ H _ _ v u Q I rx ry ⟨i, j, rfl, rfl, q _ ι G H (Ext.refl _ _ _) sr (.int _)⟩
  | _ => exact (show False from q).elim
 | str i =>
  cases w2 with
  | str j =>
   cases r1; cases r2
   have q' : wpW X ι st.nxt G (if i.length + j.length<=sizeLine then .ok (.str (i ++ j)) st else .stuck) Q := q
   by_cases hl : i.length + j.length<=sizeLine
   ·rw [if_pos hl] at q'
    exact Qks pins s σ H _ _ v u Q I rx ry ⟨i, j, rfl, rfl, hl, q' _ ι G H (Ext.refl _ _ _) sr (.str _)⟩
   ·rw [if_neg hl] at q'; exact q'.elim
  | _ => exact (show False from q).elim
 | lst xs =>
  cases w2 with
  | lst ys =>
   cases r1 with
   | lst s1 t1 =>
    cases r2 with
    | lst s2 t2 => exact cat rx ry (sr.sub.seq s1) (sr.sub.seq s2) t1 t2 q
  | ref m =>
   cases r1 with
   | lst s1 t1 =>
    have q' : wpW X ι st.nxt G (catO (some xs) (MO.items (st.mu m)) st) Q := q
    cases hm : MO.items (st.mu m) with
    | none => rw [hm] at q'; exact (show False from q').elim
    | some ys =>
     rw [hm] at q'
     cases r2 with
     | ref hn =>
      obtain ⟨vs, h1, h2⟩ := Qbv sr hm
      exact cat rx ry (sr.sub.seq s1) h1 t1 h2 q'
  | _ => exact (show False from q).elim
 | ref n =>
  cases w2 with
  | lst ys =>
   cases r2 with
   | lst s2 t2 =>
    have q' : wpW X ι st.nxt G (catO (MO.items (st.mu n)) (some ys) st) Q := q
    cases hm : MO.items (st.mu n) with
    | none => rw [hm] at q'; exact (show False from q').elim
    | some xs =>
     rw [hm] at q'
     cases r1 with
     | ref hn =>
      obtain ⟨vs, h1, h2⟩ := Qbv sr hm
      exact cat rx ry h1 (sr.sub.seq s2) h2 t2 q'
  | ref m =>
   have q' : wpW X ι st.nxt G (catO (MO.items (st.mu n)) (MO.items (st.mu m)) st) Q := q
   cases hm : MO.items (st.mu n) with
   | none => rw [hm] at q'; exact (show False from q').elim
   | some xs =>
    cases hk : MO.items (st.mu m) with
    | none => rw [hm, hk] at q'; exact (show False from q').elim
    | some ys =>
     rw [hm, hk] at q'
     cases r1 with
     | ref hn =>
      cases r2 with
      | ref hn' =>
       obtain ⟨vs, h1, h2⟩ := Qbv sr hm
       obtain ⟨vs', h3, h4⟩ := Qbv sr hk
       exact cat rx ry h1 h3 h2 h4 q'
  | _ => exact (show False from q).elim
 | tup xs =>
  cases w2 with
  | tup ys =>
   cases r1 with
   | tup s1 c1 t1 =>
    cases r2 with
    | tup s2 c2 t2 =>
     have q' : wpW X ι st.nxt G (if xs ≠ []/\xs.length + ys.length<=sizeLine then .ok (.tup (xs ++ ys)) st else .stuck) Q := q
     by_cases hl : xs ≠ []/\xs.length + ys.length<=sizeLine
     ·rw [if_pos hl] at q'
      refine op_catT pins s σ H _ _ v u Q I rx ry ⟨_, _, _, _, rfl, rfl, sqT_same sr.sub s1, sqT_same sr.sub s2, fun z => hl.1 ?_, by rw [t1.length, t2.length]; exact hl.2, fun z => ?_, fun z p hp => ?_⟩
      ·subst z; cases t1; rfl
      ·subst z
       cases t2
       refine q' _ ι G H (Ext.refl _ _ _) sr (.tup s1 c1 ?_)
       rw [List.append_nil]; exact t1
      ·obtain ⟨sr2, e2⟩ := sr.laid (o := .tup _) hp
       exact q' _ ι _ _ e2 sr2 (.tup (.inl (.inl QaA)) (fun _ => QaA) ((t1.append t2).mono e2))
     ·rw [if_neg hl] at q'; exact q'.elim
  | _ => exact (show False from q).elim
 | _ => exact (show False from q).elim
theorem opw_sub : OpW X (binaryOp .Sub) QeT := by
 intro pins s σ H ι G st x y w1 w2 v u Q I sr rx ry r1 r2 q
 cases w1 with
 | int i =>
  cases w2 with
  | int j => cases r1; cases r2; exact op_sub pins s σ H _ _ v u Q I rx ry ⟨i, j, rfl, rfl, q _ ι G H (Ext.refl _ _ _) sr (.int _)⟩
  | _ => exact (show False from q).elim
 | _ => exact (show False from q).elim
theorem opw_I {f : Value->Value->Sem Value} {C : Int->Int->Prop} [∀ i j, Decidable (C i j)] {g : Int->Int->Int} {op : Op2} (h : OpR X f (rI C fun i j => .int (g i j)))
  (hi : ∀ i j st, op (.int i) (.int j) st = if C i j then .ok (.int (g i j)) st else .stuck) (ho : ∀ a b st, (∀ i j, ¬ (a = .int i/\b = .int j))->op a b st = .stuck) : OpW X f op := by
 intro pins s σ H ι G st x y w1 w2 v u Q I sr rx ry r1 r2 q
 by_cases hw : ∃ i j, w1 = .int i/\w2 = .int j
 ·obtain ⟨i, j, rfl, rfl⟩ := hw
  cases r1; cases r2
  rw [hi] at q
  by_cases hc : C i j
  ·rw [if_pos hc] at q
   exact h pins s σ H _ _ v u Q I rx ry ⟨i, j, rfl, rfl, hc, q _ ι G H (Ext.refl _ _ _) sr (.int _)⟩
  ·rw [if_neg hc] at q; exact (show False from q).elim
 ·rw [ho _ _ _ fun i j z => hw ⟨i, j, z.1, z.2⟩] at q
  exact (show False from q).elim
theorem Qmi (l : Addr) (items : Array Value) (n : Nat) (x : Int) (u : Tok) (dd : Option Addr) (sl : Array (Option Value)) (hc0 : ¬(!Builtin.List.listFitsIndex x) = true) (hc1 : ¬items.size * x.toNat > (2 ^ 63 - 1) / 8) (hc2 : ¬Builtin.List.listTooLong (items.size * x.toNat) = true) :
  Meets (Builtin.«list.__mul__» ⟨[.ref l, .int x u], []⟩) (fun _ R s => s.heap.get? l = some { cls := .type "list", dict := dd, data := .seq items n, slots := sl }/\R (.ok (.ret (Value.ref s.heap.objs.size))) { s with heap := s.heap.push { cls := Value.type "list", data := Data.seq (List.foldl (fun x1 x2 => x1 ++ x2) #[] (List.replicate (if items.isEmpty = true then 0 else x.toNat) items)) }, toks := s.toks }) :=
 .of_wp fun prog w A R s h => by
  obtain ⟨hp, g, d, tk, os⟩ := s
  obtain ⟨hl, h⟩ := h
  have hsz := AutoListH.joined_fits hc2
  wp_walk
  refine wpAny_ite_false (decide_eq_false (Nat.not_lt.mpr hsz)) ?_
  wp_walk
  exact ⟨_, rfl, h⟩
theorem QmA (a : Int) (t : Tok) (l : Addr) (items : Array Value) (n : Nat) (dd : Option Addr) (sl : Array (Option Value)) :
  Meets (Builtin.«int.__rmul__» ⟨[.int a t, .ref l], []⟩) (fun _ R s => s.heap.get? l = some { cls := .type "list", dict := dd, data := .seq items n, slots := sl }/\R (.ok (.ret Value.notImplemented)) s) :=
 .of_wp fun prog w A R s h => by
  obtain ⟨hp, g, d, tk, os⟩ := s
  obtain ⟨hl, h⟩ := h
  wp_walk
  exact ⟨_, rfl, h⟩
theorem op_repL : OpR X (binaryOp .Mult) (fun x y H Q => ∃ l k xs, x = .ref l/\y = .int k/\SqL X.K H l xs/\-(2 ^ 63)<=k/\k < 2 ^ 63/\xs.length * k.toNat<=sizeLine/\∀ p, H p = none->Q (.ref p) (upd H p (.lst (List.replicate k.toNat xs).flatten))) := by
 intro pins s σ H x y v u Q I rx ry h
 obtain ⟨l, k, xs, rfl, rfl, hH, h1, h2, hz, q⟩ := h
 cases rx
 obtain ⟨t, rfl⟩ := ry
 obtain ⟨its, r, pl, z⟩ := I.list hH
 have hl := r.length
 obtain ⟨⟨cls, dd, data, sl⟩, n, e, ec, ed, es⟩ := pl
 simp only at ec es
 subst ec es
 have hlen : its.toArray.size * k.toNat<=sizeLine := by rw [QnK, <-hl]; exact hz
 have hcap : ¬ its.toArray.size * k.toNat > (2 ^ 63 - 1) / 8 := by
  have : (sizeLine : Nat)<=(2 ^ 63 - 1) / 8 := by decide
  omega
 have hfit : ¬ (!Builtin.List.listFitsIndex k) = true := by rw [fitsIndex_both h1 h2]; exact QnE
 have hlong : ¬ Builtin.List.listTooLong (its.toArray.size * k.toNat) = true := by rw [QjF hlen]; exact QnE
 have f0 : ∀ m : Nat, List.foldl (fun x1 x2 => x1 ++ x2) #[] (List.replicate m its.toArray) = (List.replicate m its).flatten.toArray := fun m => by have := QhP its m []; rw [List.nil_append] at this; exact this
 have hnew : List.foldl (fun x1 x2 => x1 ++ x2) #[] (List.replicate (if its.toArray.isEmpty = true then 0 else k.toNat) its.toArray) = (List.replicate k.toNat its).flatten.toArray := by
  rw [f0]
  cases its with
  | nil => simp
  | cons a r' => rw [if_neg (by simp)]
 refine wpAny_binaryOp_repeat_ref (T := "list") (U := "int") (by decide) ⟨_, e, rfl⟩ (fun s' => typeIs_int s' k t) noFill_list_mul F.fills_int_mul F.slot_int_rmul repeat_list F.slot_int_index.lookup
  (call_meets F.slot_int_rmul (typeIs_int s k t) F.entry_int_rmul (F.args_int_rmul_2 _ _) (QmA k t l its.toArray n dd sl) ⟨e, rfl, ⟨_, e, rfl⟩, call_meets F.slot_list_mul ⟨_, e, rfl⟩ F.entry_list_mul (F.args_list_mul_2 _ _) (Qmi l its.toArray n k t dd sl hfit hcap hlong) ⟨e, ?_⟩⟩)
 rw [hnew]
 exact ⟨.ref _, _, I.lnew (t' := s.toks) (r.rep k.toNat) (by rw [len_rep, Nat.mul_comm]; exact hz), rfl, q _ I.fresh⟩
theorem RelWs.rep {K : PySem.W.Frag} {ι : Nat->Addr} {N : Nat} {G : Hp} {vs : List V} {ws : List W} (r : RelWs K ι N G vs ws) : ∀ k : Nat, RelWs K ι N G (List.replicate k vs).flatten (List.replicate k ws).flatten
 | 0 => .nil
 | k + 1 => by rw [List.replicate_succ, List.replicate_succ, List.flatten_cons, List.flatten_cons]; exact r.append (RelWs.rep r k)
theorem opw_mulI : OpW X (binaryOp .Mult) opMulI := opw_I op_mul (fun _ _ _ => rfl) fun a b st h => by
 cases a <;> cases b <;> first | rfl | exact absurd ⟨rfl, rfl⟩ (h _ _)
theorem opw_mul : OpW X (binaryOp .Mult) Qbf := by
 intro pins s σ H ι G st x y w1 w2 v u Q I sr rx ry r1 r2 q
 have rep : ∀ {a : Addr} {k : Int} {xs : List V} {ws : List W}, RelV (.ref a) v->RelV (.int k) u->SqL X.K H a xs->RelWs X.K ι st.nxt G xs ws->wpW X ι st.nxt G (repO (some ws) k st) Q->wpAny (model X.prog X.w) X.A (binaryOp .Mult v u) (EP X pins σ Q) X.xe s := by
  intro a k xs ws rx ry s1 t1 q
  have q' : wpW X ι st.nxt G (if (-(2 ^ 63)<=k/\k < 2 ^ 63)/\ws.length * k.toNat<=sizeLine then .ok (.lst (List.replicate k.toNat ws).flatten) st else .stuck) Q := q
  by_cases hl : (-(2 ^ 63)<=k/\k < 2 ^ 63)/\ws.length * k.toNat<=sizeLine
  ·rw [if_pos hl] at q'
   refine op_repL pins s σ H _ _ v u Q I rx ry ⟨_, _, _, rfl, rfl, s1, hl.1.1, hl.1.2, by rw [t1.length]; exact hl.2, fun p hp => ?_⟩
   obtain ⟨sr2, e2⟩ := sr.laid (o := .lst _) hp
   exact q' _ ι _ _ e2 sr2 (.lst (.inl (.inl QaA)) ((t1.rep _).mono e2))
  ·rw [if_neg hl] at q'; exact q'.elim
 unfold Qbf at q
 split at q
 ·cases r1 with
  | lst s1 t1 => cases r2; exact rep rx ry (sr.sub.seq s1) t1 q
 ·rename_i n k
  cases r1 with
  | ref hn =>
   cases r2
   cases hm : MO.items (st.mu n) with
   | none => rw [hm] at q; exact (show False from q).elim
   | some xs =>
    rw [hm] at q
    obtain ⟨vs, h1, h2⟩ := Qbv sr hm
    exact rep rx ry h1 h2 q
 ·exact opw_mulI pins s σ H ι G st x y w1 w2 v u Q I sr rx ry r1 r2 q
theorem opw_div : OpW X (binaryOp .FloorDiv) Qay := opw_I op_fdiv (fun _ _ _ => rfl) fun a b st h => by
 cases a <;> cases b <;> first | rfl | exact absurd ⟨rfl, rfl⟩ (h _ _)
theorem opw_mod : OpW X (binaryOp .Mod) Qap := opw_I op_mod (fun _ _ _ => rfl) fun a b st h => by
 cases a <;> cases b <;> first | rfl | exact absurd ⟨rfl, rfl⟩ (h _ _)
def QhA : W->S->R W := fun a st => match a with
 | .int i => .ok (.int (-i)) st
 | _ => .stuck
def run1 (ra : Run) (op : W->S->R W) : Run := fun Γ st => (ra Γ st).bind op
theorem pd_neg {a : Expr} {pos : Pos} {ra : Run} (ha : PD X a ra) : PD X (.UnaryOp .USub a pos) (run1 ra QhA) := by
 refine PE.imp (pe_un un_neg ha) fun σ H Q h => ?_
 obtain ⟨ι, G, st, Γ, en, sr, q⟩ := h
 refine ⟨ι, G, st, Γ, en, sr, wpW.bind q fun w st1 v ι1 G1 H1 _ e1 sr1 r1 q1 => ?_⟩
 cases w with
 | int i => cases r1; exact ⟨i, rfl, q1 _ ι1 G1 H1 (Ext.refl _ _ _) sr1 (.int _)⟩
 | _ => exact (show False from q1).elim
def opLt : Op2 := fun a b st => match a, b with
 | .int i, .int j => .ok (.bl (decide (i < j))) st
 | .str x, .str y => .ok (.bl (decide (x.cps.toList < y.cps.toList))) st
 | _, _ => .stuck
def opLe : Op2 := fun a b st => match a, b with
 | .int i, .int j => .ok (.bl (decide (i<=j))) st
 | _, _ => .stuck
def opGt : Op2 := fun a b st => match a, b with
 | .int i, .int j => .ok (.bl (decide (j < i))) st
 | _, _ => .stuck
theorem opw_B {f : Value->Value->Sem Value} {g : Int->Int->Bool} {op : Op2} (h : OpR X f (rI0 fun i j => .bl (g i j)))
  (hi : ∀ i j st, op (.int i) (.int j) st = .ok (.bl (g i j)) st) (ho : ∀ a b st, (∀ i j, ¬ (a = .int i/\b = .int j))->op a b st = .stuck) : OpW X f op := by
 intro pins s σ H ι G st x y w1 w2 v u Q I sr rx ry r1 r2 q
 by_cases hw : ∃ i j, w1 = .int i/\w2 = .int j
 ·obtain ⟨i, j, rfl, rfl⟩ := hw
  cases r1; cases r2
  rw [hi] at q
  exact h pins s σ H _ _ v u Q I rx ry ⟨i, j, rfl, rfl, q _ ι G H (Ext.refl _ _ _) sr (.bl _)⟩
 ·rw [ho _ _ _ fun i j z => hw ⟨i, j, z.1, z.2⟩] at q
  exact (show False from q).elim
theorem opw_le : OpW X (compareOp .LtE) opLe := opw_B op_le (fun _ _ _ => rfl) fun a b st h => by
 cases a <;> cases b <;> first | rfl | exact absurd ⟨rfl, rfl⟩ (h _ _)
theorem opw_gt : OpW X (compareOp .Gt) opGt := opw_B op_gt (fun _ _ _ => rfl) fun a b st h => by
 cases a <;> cases b <;> first | rfl | exact absurd ⟨rfl, rfl⟩ (h _ _)
theorem opw_lt : OpW X (compareOp .Lt) opLt := by
 intro pins s σ H ι G st x y w1 w2 v u Q I sr rx ry r1 r2 q
 cases w1 with
 | int i =>
  cases w2 with
  | int j => cases r1; cases r2; exact op_lt pins s σ H _ _ v u Q I rx ry ⟨i, j, rfl, rfl, q _ ι G H (Ext.refl _ _ _) sr (.bl _)⟩
  | _ => exact (show False from q).elim
 | str i =>
  cases w2 with
  | str j => cases r1; cases r2; exact QlR pins s σ H _ _ v u Q I rx ry ⟨i, j, rfl, rfl, q _ ι G H (Ext.refl _ _ _) sr (.bl _)⟩
  | _ => exact (show False from q).elim
 | _ => exact (show False from q).elim
def QcB : W->Option V
 | .non => some .non
 | .bl b => some (.bl b)
 | .int i => some (.int i)
 | .str x => some (.str x)
 | _ => none
def QkD : W->Bool
 | .tup _ => true
 | .lst _ => true
 | _ => false
def Qaj (f : W->W->Option Bool) : List W->List W->Option Bool
 | x :: xs, y :: ys => match f x y, Qaj f xs ys with
  | some a, some b => some (a && b)
  | _, _ => none
 | _, _ => some true
def eqD : Nat->W->W->Option Bool
 | 0, _, _ => none
 | n + 1, a, b => match QcB a, QcB b with
  | some x, some y => some (eqV x y)
  | some _, none => if QkD b then some false else none
  | none, some _ => if QkD a then some false else none
  | none, none => match a, b with
   | .tup xs, .tup ys => (Qaj (eqD n) xs ys).map fun r => r && xs.length == ys.length
   | .lst xs, .lst ys => if xs.length = ys.length then Qaj (eqD n) xs ys else some false
   | .tup _, .lst _ => some false
   | .lst _, .tup _ => some false
   | _, _ => none
theorem Qfp {f : W->W->Option Bool} : ∀ {xs ys : List W} {r : Bool}, Qaj f xs ys = some r ->
  ∃ e : Nat->Bool, (∀ (j : Nat) x y, xs[j]? = some x->ys[j]? = some y->f x y = some (e j))/\(List.range (min xs.length ys.length)).all e = r
 | [], ys, r, h => by
  refine ⟨fun _ => true, fun j x y hx _ => by simp at hx, ?_⟩
  cases h
  simp
 | x :: xs, [], r, h => by
  refine ⟨fun _ => true, fun j x y _ hy => by simp at hy, ?_⟩
  cases h
  simp
 | x :: xs, y :: ys, r, h => by
  unfold Qaj at h
  cases e1 : f x y with
  | none => rw [e1] at h; cases h
  | some a =>
   cases e2 : Qaj f xs ys with
   | none => rw [e1, e2] at h; cases h
   | some b =>
    rw [e1, e2] at h
    obtain ⟨e, h1, h2⟩ := Qfp e2
    refine ⟨fun j => match j with | 0 => a | j + 1 => e j, fun j x' y' hx hy => ?_, ?_⟩
    ·cases j with
     | zero => simp at hx hy; subst hx hy; exact e1
     | succ j => exact h1 j x' y' (by simpa using hx) (by simpa using hy)
    ·have em : min (x :: xs).length (y :: ys).length = min xs.length ys.length + 1 := by simp only [QnU]; omega
     rw [em, List.range_succ_eq_map, List.all_cons, List.all_map]
     cases h
     show (a && (List.range (min xs.length ys.length)).all e) = (a && b)
     rw [h2]
theorem Qbo {K : PySem.W.Frag} {ι : Nat->Addr} {N : Nat} {G : Hp} {v x : V} {w : W} (r : RelW K ι N G v w) (h : QcB w = some x) : v = x/\QdL x = true := by
 cases r <;> first | (cases h; exact ⟨rfl, rfl⟩) | cases h
theorem QgT {K : PySem.W.Frag} {ι : Nat->Addr} {N : Nat} {G : Hp} (inT : ∀ a xs ys, SqT K G a xs->SqT K G a ys->xs = ys) (inL : ∀ a xs ys, SqL K G a xs->SqL K G a ys->xs = ys) (ntl : ∀ a xs ys, SqT K G a xs->SqL K G a ys->False) :
  ∀ (n : Nat) {v : V} {w1 w2 : W} {b : Bool}, RelW K ι N G v w1->RelW K ι N G v w2->eqD n w1 w2 = some b->b = true
 | 0, _, _, _, _, _, _, h => by cases h
 | n + 1, v, w1, w2, b, r1, r2, h => by
  have items : ∀ {xs : List V} {ws1 ws2 : List W} {r : Bool}, RelWs K ι N G xs ws1->RelWs K ι N G xs ws2->Qaj (eqD n) ws1 ws2 = some r->r = true := by
   intro xs
   induction xs with
   | nil => intro ws1 ws2 r t1 t2 e; cases t1; cases t2; cases e; rfl
   | cons x xs ih =>
    intro ws1 ws2 r t1 t2 e
    cases t1 with
    | @cons _ w _ wt1 a1 t1 =>
     cases t2 with
     | @cons _ w' _ wt2 a2 t2 =>
      unfold Qaj at e
      cases e1 : eqD n w w' with
      | none => rw [e1] at e; cases e
      | some p =>
       cases e2 : Qaj (eqD n) wt1 wt2 with
       | none => rw [e1, e2] at e; cases e
       | some q =>
        rw [e1, e2] at e
        cases e
        rw [QgT inT inL ntl n a1 a2 e1, ih t1 t2 e2]; rfl
  unfold eqD at h
  cases f1 : QcB w1 with
  | some x =>
   obtain ⟨ex, fx⟩ := Qbo r1 f1
   cases f2 : QcB w2 with
   | some y =>
    obtain ⟨ey, fy⟩ := Qbo r2 f2
    rw [f1, f2] at h
    have h' : some (eqV x y) = some b := h
    cases h'
    rw [<-ex, <-ey]
    exact QgS (by rw [ex]; exact fx)
   | none =>
    rw [f1, f2] at h
    cases r2 <;> first | (cases f2; done) | (subst ex; cases fx; done)
  | none =>
   cases f2 : QcB w2 with
   | some y =>
    obtain ⟨ey, fy⟩ := Qbo r2 f2
    cases r1 <;> first | (cases f1; done) | (subst ey; cases fy; done)
   | none =>
    rw [f1, f2] at h
    cases r1 with
    | tup s1 c1 t1 =>
     rename_i a xs ws1
     cases w2 with
     | tup ws2 =>
      cases r2 with
      | tup s2 c2 t2 =>
       cases inT _ _ _ s1 s2
       have h' : (Qaj (eqD n) ws1 ws2).map (fun r => r && ws1.length == ws2.length) = some b := h
       cases e : Qaj (eqD n) ws1 ws2 with
       | none => rw [e] at h'; cases h'
       | some r =>
        rw [e] at h'
        cases h'
        rw [items t1 t2 e, <-t1.length, <-t2.length]
        simp
     | lst ws2 =>
      cases r2 with
      | lst s2 t2 => exact (ntl _ _ _ s1 s2).elim
     | _ => cases h
    | lst s1 t1 =>
     rename_i a xs ws1
     cases w2 with
     | lst ws2 =>
      cases r2 with
      | lst s2 t2 =>
       cases inL _ _ _ s1 s2
       have h' : (if ws1.length = ws2.length then Qaj (eqD n) ws1 ws2 else some false) = some b := h
       rw [if_pos (by rw [<-t1.length, <-t2.length])] at h'
       exact items t1 t2 h'
     | tup ws2 =>
      cases r2 with
      | tup s2 c2 t2 => exact (ntl _ _ _ s2 s1).elim
     | _ => cases h
    | _ => first | (cases f1; done) | (cases w2 <;> cases h)
end
end DL
namespace DL
open PySem PySem.Spec PyProof.Rows L2
section
variable {X : Cx}
def EqB (A : Around) (s : Shared) (u v : Value) (b : Bool) : Prop := SeqAt.EqAt A s u v b/\SeqAt.RcAt A s u v b/\SeqAt.RcNeAt A s u v (!b)
theorem eqB_V {A : Around} {s : Shared} {y x : V} {u v : Value} (ry : RelV y u) (rx : RelV x v) (fy : QdL y = true) (fx : QdL x = true) : EqB A s u v (eqV y x) := by
 refine ⟨QmX ry rx fy fx, ?_⟩
 cases y with
 | non =>
  cases ry
  cases x with
  | non => cases rx; exact ⟨SeqAt.RcAt.none_none, SeqAt.RcNeAt.none_none⟩
  | bl b => cases rx; exact ⟨SeqAt.RcAt.none_bool b, SeqAt.RcNeAt.none_bool b⟩
  | int b => obtain ⟨t, rfl⟩ := rx; exact ⟨SeqAt.RcAt.none_int b t, SeqAt.RcNeAt.none_int b t⟩
  | str b => obtain ⟨t, rfl⟩ := rx; exact ⟨SeqAt.RcAt.none_str b t, SeqAt.RcNeAt.none_str b t⟩
  | _ => exact absurd (show false = true from fx) QnE
 | bl a =>
  cases ry
  cases x with
  | non => cases rx; exact ⟨SeqAt.RcAt.bool_none a, SeqAt.RcNeAt.bool_none a⟩
  | bl b => cases rx; exact ⟨SeqAt.RcAt.bool_bool a b, SeqAt.RcNeAt.bool_bool a b⟩
  | int b => obtain ⟨t, rfl⟩ := rx; exact ⟨SeqAt.RcAt.bool_int a b t, SeqAt.RcNeAt.bool_int a b t⟩
  | str b => obtain ⟨t, rfl⟩ := rx; exact ⟨SeqAt.RcAt.bool_str a b t, SeqAt.RcNeAt.bool_str a b t⟩
  | _ => exact absurd (show false = true from fx) QnE
 | int a =>
  obtain ⟨t', rfl⟩ := ry
  cases x with
  | non => cases rx; exact ⟨SeqAt.RcAt.int_none a t', SeqAt.RcNeAt.int_none a t'⟩
  | bl b => cases rx; exact ⟨SeqAt.RcAt.int_bool a t' b, SeqAt.RcNeAt.int_bool a t' b⟩
  | int b => obtain ⟨t, rfl⟩ := rx; exact ⟨SeqAt.RcAt.int_int a t' b t, SeqAt.RcNeAt.int_int a t' b t⟩
  | str b => obtain ⟨t, rfl⟩ := rx; exact ⟨SeqAt.RcAt.int_str a t' b t, SeqAt.RcNeAt.int_str a t' b t⟩
  | _ => exact absurd (show false = true from fx) QnE
 | str a =>
  obtain ⟨t', rfl⟩ := ry
  cases x with
  | non => cases rx; exact ⟨SeqAt.RcAt.str_none a t', SeqAt.RcNeAt.str_none a t'⟩
  | bl b => cases rx; exact ⟨SeqAt.RcAt.str_bool a t' b, SeqAt.RcNeAt.str_bool a t' b⟩
  | int b => obtain ⟨t, rfl⟩ := rx; exact ⟨SeqAt.RcAt.str_int a t' b t, SeqAt.RcNeAt.str_int a t' b t⟩
  | str b => obtain ⟨t, rfl⟩ := rx; exact ⟨SeqAt.RcAt.str_str a t' b t, SeqAt.RcNeAt.str_str a t' b t⟩
  | _ => exact absurd (show false = true from fx) QnE
 | _ => exact absurd (show false = true from fy) QnE
section
variable {A : Around} {s : Shared} {y : V} {u : Value} {l : Addr} {items : Array Value}
theorem QgV (ry : RelV y u) (fy : QdL y = true) (hl : s.heap.IsList l items) (hu : A.units < cLine) : EqB A s u (.ref l) false := by
 cases y with
 | non => cases ry; exact ⟨SeqAt.EqAt.none_list hl hu, SeqAt.RcAt.none_list hl hu, SeqAt.RcNeAt.none_list hl hu⟩
 | bl b => cases ry; exact ⟨SeqAt.EqAt.bool_list b hl hu, SeqAt.RcAt.bool_list b hl hu, SeqAt.RcNeAt.bool_list b hl hu⟩
 | int b => obtain ⟨t, rfl⟩ := ry; exact ⟨SeqAt.EqAt.int_list b t hl hu, SeqAt.RcAt.int_list b t hl hu, SeqAt.RcNeAt.int_list b t hl hu⟩
 | str b => obtain ⟨t, rfl⟩ := ry; exact ⟨SeqAt.EqAt.str_list b t hl hu, SeqAt.RcAt.str_list b t hl hu, SeqAt.RcNeAt.str_list b t hl hu⟩
 | _ => exact absurd (show false = true from fy) QnE
theorem QgU (ry : RelV y u) (fy : QdL y = true) (hl : s.heap.IsList l items) (hu : A.units < cLine) : EqB A s (.ref l) u false := by
 cases y with
 | non => cases ry; exact ⟨SeqAt.EqAt.list_none hl hu, SeqAt.RcAt.list_none hl hu, SeqAt.RcNeAt.list_none hl hu⟩
 | bl b => cases ry; exact ⟨SeqAt.EqAt.list_bool b hl hu, SeqAt.RcAt.list_bool b hl hu, SeqAt.RcNeAt.list_bool b hl hu⟩
 | int b => obtain ⟨t, rfl⟩ := ry; exact ⟨SeqAt.EqAt.list_int b t hl hu, SeqAt.RcAt.list_int b t hl hu, SeqAt.RcNeAt.list_int b t hl hu⟩
 | str b => obtain ⟨t, rfl⟩ := ry; exact ⟨SeqAt.EqAt.list_str b t hl hu, SeqAt.RcAt.list_str b t hl hu, SeqAt.RcNeAt.list_str b t hl hu⟩
 | _ => exact absurd (show false = true from fy) QnE
theorem QfJ (ry : RelV y u) (fy : QdL y = true) (hl : s.heap.IsTuple l items) (hu : A.units < cLine) : EqB A s u (.ref l) false := by
 cases y with
 | non => cases ry; exact ⟨SeqAt.EqAt.none_tuple hl hu, SeqAt.RcAt.none_tuple hl hu, SeqAt.RcNeAt.none_tuple hl hu⟩
 | bl b => cases ry; exact ⟨SeqAt.EqAt.bool_tuple b hl hu, SeqAt.RcAt.bool_tuple b hl hu, SeqAt.RcNeAt.bool_tuple b hl hu⟩
 | int b => obtain ⟨t, rfl⟩ := ry; exact ⟨SeqAt.EqAt.int_tuple b t hl hu, SeqAt.RcAt.int_tuple b t hl hu, SeqAt.RcNeAt.int_tuple b t hl hu⟩
 | str b => obtain ⟨t, rfl⟩ := ry; exact ⟨SeqAt.EqAt.str_tuple b t hl hu, SeqAt.RcAt.str_tuple b t hl hu, SeqAt.RcNeAt.str_tuple b t hl hu⟩
 | _ => exact absurd (show false = true from fy) QnE
theorem QfI (ry : RelV y u) (fy : QdL y = true) (hl : s.heap.IsTuple l items) (hu : A.units < cLine) : EqB A s (.ref l) u false := by
 cases y with
 | non => cases ry; exact ⟨SeqAt.EqAt.tuple_none hl hu, SeqAt.RcAt.tuple_none hl hu, SeqAt.RcNeAt.tuple_none hl hu⟩
 | bl b => cases ry; exact ⟨SeqAt.EqAt.tuple_bool b hl hu, SeqAt.RcAt.tuple_bool b hl hu, SeqAt.RcNeAt.tuple_bool b hl hu⟩
 | int b => obtain ⟨t, rfl⟩ := ry; exact ⟨SeqAt.EqAt.tuple_int b t hl hu, SeqAt.RcAt.tuple_int b t hl hu, SeqAt.RcNeAt.tuple_int b t hl hu⟩
 | str b => obtain ⟨t, rfl⟩ := ry; exact ⟨SeqAt.EqAt.tuple_str b t hl hu, SeqAt.RcAt.tuple_str b t hl hu, SeqAt.RcNeAt.tuple_str b t hl hu⟩
 | _ => exact absurd (show false = true from fy) QnE
end
section
variable {pins : List (Addr × Obj)} {σ : St} {H : Hp} {s : Shared} {ι : Nat->Addr} {N : Nat}
theorem list_inj (I : Inv X pins σ H s) {a : Addr} {xs ys : List V} (h1 : SqL X.K H a xs) (h2 : SqL X.K H a ys) : xs = ys := by
 obtain ⟨its, r, pl, _⟩ := I.list h1
 obtain ⟨its2, r2, pl2, _⟩ := I.list h2
 obtain ⟨o, n, e, _, _, d⟩ := pl
 obtain ⟨o2, n2, e2, _, _, d2⟩ := pl2
 rw [e] at e2; cases e2
 rw [d] at d2; cases d2
 exact r.inj r2
theorem QcZ (I : Inv X pins σ H s) {a : Addr} {xs ys : List V} (h1 : SqT X.K H a xs) (h2 : SqL X.K H a ys) : False := by
 obtain ⟨its, r, pl, _⟩ := I.tuple h1
 obtain ⟨its2, r2, pl2, _⟩ := I.list h2
 obtain ⟨o, e, c, _⟩ := pl
 obtain ⟨o2, n2, e2, c2, _, _⟩ := pl2
 rw [e] at e2; cases e2
 rw [c] at c2
 injection c2 with h
 exact absurd h (by decide)
theorem QhT (I : Inv X pins σ H s) : ∀ (n : Nat) {w1 w2 : W} {b : Bool} {v1 v2 : V} {u1 u2 : Value} {A : Around}, eqD n w1 w2 = some b->RelW X.K ι N H v1 w1->RelW X.K ι N H v2 w2->RelV v1 u1->RelV v2 u2->A.units + n < cLine->EqB A s u1 u2 b
 | 0, _, _, _, _, _, _, _, _, h, _, _, _, _, _ => by cases h
 | n + 1, w1, w2, b, v1, v2, u1, u2, A, h, r1, r2, q1, q2, hA => by
  have hA1 : A.units < cLine := by omega
  have its_at : ∀ {xs ys : List V} {ws1 ws2 : List W} {its its2 : List Value} {e : Nat->Bool}, RelWs X.K ι N H xs ws1->RelWs X.K ι N H ys ws2->Vals xs its->Vals ys its2->(∀ (j : Nat) x y, ws1[j]? = some x->ws2[j]? = some y->eqD n x y = some (e j)) ->
    ∀ j (h1 : j < its.toArray.size) (h2 : j < its2.toArray.size), SeqAt.EqAt A.in1 s its.toArray[j] its2.toArray[j] (e j) := by
   intro xs ys ws1 ws2 its its2 e t1 t2 p1 p2 he j h1 h2
   have h1' : j < its.length := by simpa using h1
   have h2' : j < its2.length := by simpa using h2
   obtain ⟨x', ex, rx⟩ := p1.at h1'
   obtain ⟨y', ey, ry⟩ := p2.at h2'
   obtain ⟨w, ew, rw1⟩ := t1.get' ex
   obtain ⟨w', ew', rw2⟩ := t2.get' ey
   have z1 : its.toArray[j] = its[j] := by simp
   have z2 : its2.toArray[j] = its2[j] := by simp
   rw [z1, z2]
   exact (QhT I n (A := A.in1) (he j w w' ew ew') rw1 rw2 rx ry (by show A.units + 1 + n < cLine; omega)).1
  have keep := h
  unfold eqD at h
  cases f1 : QcB w1 with
  | some x =>
   obtain ⟨ex, fx⟩ := Qbo r1 f1
   subst ex
   cases f2 : QcB w2 with
   | some y =>
    obtain ⟨ey, fy⟩ := Qbo r2 f2
    subst ey
    rw [f1, f2] at h
    have h' : some (eqV v1 v2) = some b := h
    cases h'
    exact eqB_V q1 q2 fx fy
   | none =>
    rw [f1, f2] at h
    have h' : (if QkD w2 then some false else none) = some b := h
    cases r2 with
    | tup s2 c2 t2 =>
     cases h'
     cases q2
     obtain ⟨its, _, pl, _⟩ := I.tuple s2
     exact QfJ q1 fx pl hA1
    | lst s2 t2 =>
     cases h'
     cases q2
     obtain ⟨its, _, pl, _⟩ := I.list s2
     exact QgV q1 fx pl.isList hA1
    | _ => first | (cases f2; done) | (cases h'; done)
  | none =>
   cases f2 : QcB w2 with
   | some y =>
    obtain ⟨ey, fy⟩ := Qbo r2 f2
    subst ey
    rw [f1, f2] at h
    have h' : (if QkD w1 then some false else none) = some b := h
    cases r1 with
    | tup s1 c1 t1 =>
     cases h'
     cases q1
     obtain ⟨its, _, pl, _⟩ := I.tuple s1
     exact QfI q2 fy pl hA1
    | lst s1 t1 =>
     cases h'
     cases q1
     obtain ⟨its, _, pl, _⟩ := I.list s1
     exact QgU q2 fy pl.isList hA1
    | _ => first | (cases f1; done) | (cases h'; done)
   | none =>
    rw [f1, f2] at h
    cases r1 with
    | tup s1 c1 t1 =>
     rename_i a xs ws1
     cases q1
     obtain ⟨its, p1, pl1, _⟩ := I.tuple s1
     cases w2 with
     | tup ws2 =>
      cases r2 with
      | tup s2 c2 t2 =>
       rename_i a2 ys
       cases q2
       obtain ⟨its2, p2, pl2, _⟩ := I.tuple s2
       have h' : (Qaj (eqD n) ws1 ws2).map (fun r => r && ws1.length == ws2.length) = some b := h
       cases e : Qaj (eqD n) ws1 ws2 with
       | none => rw [e] at h'; cases h'
       | some r =>
        rw [e] at h'
        obtain ⟨ef, he1, he2⟩ := Qfp e
        have l1 : ws1.length = its.toArray.size := by rw [QnK, <-p1.length, t1.length]
        have l2 : ws2.length = its2.toArray.size := by rw [QnK, <-p2.length, t2.length]
        have eb : b = ((List.range (min its.toArray.size its2.toArray.size)).all ef && its.toArray.size == its2.toArray.size) := by
         cases h'
         rw [<-l1, <-l2, he2]
        have at1 := its_at t1 t2 p1 p2 he1
        have rc : SeqAt.RcAt A s (.ref a) (.ref a2) b := by
         rw [eb]
         exact SeqAt.RcAt.tuples (e := ef) pl1 pl2 hA1 at1
        refine ⟨?_, rc, ?_⟩
        ·by_cases ha : a = a2
         ·subst ha
          have ht : b = true := QgT (fun a xs ys h1 h2 => I.tuple_inj h1 h2) (fun a xs ys h1 h2 => list_inj I h1 h2) (fun a xs ys h1 h2 => QcZ I h1 h2) (n + 1) (.tup s1 c1 t1) (.tup s2 c2 t2) keep
          rw [ht]; exact SeqAt.EqAt.same _
         ·exact SeqAt.EqAt.of_refs ha rc
        ·rw [eb]
         exact SeqAt.RcNeAt.tuples (e := ef) pl1 pl2 hA1 at1
     | lst ws2 =>
      cases r2 with
      | lst s2 t2 =>
       cases q2
       cases h
       obtain ⟨its2, p2, pl2, _⟩ := I.list s2
       exact ⟨SeqAt.EqAt.tuple_list pl1 pl2.isList hA1, SeqAt.RcAt.tuple_list pl1 pl2.isList hA1, SeqAt.RcNeAt.tuple_list pl1 pl2.isList hA1⟩
     | _ => cases h
    | lst s1 t1 =>
     rename_i a xs ws1
     cases q1
     obtain ⟨its, p1, pl1, _⟩ := I.list s1
     cases w2 with
     | lst ws2 =>
      cases r2 with
      | lst s2 t2 =>
       rename_i a2 ys
       cases q2
       obtain ⟨its2, p2, pl2, _⟩ := I.list s2
       have l1 : ws1.length = its.toArray.size := by rw [QnK, <-p1.length, t1.length]
       have l2 : ws2.length = its2.toArray.size := by rw [QnK, <-p2.length, t2.length]
       have h' : (if ws1.length = ws2.length then Qaj (eqD n) ws1 ws2 else some false) = some b := h
       by_cases hl : ws1.length = ws2.length
       ·rw [if_pos hl] at h'
        obtain ⟨ef, he1, he2⟩ := Qfp h'
        have hsz : its.toArray.size = its2.toArray.size := by rw [<-l1, <-l2, hl]
        have eb : b = (List.range its.toArray.size).all ef := by
         rw [<-he2, <-l1, <-hl, Nat.min_self]
        have at1 := its_at t1 t2 p1 p2 he1
        have rc : SeqAt.RcAt A s (.ref a) (.ref a2) b := by
         rw [eb]
         exact SeqAt.RcAt.lists (e := ef) pl1.isList pl2.isList hsz hA1 at1
        refine ⟨?_, rc, ?_⟩
        ·by_cases ha : a = a2
         ·subst ha
          have ht : b = true := QgT (fun a xs ys h1 h2 => I.tuple_inj h1 h2) (fun a xs ys h1 h2 => list_inj I h1 h2) (fun a xs ys h1 h2 => QcZ I h1 h2) (n + 1) (.lst s1 t1) (.lst s2 t2) keep
          rw [ht]; exact SeqAt.EqAt.same _
         ·exact SeqAt.EqAt.of_refs ha rc
        ·rw [eb]
         exact SeqAt.RcNeAt.lists (e := ef) pl1.isList pl2.isList hsz hA1 at1
       ·rw [if_neg hl] at h'
        cases h'
        have hsz : (its.toArray.size != its2.toArray.size) = true := by
         rw [<-l1, <-l2]; simpa using hl
        have rc : SeqAt.RcAt A s (.ref a) (.ref a2) false := SeqAt.RcAt.lists_lengths pl1.isList pl2.isList hsz hA1
        refine ⟨SeqAt.EqAt.of_refs (fun ha => ?_) rc, rc, SeqAt.RcNeAt.lists_lengths pl1.isList pl2.isList hsz hA1⟩
        subst ha
        have := list_inj I s1 s2
        subst this
        exact hl (by rw [<-t1.length, <-t2.length])
     | tup ws2 =>
      cases r2 with
      | tup s2 c2 t2 =>
       cases q2
       cases h
       obtain ⟨its2, p2, pl2, _⟩ := I.tuple s2
       exact ⟨SeqAt.EqAt.list_tuple pl1.isList pl2 hA1, SeqAt.RcAt.list_tuple pl1.isList pl2 hA1, SeqAt.RcNeAt.list_tuple pl1.isList pl2 hA1⟩
     | _ => cases h
    | _ => first | (cases f1; done) | (cases w2 <;> cases h)
end
theorem SR.look {K : PySem.W.Frag} {ι : Nat->Addr} {st : S} {G H : Hp} (h : SR K ι st G H) : Ext ι st.nxt G ι st.nxt H := ⟨QnL _, fun _ _ => rfl, h.sub⟩
def inStr (i j : Str) : Bool := !(Builtin.Str.occurrences j i 0 j.length 1).isEmpty
def inD (x : W) : List W->Option Bool
 | [] => some false
 | y :: ys => match eqD 12 y x, inD x ys with
  | some a, some b => some (a || b)
  | _, _ => none
def QaB (st : S) : W->Option (List W)
 | .lst xs => some xs
 | .tup xs => some xs
 | .ref n => MO.items (st.mu n)
 | _ => none
def inW (st : S) (a b : W) : Option Bool := match a, b with
 | .str i, .str j => some (inStr i j)
 | x, y => match QaB st y with
  | some ys => inD x ys
  | none => none
def opIn0 : Op2 := fun a b st => match inW st a b with
 | some r => .ok (.bl r) st
 | none => .stuck
def QjD : Op2 := fun a b st => match inW st a b with
 | some r => .ok (.bl (!r)) st
 | none => .stuck
theorem Qcr {K : PySem.W.Frag} {ι : Nat->Addr} {st : S} {G H : Hp} {v : V} {w : W} {ws : List W} (sr : SR K ι st G H) (r : RelW K ι st.nxt G v w) (h : QaB st w = some ws) : ∃ a xs, v = .ref a/\(SqL K H a xs\/SqT K H a xs)/\RelWs K ι st.nxt G xs ws := by
 cases r with
 | tup s1 c1 t1 => cases h; exact ⟨_, _, rfl, .inr (sqT_same sr.sub s1), t1⟩
 | lst s1 t1 => cases h; exact ⟨_, _, rfl, .inl (sr.sub.seq s1), t1⟩
 | ref hn =>
  rename_i n
  have h : MO.items (st.mu n) = some ws := h
  cases e : st.mu n with
  | none => rw [e] at h; cases h
  | some o =>
   obtain ⟨_, _, h3⟩ := sr.live n o e
   cases o with
   | lst xs =>
    rw [e] at h
    cases h
    obtain ⟨vs, q, r⟩ := h3
    exact ⟨_, vs, rfl, .inl (SqL.of q), r⟩
   | dct ks vs => rw [e] at h; cases h
 | _ => cases h
theorem QmW {K : PySem.W.Frag} {ι : Nat->Addr} {N : Nat} {G : Hp} (inT : ∀ a xs ys, SqT K G a xs->SqT K G a ys->xs = ys) (inL : ∀ a xs ys, SqL K G a xs->SqL K G a ys->xs = ys) (ntl : ∀ a xs ys, SqT K G a xs->SqL K G a ys->False) :
  ∀ (n : Nat) {v : V} {w w' x : W} {c c' : Bool}, RelW K ι N G v w->RelW K ι N G v w'->eqD n w x = some c->eqD n w' x = some c'->c = c'
 | 0, _, _, _, _, _, _, _, _, h, _ => by cases h
 | n + 1, v, w, w', x, c, c', r1, r2, h1, h2 => by
  have items : ∀ {vs : List V} {ws1 ws2 ys : List W} {r r' : Bool}, RelWs K ι N G vs ws1->RelWs K ι N G vs ws2->Qaj (eqD n) ws1 ys = some r->Qaj (eqD n) ws2 ys = some r'->r = r' := by
   intro vs
   induction vs with
   | nil => intro ws1 ws2 ys r r' t1 t2 e e'; cases t1; cases t2; rw [e] at e'; exact Option.some.inj e'
   | cons x xs ih =>
    intro ws1 ws2 ys r r' t1 t2 e e'
    cases t1 with
    | @cons _ w1 _ wt1 a1 t1 =>
     cases t2 with
     | @cons _ w2 _ wt2 a2 t2 =>
      cases ys with
      | nil => cases e; cases e'; rfl
      | cons y ys =>
       unfold Qaj at e e'
       cases e1 : eqD n w1 y with
       | none => rw [e1] at e; cases e
       | some p =>
        cases e2 : Qaj (eqD n) wt1 ys with
        | none => rw [e1, e2] at e; cases e
        | some q =>
         cases e3 : eqD n w2 y with
         | none => rw [e3] at e'; cases e'
         | some p' =>
          cases e4 : Qaj (eqD n) wt2 ys with
          | none => rw [e3, e4] at e'; cases e'
          | some q' =>
           rw [e1, e2] at e
           rw [e3, e4] at e'
           cases e; cases e'
           rw [QmW inT inL ntl n a1 a2 e1 e3, ih t1 t2 e2 e4]
  unfold eqD at h1 h2
  cases f1 : QcB w with
  | some y =>
   obtain ⟨ey, fy⟩ := Qbo r1 f1
   cases f2 : QcB w' with
   | some z =>
    obtain ⟨ez, fz⟩ := Qbo r2 f2
    have : y = z := by rw [<-ey, <-ez]
    subst this
    cases f3 : QcB x with
    | some z =>
     rw [f1, f3] at h1; rw [f2, f3] at h2
     have g1 : some (eqV y z) = some c := h1
     have g2 : some (eqV y z) = some c' := h2
     rw [g1] at g2; exact Option.some.inj g2
    | none =>
     rw [f1, f3] at h1; rw [f2, f3] at h2
     have g1 : (if QkD x then some false else none) = some c := h1
     have g2 : (if QkD x then some false else none) = some c' := h2
     rw [g1] at g2; exact Option.some.inj g2
   | none => cases r2 <;> first | (cases f2; done) | (subst ey; cases fy; done)
  | none =>
   cases f2 : QcB w' with
   | some z =>
    obtain ⟨ez, fz⟩ := Qbo r2 f2
    cases r1 <;> first | (cases f1; done) | (subst ez; cases fz; done)
   | none =>
    rw [f1] at h1; rw [f2] at h2
    cases r1 with
    | tup s1 c1 t1 =>
     rename_i a xs ws1
     cases w' with
     | tup ws2 =>
      cases r2 with
      | tup s2 c2 t2 =>
       cases inT _ _ _ s1 s2
       cases f3 : QcB x with
       | some z => rw [f3] at h1 h2; cases h1; cases h2; rfl
       | none =>
        rw [f3] at h1 h2
        cases x with
        | tup ys =>
         have g1 : (Qaj (eqD n) ws1 ys).map (fun r => r && ws1.length == ys.length) = some c := h1
         have g2 : (Qaj (eqD n) ws2 ys).map (fun r => r && ws2.length == ys.length) = some c' := h2
         cases e1 : Qaj (eqD n) ws1 ys with
         | none => rw [e1] at g1; cases g1
         | some p =>
          cases e2 : Qaj (eqD n) ws2 ys with
          | none => rw [e2] at g2; cases g2
          | some q =>
           rw [e1] at g1; rw [e2] at g2
           cases g1; cases g2
           rw [items t1 t2 e1 e2, <-t1.length, <-t2.length]
        | lst ys => cases h1; cases h2; rfl
        | _ => cases h1
     | lst ws2 => cases r2 with | lst s2 t2 => exact (ntl _ _ _ s1 s2).elim
     | _ => first | (cases f2; done) | (cases f3 : QcB x <;> rw [f3] at h2 <;> first | (cases h2; done) | (cases x <;> cases h2))
    | lst s1 t1 =>
     rename_i a xs ws1
     cases w' with
     | lst ws2 =>
      cases r2 with
      | lst s2 t2 =>
       cases inL _ _ _ s1 s2
       cases f3 : QcB x with
       | some z => rw [f3] at h1 h2; cases h1; cases h2; rfl
       | none =>
        rw [f3] at h1 h2
        cases x with
        | lst ys =>
         have g1 : (if ws1.length = ys.length then Qaj (eqD n) ws1 ys else some false) = some c := h1
         have g2 : (if ws2.length = ys.length then Qaj (eqD n) ws2 ys else some false) = some c' := h2
         have hl : ws1.length = ws2.length := by rw [<-t1.length, <-t2.length]
         rw [<-hl] at g2
         by_cases hy : ws1.length = ys.length
         ·rw [if_pos hy] at g1 g2
          exact items t1 t2 g1 g2
         ·rw [if_neg hy] at g1 g2
          cases g1; cases g2; rfl
        | tup ys => cases h1; cases h2; rfl
        | _ => cases h1
     | tup ws2 => cases r2 with | tup s2 c2 t2 => exact (ntl _ _ _ s2 s1).elim
     | _ => first | (cases f2; done) | (cases f3 : QcB x <;> rw [f3] at h2 <;> first | (cases h2; done) | (cases x <;> cases h2))
    | _ => first | (cases f1; done) | (cases f3 : QcB x <;> rw [f3] at h1 <;> first | (cases h1; done) | (cases x <;> cases h1))
theorem QiS {pins : List (Addr × Obj)} {σ : St} {H : Hp} {s : Shared} {ι : Nat->Addr} {N : Nat} {A : Around} {x : W} {vx : V} {ux : Value} (I : Inv X pins σ H s) (rx : RelW X.K ι N H vx x) (qx : RelV vx ux) (hA : A.units + 12 < cLine) :
  ∀ {ws : List W} {vs : List V} {us : List Value} {b : Bool}, inD x ws = some b->RelWs X.K ι N H vs ws->Vals vs us ->
   ∃ e : Value->Bool, (∀ u ∈ us, SeqAt.EqAt A s u ux (e u))/\us.any e = b/\∀ (j : Nat) v u w, vs[j]? = some v->us[j]? = some u->ws[j]? = some w->eqD 12 w x = some (e u) := by
 intro ws
 induction ws with
 | nil => intro vs us b h t q; cases t; cases q; cases h; exact ⟨fun _ => false, fun u hu => (by cases hu), rfl, fun j v u w hv => (by simp at hv)⟩
 | cons w ws ih =>
  intro vs us b h t q
  cases t with
  | cons r t =>
   cases q with
   | cons qv q =>
    rename_i v vs u us
    unfold inD at h
    cases e1 : eqD 12 w x with
    | none => rw [e1] at h; cases h
    | some a =>
     cases e2 : inD x ws with
     | none => rw [e1, e2] at h; cases h
     | some c =>
      rw [e1, e2] at h
      obtain ⟨e, h1, h2, h3⟩ := ih e2 t q
      have at1 := (QhT I 12 (A := A) e1 r rx qv qx hA).1
      have keep : ∀ u' ∈ us, u' = u->e u' = a := fun u' hu hue => by
       obtain ⟨j, hj, ej⟩ := List.mem_iff_getElem.mp hu
       have g1 : us[j]? = some u' := by rw [QnF hj, ej]
       obtain ⟨v', gv, rv'⟩ := Vals.at q hj
       obtain ⟨w', gw, rw'⟩ := t.get' gv
       have d := h3 j v' u' w' gv g1 gw
       rw [ej, hue] at rv'
       have ev : v' = v := rv'.inj qv
       subst ev
       exact QmW (fun a xs ys h1 h2 => I.tuple_inj h1 h2) (fun a xs ys h1 h2 => list_inj I h1 h2) (fun a xs ys h1 h2 => QcZ I h1 h2) 12 rw' r d e1
      refine ⟨fun z => if z = u then a else e z, fun z hz => ?_, ?_, fun j v' u' w' hv hu hw => ?_⟩
      ·by_cases hzu : z = u
       ·(try dsimp only); rw [if_pos hzu, hzu]; exact at1
       ·(try dsimp only); rw [if_neg hzu]
        rcases List.mem_cons.mp hz with hz | hz
        ·exact absurd hz hzu
        ·exact h1 z hz
      ·rw [List.any_cons, if_pos rfl]
       have e3 : us.any (fun z => if z = u then a else e z) = us.any e := by
        rw [Bool.eq_iff_iff, List.any_eq_true, List.any_eq_true]
        constructor
        ·rintro ⟨z, hz, hq⟩
         refine ⟨z, hz, ?_⟩
         by_cases hzu : z = u
         ·rw [if_pos hzu] at hq; rw [keep z hz hzu]; exact hq
         ·rw [if_neg hzu] at hq; exact hq
        ·rintro ⟨z, hz, hq⟩
         refine ⟨z, hz, ?_⟩
         by_cases hzu : z = u
         ·rw [if_pos hzu, <-keep z hz hzu]; exact hq
         ·rw [if_neg hzu]; exact hq
       rw [e3, h2]
       cases h; rfl
      ·cases j with
       | zero =>
        simp at hv hu hw
        subst hv hu hw
        (try dsimp only); rw [if_pos rfl]; exact e1
       | succ j =>
        have hv' : vs[j]? = some v' := by simpa using hv
        have hu' : us[j]? = some u' := by simpa using hu
        have hw' : ws[j]? = some w' := by simpa using hw
        have d := h3 j v' u' w' hv' hu' hw'
        dsimp only
        by_cases hzu : u' = u
        ·rw [if_pos hzu, <-keep u' (List.mem_of_getElem? hu') hzu]; exact d
        ·rw [if_neg hzu]; exact d
theorem QlQ {neg : Bool} {op : CmpOp} {o : Op2} (ho : o = fun a b st => match inW st a b with | some r => .ok (.bl (if neg then !r else r)) st | none => .stuck)
  (hs : OpR X (compareOp op) (fun x y H Q => ∃ i j, x = .str i/\y = .str j/\Q (.bl (if neg then !(!(Builtin.Str.occurrences j i 0 j.length 1).isEmpty) else (!(Builtin.Str.occurrences j i 0 j.length 1).isEmpty))) H))
  (hl : ∀ {s : Shared} {l : Addr} {items : Array Value} {x : Value} {Q : Value->Shared->Prop} (e : Value->Bool), s.heap.IsList l items->(∀ y, y ∈ items->SeqAt.EqAt X.A.in1 s y x (e y))->Q (.bool (if neg then !items.any e else items.any e)) s->wpAny (model X.prog X.w) X.A (compareOp op x (.ref l)) Q X.xe s)
  (ht : ∀ {s : Shared} {l : Addr} {items : Array Value} {x : Value} {Q : Value->Shared->Prop} (e : Value->Bool), s.heap.IsTuple l items->(∀ y, y ∈ items->SeqAt.EqAt X.A.in1 s y x (e y))->Q (.bool (if neg then !items.any e else items.any e)) s->wpAny (model X.prog X.w) X.A (compareOp op x (.ref l)) Q X.xe s)
  (hu : X.A.units + 64 < cLine) : OpW X (compareOp op) o := by
 subst ho
 intro pins s σ H ι G st x y w1 w2 v u Q I sr rx ry r1 r2 q
 dsimp only at q
 cases e : inW st w1 w2 with
 | none => rw [e] at q; exact (show False from q).elim
 | some b =>
  rw [e] at q
  have qq : ∀ (H' : Hp), H' = H->Q (.bl (if neg then !b else b)) H' := fun H' hh => by rw [hh]; exact q _ ι G H (Ext.refl _ _ _) sr (.bl _)
  have seq : ∀ {ys : List W}, QaB st w2 = some ys->inD w1 ys = some b->wpAny (model X.prog X.w) X.A (compareOp op v u) (EP X pins σ Q) X.xe s := by
   intro ys hi hd
   obtain ⟨a, xs, ea, hq, t⟩ := Qcr sr r2 hi
   subst ea
   cases ry
   rcases hq with hq | hq
   ·obtain ⟨its, r, pl, hz⟩ := I.list hq
    obtain ⟨f, h1, h2, _⟩ := QiS (A := X.A.in1) I (r1.mono sr.look) rx (by show X.A.units + 1 + 12 < cLine; omega) hd (t.mono sr.look) r
    refine hl f pl.isList (fun w hw => h1 w (by simpa using hw)) ⟨.bl (if neg then !b else b), H, I, ?_, qq H rfl⟩
    rw [show its.toArray.any f = its.any f by simp, h2]; rfl
   ·obtain ⟨its, r, pl, hz⟩ := I.tuple hq
    obtain ⟨f, h1, h2, _⟩ := QiS (A := X.A.in1) I (r1.mono sr.look) rx (by show X.A.units + 1 + 12 < cLine; omega) hd (t.mono sr.look) r
    refine ht f pl (fun w hw => h1 w (by simpa using hw)) ⟨.bl (if neg then !b else b), H, I, ?_, qq H rfl⟩
    rw [show its.toArray.any f = its.any f by simp, h2]; rfl
  by_cases hb : ∃ i j, w1 = .str i/\w2 = .str j
  ·obtain ⟨i, j, rfl, rfl⟩ := hb
   cases r1; cases r2
   have e' : some (inStr i j) = some b := e
   cases e'
   exact hs pins s σ H _ _ v u Q I rx ry ⟨i, j, rfl, rfl, qq H rfl⟩
  ·have e' : (match QaB st w2 with | some ys => inD w1 ys | none => none) = some b := by
    rw [<-e]
    unfold inW
    cases w1 <;> cases w2 <;> first | rfl | exact absurd ⟨_, _, rfl, rfl⟩ hb
   cases hi : QaB st w2 with
   | none => rw [hi] at e'; cases e'
   | some ys => rw [hi] at e'; exact seq hi e'
theorem opw_in0 (hu : X.A.units + 64 < cLine) : OpW X (compareOp .In) opIn0 := QlQ (neg := false) rfl QlS (fun e h1 h2 h3 => SeqAt.in_listAt e h1 h2 h3) (fun e h1 h2 h3 => SeqAt.in_tupleAt e h1 h2 h3) hu
theorem Qkr (hu : X.A.units + 64 < cLine) : OpW X (compareOp .NotIn) QjD := QlQ (neg := true) rfl Qhz (fun e h1 h2 h3 => SeqAt.notIn_listAt e h1 h2 h3) (fun e h1 h2 h3 => SeqAt.notIn_tupleAt e h1 h2 h3) hu
end
end DL
namespace DL
open PySem PySem.Spec PyProof.Rows L2
section
variable {X : Cx}
def QeW : Op2 := fun a b st => match b with
 | .int i => match a with
  | .str z => if z.length<=sizeLine then (match atI z.cps.toList i with | some c => .ok (.str ⟨#[c]⟩) st | none => .stuck) else .stuck
  | a => match QaB st a with
   | some ws => (match atI ws i with | some w => .ok w st | none => .stuck)
   | none => .stuck
 | _ => .stuck
theorem atI_rel {K : PySem.W.Frag} {ι : Nat->Addr} {N : Nat} {G : Hp} {xs : List V} {ws : List W} {i : Int} {w : W} (t : RelWs K ι N G xs ws) (h : atI ws i = some w) : ∃ v, atI xs i = some v/\RelW K ι N G v w := by
 unfold atI at h ⊢
 rw [t.length]
 cases e : ixN ws.length i with
 | none => rw [e] at h; cases h
 | some j =>
  rw [e] at h
  exact t.get (show ws[j]? = some w from h)
theorem ix_w : IxR X (rOp X QeW) := by
 intro value slice pins s σ H x y v u Q I rx ry h hs
 obtain ⟨ι, G, st, w1, w2, sr, r1, r2, q⟩ := h
 cases w2 with
 | int i =>
  cases r2
  have seq : ∀ {ws : List W}, QaB st w1 = some ws->wpW X ι st.nxt G (match atI ws i with | some w => .ok w st | none => .stuck) Q->wpAny (model X.prog X.w) X.A (subscriptTail value slice v u) (EP X pins σ Q) X.xe s := by
   intro ws hi q
   cases e : atI ws i with
   | none => rw [e] at q; exact (show False from q).elim
   | some w =>
    rw [e] at q
    obtain ⟨a, xs, ea, hq, t⟩ := Qcr sr r1 hi
    subst ea
    obtain ⟨z, hz, rz⟩ := atI_rel t e
    have fin := q z ι G H (Ext.refl _ _ _) sr rz
    rcases hq with hq | hq
    ·exact ix_list value slice pins s σ H _ _ v u Q I rx ry ⟨a, xs, i, z, rfl, rfl, hq, hz, fin⟩ hs
    ·exact ix_tup value slice pins s σ H _ _ v u Q I rx ry ⟨a, xs, i, z, rfl, rfl, hq, hz, fin⟩ hs
  cases w1 with
  | str z =>
   cases r1
   have q' : wpW X ι st.nxt G (if z.length<=sizeLine then (match atI z.cps.toList i with | some c => .ok (.str ⟨#[c]⟩) st | none => .stuck) else .stuck) Q := q
   by_cases hl : z.length<=sizeLine
   ·rw [if_pos hl] at q'
    cases e : atI z.cps.toList i with
    | none => rw [e] at q'; exact (show False from q').elim
    | some c =>
     rw [e] at q'
     exact ix_str value slice pins s σ H _ _ v u Q I rx ry ⟨z, i, c, rfl, rfl, hl, e, q' _ ι G H (Ext.refl _ _ _) sr (.str _)⟩ hs
   ·rw [if_neg hl] at q'; exact (show False from q').elim
  | tup ws => exact seq (ws := ws) rfl q
  | lst ws => exact seq (ws := ws) rfl q
  | ref n =>
   cases hi : QaB st (.ref n) with
   | none =>
    have q' : wpW X ι st.nxt G (match QaB st (.ref n) with | some ws => (match atI ws i with | some w => .ok w st | none => .stuck) | none => .stuck) Q := q
    rw [hi] at q'; exact (show False from q').elim
   | some ws =>
    have q' : wpW X ι st.nxt G (match QaB st (.ref n) with | some ws => (match atI ws i with | some w => .ok w st | none => .stuck) | none => .stuck) Q := q
    rw [hi] at q'; exact seq hi q'
  | _ => exact (show False from q).elim
 | _ => exact (show False from q).elim
theorem pd_ix0 {a b : Expr} {pos : Pos} {ra rb : Run} (ha : PD X a ra) (hb : PD X b rb) (hs : Qjo b) : PD X (.Subscript a b pos) (run2 ra rb QeW) :=
 PE.imp (pe_ix ix_w ha hb hs) fun _ _ _ h => tD_op h
def cutW (xs : List W) (lo hi : Option Int) : List W := (xs.drop (HT.sIx xs.length 0 lo)).take (HT.sIx xs.length xs.length hi - HT.sIx xs.length 0 lo)
def opSl (m : Bool) (lo hi : Option Int) (a : W) (st : S) : R W := match a with
 | .str z => if z.length<=sizeLine then .ok (.str (Txt.slice z lo hi)) st else .stuck
 | .tup ws => .ok (.tup (cutW ws lo hi)) st
 | a => match QaB st a with
  | some ws => if m then Qeh (cutW ws lo hi) st else QfE (cutW ws lo hi) st
  | none => .stuck
theorem Qjj {K : PySem.W.Frag} {ι : Nat->Addr} {N : Nat} {G : Hp} {xs : List V} {ws : List W} (t : RelWs K ι N G xs ws) (lo hi : Option Int) : RelWs K ι N G (cutV xs lo hi) (cutW ws lo hi) := by
 unfold cutV cutW
 rw [t.length]
 exact (t.drop _).take _
theorem Qgn {prog : Program} {w : World} {A : Around} {E : Value->Shared->Prop} {s : Shared} {t : Addr} {items : Array Value} {Q : Bool->Shared->Prop} (ht : IsTup s.heap t items) (h : Q true s) : wpAny (model prog w) A (Builtin.Tuple.tupleIsExact (.ref t)) Q E s := by
 unfold Builtin.Tuple.tupleIsExact
 refine wpAny_bind (wpAny_typeOf ht.typeIs (wpAny_pure ?_))
 exact h
theorem Qdq {prog : Program} {w : World} {A : Around} {E : Value->Shared->Prop} {s : Shared} {t sl : Addr} {items : Array Value} {vl vu : Value} {lo hi : Option Int} {Q : Value->Shared->Prop} (ht : IsTup s.heap t items) (hs : s.heap.IsSliceOf sl vl vu .none) (pl : IsPart vl lo) (pu : IsPart vu hi)
  (h0 : HT.sIx items.size 0 lo = 0) (h1 : HT.sIx items.size items.size hi = items.size) (h : Q (.ref t) s) : wpAny (model prog w) A (getItem (.ref t) (.ref sl)) Q E s := by
 obtain ⟨os, hos, hcs, hds⟩ := id hs
 have hTs : s.TypeIs (.ref sl) "slice" := ⟨os, hos, hcs⟩
 unfold getItem
 try with_reducible refine wpAny_holding ?_
 first | refine wpAny_bind (wpAny_pure ?_) | skip
 refine wpAny_bind (wpAny_sequenceKey ht.typeIs (by decide) ?_)
 refine wpAny_bind (wpAny_callSpecial?_slot (name := Str.ofString "__getitem__") ht.typeIs PyProof.Rows.slot_tuple_getitem
  (wpAny_call_entry PyProof.Rows.slot_tuple_getitem ht.typeIs entry_tuple_getitem ?_ (args_tuple_getitem _ _)))
 show wpAny _ _ (Builtin.Tuple.tupleItemsOf (.ref t) >>= _) _ _ s
 refine wpAny_bind (tupleItemsOf_ ht ?_)
 refine wpAny_bind (wpAny_typeOf hTs ?_)
 rw [if_pos (by decide)]
 refine wpAny_bind (HT.sliceApplied_gen hs pl pu ?_)
 show wpAny _ _ (if (((HT.sIx items.size 0 lo : Nat) : Int) == 0 && (1 : Int) == 1 && (HT.sIx items.size items.size hi - HT.sIx items.size 0 lo) == items.size) = true then _ else _) _ _ s
 rw [h0, h1, if_pos (by simp)]
 refine wpAny_bind (Qgn ht ?_)
 rw [if_pos rfl]
 refine wpAny_bind (wpAny_rule ?_)
 exact wpAny_pure ⟨_, rfl, wpAny_pure h⟩
theorem Qll : SlR X (fun x lo hi H Q => ∃ a xs, x = .ref a/\SqT X.K H a xs/\HT.sIx xs.length 0 lo = 0/\HT.sIx xs.length xs.length hi = xs.length/\Q (.ref a) H) := by
 intro pins s σ H x v vl vu lo hi sl Q I rx hs pl pu h
 obtain ⟨a, xs, rfl, hx, h0, h1, q⟩ := h
 cases rx
 obtain ⟨its, r, ht, hz⟩ := I.tuple hx
 have hlen : its.toArray.size = xs.length := by rw [QnK]; exact r.length.symm
 refine ⟨"tuple", _, PyProof.Rows.slot_tuple_getitem.lookup, ht.typeIs, ?_⟩
 exact Qdq ht hs pl pu (by rw [hlen]; exact h0) (by rw [hlen]; exact h1) ⟨.ref a, H, I, rfl, q⟩
def rSlW (X : Cx) (m : Bool) : V->Option Int->Option Int->Hp->VK->Prop := fun x lo hi H Q => ∃ ι G st w, SR X.K ι st G H/\RelW X.K ι st.nxt G x w/\wpW X ι st.nxt G (opSl m lo hi w st) Q
theorem sl_w {m : Bool} : SlR X (rSlW X m) := by
 intro pins s σ H x v vl vu lo hi sl Q I rx hs pl pu h
 obtain ⟨ι, G, st, w, sr, r1, q⟩ := h
 have seq : ∀ {a : Addr} {xs : List V} {ws : List W}, v = .ref a->x = .ref a->SqL X.K H a xs->RelWs X.K ι st.nxt G xs ws->wpW X ι st.nxt G (if m then Qeh (cutW ws lo hi) st else QfE (cutW ws lo hi) st) Q ->
   ∃ T id, typeLookup (.type T) "__getitem__" = pure (some (.builtin id))/\s.TypeIs v T/\wpAny (model X.prog X.w) X.A (getItem v (.ref sl)) (EP X pins σ Q) X.xe s := by
  intro a xs ws ev ex hq t q
  refine sl_list pins s σ H x v vl vu lo hi sl Q I rx hs pl pu ⟨a, xs, ex, hq, ?_⟩
  cases m with
  | true => rw [if_pos rfl] at q; exact (QcM sr (Qjj t lo hi) q).2
  | false => rw [if_neg QnE] at q; exact (QdE sr (Qjj t lo hi) q).2
 cases r1 with
 | str z =>
  have q' : wpW X ι st.nxt G (if z.length<=sizeLine then .ok (.str (Txt.slice z lo hi)) st else .stuck) Q := q
  by_cases hl : z.length<=sizeLine
  ·rw [if_pos hl] at q'
   exact sl_str pins s σ H _ v vl vu lo hi sl Q I rx hs pl pu ⟨z, rfl, hl, q' _ ι G H (Ext.refl _ _ _) sr (.str _)⟩
  ·rw [if_neg hl] at q'; exact (show False from q').elim
 | tup s1 c1 t1 =>
  rename_i a xs ws
  have hq := sqT_same sr.sub s1
  by_cases hw : HT.sIx xs.length 0 lo = 0/\HT.sIx xs.length xs.length hi = xs.length
  ·refine Qll pins s σ H _ v vl vu lo hi sl Q I rx hs pl pu ⟨a, xs, rfl, hq, hw.1, hw.2, q _ ι G H (Ext.refl _ _ _) sr (.tup s1 c1 ?_)⟩
   have ec : cutW ws lo hi = ws := by
    unfold cutW
    rw [<-t1.length, hw.1, hw.2, List.drop_zero, Nat.sub_zero, t1.length, List.take_length]
   rw [ec]; exact t1
  ·refine sl_tup pins s σ H _ v vl vu lo hi sl Q I rx hs pl pu ⟨a, xs, rfl, hq, hw, fun p hp => ?_⟩
   obtain ⟨sr2, e2⟩ := sr.laid (o := .tup (cutV xs lo hi)) hp
   exact q _ ι _ _ e2 sr2 (.tup (.inl (.inl QaA)) (fun _ => QaA) ((Qjj t1 lo hi).mono e2))
 | lst s1 t1 => exact seq rx rfl (sr.sub.seq s1) t1 q
 | ref hn =>
  rename_i n
  have q' : wpW X ι st.nxt G (match QaB st (.ref n) with | some ws => if m then Qeh (cutW ws lo hi) st else QfE (cutW ws lo hi) st | none => .stuck) Q := q
  cases hi' : QaB st (.ref n) with
  | none => rw [hi'] at q'; exact (show False from q').elim
  | some ws =>
   rw [hi'] at q'
   obtain ⟨a, xs, ea, hq, t⟩ := Qcr sr (.ref hn) hi'
   rcases hq with hq | hq
   ·exact seq (by cases ea; exact rx) ea hq t q'
   ·exfalso
    have hi2 := hi'
    have hi2 : MO.items (st.mu n) = some ws := hi2
    cases e : st.mu n with
    | none => rw [e] at hi2; cases hi2
    | some o =>
     obtain ⟨_, _, h3⟩ := sr.live n o e
     cases o with
     | lst zs =>
      obtain ⟨vs, qv, _⟩ := h3
      cases ea
      exact QcZ I hq (SqL.of qv)
     | dct ks vs => rw [e] at hi2; cases hi2
 | _ => exact (show False from q).elim
def Qlu (m : Bool) (ra : Run) : Run := fun Γ st => (ra Γ st).bind fun w st1 => opSl m none none w st1
def Qcg (m : Bool) (ra rl : Run) : Run := fun Γ st => (ra Γ st).bind fun w st1 => (rl Γ st1).bind fun l st2 => (match l with | .int i => opSl m (some i) none w st2 | _ => .stuck)
def QcI (m : Bool) (ra rh : Run) : Run := fun Γ st => (ra Γ st).bind fun w st1 => (rh Γ st1).bind fun h st2 => (match h with | .int i => opSl m none (some i) w st2 | _ => .stuck)
def QdU (m : Bool) (ra rl rh : Run) : Run := fun Γ st => (ra Γ st).bind fun w st1 => (rl Γ st1).bind fun l st2 => (match l with | .int i => (rh Γ st2).bind fun h st3 => (match h with | .int j => opSl m (some i) (some j) w st3 | _ => .stuck) | _ => .stuck)
section
variable {e lo hi : Expr} {pos p2 : Pos} {ra rl rh : Run} {m : Bool}
theorem pd_slNN (ha : PD X e ra) : PD X (.Subscript e (.Slice none none none p2) pos) (Qlu m ra) := by
 refine PE.imp (Qez (sl_w (m := m)) ha Qgw Qgw) fun σ H Q h => ?_
 obtain ⟨ι, G, st, Γ, en, sr, q⟩ := h
 exact ⟨ι, G, st, Γ, en, sr, wpW.bind q fun w st1 v ι1 G1 H1 _ e1 sr1 r1 q1 => ⟨ι1, G1, st1, w, sr1, r1, q1⟩⟩
theorem pd_slSN (ha : PD X e ra) (hl : PD X lo rl) : PD X (.Subscript e (.Slice (some lo) none none p2) pos) (Qcg m ra rl) := by
 refine PE.imp (Qez (sl_w (m := m)) ha (Qgv hl) Qgw) fun σ H Q h => ?_
 obtain ⟨ι, G, st, Γ, en, sr, q⟩ := h
 refine ⟨ι, G, st, Γ, en, sr, wpW.bind q fun w st1 v ι1 G1 H1 _ e1 sr1 r1 q1 => ?_⟩
 refine ⟨ι1, G1, st1, Γ, en.mono e1, sr1, wpW.bind q1 fun l st2 v2 ι2 G2 H2 _ e2 sr2 r2 q2 => ?_⟩
 cases l with
 | int i => cases r2; exact ⟨i, rfl, ι2, G2, st2, w, sr2, r1.mono e2, q2⟩
 | _ => exact (show False from q2).elim
theorem pd_slNS (ha : PD X e ra) (hh : PD X hi rh) : PD X (.Subscript e (.Slice none (some hi) none p2) pos) (QcI m ra rh) := by
 refine PE.imp (Qez (sl_w (m := m)) ha Qgw (Qgv hh)) fun σ H Q h => ?_
 obtain ⟨ι, G, st, Γ, en, sr, q⟩ := h
 refine ⟨ι, G, st, Γ, en, sr, wpW.bind q fun w st1 v ι1 G1 H1 _ e1 sr1 r1 q1 => ?_⟩
 refine ⟨ι1, G1, st1, Γ, en.mono e1, sr1, wpW.bind q1 fun l st2 v2 ι2 G2 H2 _ e2 sr2 r2 q2 => ?_⟩
 cases l with
 | int i => cases r2; exact ⟨i, rfl, ι2, G2, st2, w, sr2, r1.mono e2, q2⟩
 | _ => exact (show False from q2).elim
theorem pd_slSS (ha : PD X e ra) (hl : PD X lo rl) (hh : PD X hi rh) : PD X (.Subscript e (.Slice (some lo) (some hi) none p2) pos) (QdU m ra rl rh) := by
 refine PE.imp (Qez (sl_w (m := m)) ha (Qgv hl) (Qgv hh)) fun σ H Q h => ?_
 obtain ⟨ι, G, st, Γ, en, sr, q⟩ := h
 refine ⟨ι, G, st, Γ, en, sr, wpW.bind q fun w st1 v ι1 G1 H1 _ e1 sr1 r1 q1 => ?_⟩
 refine ⟨ι1, G1, st1, Γ, en.mono e1, sr1, wpW.bind q1 fun l st2 v2 ι2 G2 H2 _ e2 sr2 r2 q2 => ?_⟩
 cases l with
 | int i =>
  cases r2
  refine ⟨i, rfl, ι2, G2, st2, Γ, (en.mono e1).mono e2, sr2, wpW.bind q2 fun h st3 v3 ι3 G3 H3 _ e3 sr3 r3 q3 => ?_⟩
  cases h with
  | int j => cases r3; exact ⟨j, rfl, ι3, G3, st3, w, sr3, (r1.mono e2).mono e3, q3⟩
  | _ => exact (show False from q3).elim
 | _ => exact (show False from q2).elim
end
def QaX : OpN := fun ws st => match ws with
 | [.str z] => if z.length<=sizeLine then .ok (.int z.length) st else .stuck
 | [w] => match QaB st w with
  | some xs => .ok (.int xs.length) st
  | none => .stuck
 | _ => .stuck
def Qhc : List W->Option (List Bool)
 | [] => some []
 | .bl b :: ws => (Qhc ws).map (b :: ·)
 | _ :: _ => none
def QgA : OpN := fun ws st => match ws with
 | [.lst xs] => (match Qhc xs with | some bs => .ok (.bl (bs.all id)) st | none => .stuck)
 | _ => .stuck
def Qbn : OpN := fun ws st => match ws with
 | [.tup xs] => .ok (.tup xs) st
 | [w] => match QaB st w with
  | some xs => QaM xs st
  | none => .stuck
 | _ => .stuck
def QjE (m : Bool) : OpN := fun ws st => match ws with
 | [w] => match QaB st w with
  | some xs => if m then Qeh xs st else QfE xs st
  | none => .stuck
 | _ => .stuck
def QlT : OpN := fun ws st => match ws with
 | [.int i] => .ok (.int i) st
 | [.bl b] => .ok (.int (if b then 1 else 0)) st
 | _ => .stuck
theorem Qil : ∀ {ws : List W} {bs : List Bool}, Qhc ws = some bs->ws = bs.map W.bl
 | [], bs, h => by cases h; rfl
 | w :: ws, bs, h => by
  cases w with
  | bl b =>
   have h' : (Qhc ws).map (b :: ·) = some bs := h
   cases e : Qhc ws with
   | none => rw [e] at h'; cases h'
   | some cs => rw [e] at h'; cases h'; rw [List.map_cons, <-Qil e]
  | _ => cases h
theorem rel1 {K : PySem.W.Frag} {ι : Nat->Addr} {N : Nat} {G : Hp} {xs : List V} {w : W} (t : RelWs K ι N G xs [w]) : ∃ v, xs = [v]/\RelW K ι N G v w := by
 cases t with
 | cons r t => cases t; exact ⟨_, rfl, r⟩
theorem rel2 {K : PySem.W.Frag} {ι : Nat->Addr} {N : Nat} {G : Hp} {xs : List V} {w w' : W} (t : RelWs K ι N G xs [w, w']) : ∃ v v', xs = [v, v']/\RelW K ι N G v w/\RelW K ι N G v' w' := by
 cases t with
 | cons r t => obtain ⟨v, rfl, r'⟩ := rel1 t; exact ⟨_, _, rfl, r, r'⟩
theorem cw_len : Qdf X (.builtin "len") QaX := by
 intro pins s σ H ι G st xs ws us Q I sr rv t q
 match ws, t, q with
 | [w], t, q =>
  obtain ⟨v, rfl, r⟩ := rel1 t
  have seq : ∀ {zs : List W}, QaB st w = some zs->wpW X ι st.nxt G (.ok (.int zs.length) st) Q->wpAny (model X.prog X.w) X.A (call (.builtin "len") us) (EP X pins σ Q) X.xe s := by
   intro zs hi q
   obtain ⟨a, ys, ea, hq, t2⟩ := Qcr sr r hi
   subst ea
   refine Qij pins s σ H _ us Q I rv ⟨a, ys, rfl, hq, ?_⟩
   rw [t2.length]
   exact q _ ι G H (Ext.refl _ _ _) sr (.int _)
  cases w with
  | str z =>
   cases r
   have q' : wpW X ι st.nxt G (if z.length<=sizeLine then .ok (.int z.length) st else .stuck) Q := q
   by_cases hl : z.length<=sizeLine
   ·rw [if_pos hl] at q'
    exact Qii pins s σ H _ us Q I rv ⟨z, rfl, hl, q' _ ι G H (Ext.refl _ _ _) sr (.int _)⟩
   ·rw [if_neg hl] at q'; exact (show False from q').elim
  | tup zs => exact seq rfl q
  | lst zs => exact seq rfl q
  | ref n =>
   have q' : wpW X ι st.nxt G (match QaB st (.ref n) with | some xs => .ok (.int xs.length) st | none => .stuck) Q := q
   cases hi : QaB st (.ref n) with
   | none => rw [hi] at q'; exact (show False from q').elim
   | some zs => rw [hi] at q'; exact seq hi q'
  | _ => exact (show False from q).elim
 | [], _, q => exact (show False from q).elim
 | w :: w' :: ws, _, q => exact (show False from (by cases w <;> exact q)).elim
theorem cw_all (hc : X.calm = true) : Qdf X (.builtin "all") QgA := by
 intro pins s σ H ι G st xs ws us Q I sr rv t q
 unfold QgA at q
 split at q
 ·rename_i zs
  cases e : Qhc zs with
  | none => rw [e] at q; exact (show False from q).elim
  | some bs =>
   rw [e] at q
   obtain ⟨v, rfl, r⟩ := rel1 t
   cases r with
   | lst s1 t1 =>
    rw [Qil e] at t1
    have e2 := t1.bls
    subst e2
    exact Qnn hc pins s σ H _ us Q I rv ⟨_, bs, rfl, sr.sub.seq s1, q _ ι G H (Ext.refl _ _ _) sr (.bl _)⟩
 ·exact (show False from q).elim
theorem cw_list {m : Bool} : Qdf X (.type "list") (QjE m) := by
 intro pins s σ H ι G st xs ws us Q I sr rv t q
 unfold QjE at q
 split at q
 ·rename_i w
  cases hi : QaB st w with
  | none => rw [hi] at q; exact (show False from q).elim
  | some zs =>
   rw [hi] at q
   obtain ⟨v, rfl, r⟩ := rel1 t
   obtain ⟨a, ys, ea, hq, t2⟩ := Qcr sr r hi
   subst ea
   refine Qih pins s σ H _ us Q I rv ⟨a, ys, rfl, hq, ?_⟩
   cases m with
   | true => exact (QcM sr t2 q).2
   | false => exact (QdE sr t2 q).2
 ·exact (show False from q).elim
theorem cw_tuple : Qdf X (.type "tuple") Qbn := by
 intro pins s σ H ι G st xs ws us Q I sr rv t q
 unfold Qbn at q
 split at q
 ·rename_i zs
  obtain ⟨v, rfl, r⟩ := rel1 t
  cases r with
  | tup s1 c1 t1 => exact QdN pins s σ H _ us Q I rv ⟨_, _, rfl, .inr ⟨sqT_same sr.sub s1, q _ ι G H (Ext.refl _ _ _) sr (.tup s1 c1 t1)⟩⟩
 ·rename_i w hne
  cases hi : QaB st w with
  | none => rw [hi] at q; exact (show False from q).elim
  | some zs =>
   rw [hi] at q
   obtain ⟨v, rfl, r⟩ := rel1 t
   obtain ⟨a, ys, ea, hq, t2⟩ := Qcr sr r hi
   subst ea
   rcases hq with hq | hq
   ·exact QdN pins s σ H _ us Q I rv ⟨a, ys, rfl, .inl ⟨hq, (Qju sr t2 q).2⟩⟩
   ·exfalso
    cases r with
    | tup s1 c1 t1 => exact hne _ rfl
    | lst s1 t1 => exact QcZ I hq (sr.sub.seq s1)
    | @ref n hn =>
     have hi : MO.items (st.mu n) = some zs := hi
     cases e : st.mu n with
     | none => rw [e] at hi; cases hi
     | some o =>
      obtain ⟨_, _, h3⟩ := sr.live n o e
      cases o with
      | lst zs => obtain ⟨vs, qv, _⟩ := h3; exact QcZ I hq (SqL.of qv)
      | dct ks vs => rw [e] at hi; cases hi
    | _ => cases hi
 ·exact (show False from q).elim
theorem cw_int : Qdf X (.type "int") QlT := by
 intro pins s σ H ι G st xs ws us Q I sr rv t q
 unfold QlT at q
 split at q
 ·obtain ⟨v, rfl, r⟩ := rel1 t
  cases r
  exact Qik pins s σ H _ us Q I rv (.inl ⟨_, rfl, q _ ι G H (Ext.refl _ _ _) sr (.int _)⟩)
 ·obtain ⟨v, rfl, r⟩ := rel1 t
  cases r
  exact Qik pins s σ H _ us Q I rv (.inr ⟨_, rfl, q _ ι G H (Ext.refl _ _ _) sr (.int _)⟩)
 ·exact (show False from q).elim
def MO.kind : Option MO->Option String
 | some (.lst _) => some "list"
 | some (.dct _ _) => some "dict"
 | none => none
def Qdd (st : S) : W->Option String
 | .non => some "NoneType"
 | .bl _ => some "bool"
 | .int _ => some "int"
 | .str _ => some "str"
 | .tup _ => some "tuple"
 | .lst _ => some "list"
 | .dct _ _ => some "dict"
 | .ref n => MO.kind (st.mu n)
 | .ty _ => none
 | .exn _ => none
def QdI (k T : String) : Bool := k == T || (k == "bool" && T == "int")
def kinds : List String := ["NoneType", "bool", "int", "str", "tuple", "list", "dict"]
def Qax : OpN := fun ws st => match ws with
 | [w, .ty T] => if kinds.contains T then (match Qdd st w with | some k => .ok (.bl (QdI k T)) st | none => .stuck) else .stuck
 | _ => .stuck
end
end DL
namespace DL
open PySem PySem.Spec PyProof.Rows L2
section
variable {X : Cx}
structure SrcR (K : PySem.W.Frag) (J : It) (items : List W) (ι : Nat->Addr) (N : Nat) (G : Hp) : Prop where
 go : ∀ (i : Nat) (w : W) (ι' : Nat->Addr) (N' : Nat) (G' H' : Hp), items[i]? = some w->Ext ι N G ι' N' G'->Same G' H'->J.go i H'/\∀ v H'', J.yld i H' v H''->H'' = H'/\RelW K ι' N' G' v w
 stop : ∀ (G' H' : Hp), Same G G'->Same G' H'->J.stop items.length H'
abbrev Src := Ga->S->R (List W)
def tDI (X : Cx) (src : Src) : TI := fun σ H Rr => ∃ ι G st Γ, EnvR X.K ι st.nxt G σ Γ/\SR X.K ι st G H/\(match src Γ st with
 | .ok items st' => ∀ J ι' G' H', Ext ι st.nxt G ι' st'.nxt G'->SR X.K ι' st' G' H'->SrcR X.K J items ι' st'.nxt G'->Rr J H'
 | .ex c st' => XW X ι st.nxt G c st'
 | .stuck => False)
abbrev PDI (X : Cx) (tg iter : Expr) (src : Src) : Prop := PI X tg iter (tDI X src)
theorem PI.imp {tg e : Expr} {t t' : TI} (h : PI X tg e t) (k : ∀ σ H Q, t' σ H Q->t σ H Q) : PI X tg e t' := fun pins s σ H Q I q => h pins s σ H Q I (k σ H Q q)
def iSeq (K : PySem.W.Frag) (tl : TE) : TI := fun σ H R => tl σ H fun x H1 => (∃ a, x = .ref a/\(∃ xs, SqL K H1 a xs)/\R (Itl K a) H1)\/(∃ a, x = .ref a/\(∃ xs, SqT K H1 a xs)/\R (Itt K a) H1)\/∃ z, x = .str z/\R (Its z) H1
theorem pi_seq {y : Str} {py : Pos} {l : Expr} {tl : TE} (hl : PE X l tl) : PI X (.Name y py) l (iSeq X.K tl) := by
 intro pins s σ H R I h
 refine thn (hl pins s σ H _ I h) fun v s1 ⟨x, H1, I1, r1, q1⟩ => ?_
 rcases q1 with ⟨a, e, ⟨xs, hq⟩, q⟩ | ⟨a, e, ⟨xs, hq⟩, q⟩ | ⟨z, e, q⟩
 ·subst e
  cases r1
  obtain ⟨its, rv, p, hz⟩ := I1.list hq
  refine wpAny_pyIter_list p.isList ?_
  refine ⟨s1.heap.objs.size, [s1.heap.objs.size], _, _, H1, rfl, I1.kept (t' := s1.toks) fun b o e => QnG _ e, Qhi a _, ⟨_, QnR _ rfl, rfl, rfl⟩, fun b hb => ?_, q⟩
  have e : b = s1.heap.objs.size := by simpa using hb
  subst e
  exact I1.fpOk (QnL _) (I1.hok.fresh (QnL _))
 ·subst e
  cases r1
  obtain ⟨its, rv, p, hz⟩ := I1.tuple hq
  refine wpAny_pyIter_tuple (show s1.heap.IsTuple a its.toArray from p) ?_
  refine ⟨s1.heap.objs.size, [s1.heap.objs.size], _, _, H1, rfl, I1.kept (t' := s1.toks) fun b o e => QnG _ e, Qkc a _, ⟨_, QnR _ rfl, rfl, rfl⟩, fun b hb => ?_, q⟩
  have e : b = s1.heap.objs.size := by simpa using hb
  subst e
  exact I1.fpOk (QnL _) (I1.hok.fresh (QnL _))
 ·subst e
  obtain ⟨t, rfl⟩ := r1
  have fp : ∀ b ∈ [s1.heap.objs.size], FpOk X pins H1 b := fun b hb => by
   have e : b = s1.heap.objs.size := by simpa using hb
   subst e
   exact I1.fpOk (QnL _) (I1.hok.fresh (QnL _))
  cases ha : z.cps.all (· < 128)
  ·refine wpAny_pyIter_wide ha ?_
   exact ⟨s1.heap.objs.size, [s1.heap.objs.size], _, _, H1, rfl, I1.kept (t' := s1.toks) fun b o e => QnG _ e,
    Qjt (fun A' hA => Walks.strWide hA _ z t) (fun i h st => by obtain ⟨o, e, c, d⟩ := st; exact ⟨o, e, fun v z => by rw [d] at z; cases z⟩) (fun _ _ _ _ _ st h => wpAny_pyIter_striter_wide st h),
    ⟨Nat.zero_le _, ⟨_, QnR _ rfl, rfl, rfl⟩⟩, fp, q⟩
  ·refine wpAny_pyIter_ascii ha ?_
   exact ⟨s1.heap.objs.size, [s1.heap.objs.size], _, _, H1, rfl, I1.kept (t' := s1.toks) fun b o e => QnG _ e,
    Qjt (fun A' hA => Walks.strAscii hA _ z t) (fun i h st => by obtain ⟨o, e, c, d⟩ := st; exact ⟨o, e, fun v z => by rw [d] at z; cases z⟩) (fun _ _ _ _ _ st h => wpAny_pyIter_striter_ascii st h),
    ⟨Nat.zero_le _, ⟨_, QnR _ rfl, rfl, rfl⟩⟩, fp, q⟩
def Qlo (z : Str) : List W := z.cps.toList.map fun c => W.str ⟨#[c]⟩
def srcOf : W->Option (List W)
 | .lst xs => some xs
 | .tup xs => some xs
 | .str z => some (Qlo z)
 | _ => none
def Qaw (r : Run) : Src := fun Γ st => (r Γ st).bind fun w st1 => match srcOf w with
 | some xs => .ok xs st1
 | none => .stuck
theorem src_list {K : PySem.W.Frag} {ι : Nat->Addr} {N : Nat} {G : Hp} {a : Addr} {xs : List V} {ws : List W} (h : SqL K G a xs) (t : RelWs K ι N G xs ws) : SrcR K (Itl K a) ws ι N G where
 go := fun i w ι' N' G' H' hw e sm => by
  obtain ⟨v, hv, rv⟩ := (t.mono e).get hw
  have hq : SqL K H' a xs := sm.seq (e.sm.seq h)
  refine ⟨⟨xs, v, hq, hv⟩, fun v' H'' ⟨e1, y⟩ => ⟨e1, ?_⟩⟩
  have := y xs hq
  rw [hv] at this
  cases this
  exact rv
 stop := fun G' H' sm sm' => ⟨xs, sm'.seq (sm.seq h), by rw [t.length]; exact QnL _⟩
theorem src_tup {K : PySem.W.Frag} {ι : Nat->Addr} {N : Nat} {G : Hp} {a : Addr} {xs : List V} {ws : List W} (h : SqT K G a xs) (t : RelWs K ι N G xs ws) : SrcR K (Itt K a) ws ι N G where
 go := fun i w ι' N' G' H' hw e sm => by
  obtain ⟨v, hv, rv⟩ := (t.mono e).get hw
  have hq : SqT K H' a xs := sqT_same sm (sqT_same e.sm h)
  refine ⟨⟨xs, v, hq, hv⟩, fun v' H'' ⟨e1, y⟩ => ⟨e1, ?_⟩⟩
  have := y xs hq
  rw [hv] at this
  cases this
  exact rv
 stop := fun G' H' sm sm' => ⟨xs, sqT_same sm' (sqT_same sm h), by rw [t.length]; exact QnL _⟩
theorem src_str {K : PySem.W.Frag} {ι : Nat->Addr} {N : Nat} {G : Hp} (z : Str) : SrcR K (Its z) (Qlo z) ι N G where
 go := fun i w ι' N' G' H' hw e sm => by
  unfold Qlo at hw
  rw [QnT] at hw
  cases hc : z.cps.toList[i]? with
  | none => rw [hc] at hw; cases hw
  | some c =>
   rw [hc] at hw
   cases hw
   have hc' : z.cps[i]? = some c := by simpa using hc
   have hi : i < z.cps.size := (Array.getElem?_eq_some_iff.mp hc').1
   refine ⟨hi, fun v' H'' ⟨e1, c', h1, h2⟩ => ⟨e1, ?_⟩⟩
   rw [hc'] at h1
   cases h1
   rw [h2]
   exact .str _
 stop := fun G' H' sm sm' => by
  show z.cps.size<=(Qlo z).length
  unfold Qlo
  simp
def QaQ (lo : Int) (n : Nat) : List W := (List.range n).map fun (i : Nat) => W.int (lo + i)
theorem Qli {K : PySem.W.Frag} {ι : Nat->Addr} {N : Nat} {G : Hp} (lo : Int) (n : Nat) : SrcR K (Itr lo n) (QaQ lo n) ι N G where
 go := fun i w ι' N' G' H' hw e sm => by
  unfold QaQ at hw
  rw [QnT] at hw
  by_cases hi : i < n
  ·rw [List.getElem?_range hi] at hw
   cases hw
   refine ⟨hi, fun v' H'' ⟨e1, h2⟩ => ⟨e1, ?_⟩⟩
   rw [h2]
   exact .int _
  ·rw [List.getElem?_eq_none (by simp; omega)] at hw; cases hw
 stop := fun G' H' sm sm' => by
  show n<=(QaQ lo n).length
  unfold QaQ
  simp
theorem pdi_val {y : Str} {py : Pos} {l : Expr} {r : Run} (h : PD X l r) : PDI X (.Name y py) l (Qaw r) := by
 refine PI.imp (pi_seq h) fun σ H Q hq => ?_
 obtain ⟨ι, G, st, Γ, en, sr, q⟩ := hq
 refine ⟨ι, G, st, Γ, en, sr, ?_⟩
 unfold Qaw at q
 cases e1 : r Γ st with
 | stuck => rw [e1] at q; exact q
 | ex c s => rw [e1] at q; exact q
 | ok w st1 =>
  rw [e1] at q
  intro v ι1 G1 H1 x1 sr1 r1
  have q' : match (match srcOf w with | some xs => R.ok xs st1 | none => R.stuck) with
   | .ok items st' => ∀ J ι' G' H', Ext ι st.nxt G ι' st'.nxt G'->SR X.K ι' st' G' H'->SrcR X.K J items ι' st'.nxt G'->Q J H'
   | .ex c st' => XW X ι st.nxt G c st'
   | .stuck => False := q
  cases r1 with
  | tup s1 c1 t1 => exact .inr (.inl ⟨_, rfl, ⟨_, sqT_same sr1.sub s1⟩, q' _ ι1 G1 H1 x1 sr1 (src_tup s1 t1)⟩)
  | lst s1 t1 => exact .inl ⟨_, rfl, ⟨_, sr1.sub.seq s1⟩, q' _ ι1 G1 H1 x1 sr1 (src_list s1 t1)⟩
  | str z => exact .inr (.inr ⟨z, rfl, q' _ ι1 G1 H1 x1 sr1 (src_str z)⟩)
  | _ => exact q'.elim
def Qef (j : Int) : Prop := -(2 ^ 62)<=j/\j < 2 ^ 62
instance (j : Int) : Decidable (Qef j) := by unfold Qef; infer_instance
def QaG (r : Run) : Src := fun Γ st => (r Γ st).bind fun w st1 => match w with
 | .int j => if Qef j then .ok (QaQ 0 j.toNat) st1 else .stuck
 | _ => .stuck
theorem Qko {tg a : Expr} {p pos : Pos} {ra : Run} (hg : Gl X "range") (hm : X.mg "range" = none) (ha : PD X a ra) (hs : starEach [a] X.env = [(false, eval a X.env)]) : PDI X tg (.Call (.Name "range" p) [a] [] pos) (QaG ra) := by
 refine PI.imp (QlG hg hm (QeA ha Qgy hs) hs) fun σ H Q hq => ?_
 obtain ⟨ι, G, st, Γ, en, sr, q⟩ := hq
 refine ⟨ι, G, st, Γ, en, sr, ?_⟩
 unfold QaG at q
 unfold Qaa Qab
 cases e1 : ra Γ st with
 | stuck => rw [e1] at q; exact q
 | ex c s => rw [e1] at q; exact q
 | ok w st1 =>
  rw [e1] at q
  intro vs ι1 G1 H1 x1 sr1 r1
  obtain ⟨v, rfl, r2⟩ := rel1 r1
  cases r2 with
  | int j =>
   by_cases hr : Qef j
   ·have q' : match (if Qef j then R.ok (QaQ 0 j.toNat) st1 else R.stuck) with
     | .ok items st' => ∀ J ι' G' H', Ext ι st.nxt G ι' st'.nxt G'->SR X.K ι' st' G' H'->SrcR X.K J items ι' st'.nxt G'->Q J H'
     | .ex c st' => XW X ι st.nxt G c st'
     | .stuck => False := q
    rw [if_pos hr] at q'
    exact ⟨j, rfl, hr.1, hr.2, q' _ ι1 G1 H1 x1 sr1 (Qli 0 _)⟩
   ·have q' : match (if Qef j then R.ok (QaQ 0 j.toNat) st1 else R.stuck) with
     | .ok items st' => ∀ J ι' G' H', Ext ι st.nxt G ι' st'.nxt G'->SR X.K ι' st' G' H'->SrcR X.K J items ι' st'.nxt G'->Q J H'
     | .ex c st' => XW X ι st.nxt G c st'
     | .stuck => False := q
    rw [if_neg hr] at q'
    exact q'.elim
  | _ => exact (show False from q).elim
def R.calm {α : Type} : R α->R α
 | .ok a s => .ok a s
 | _ => .stuck
def wp0 (K : PySem.W.Frag) (ι : Nat->Addr) (N : Nat) (G : Hp) (r : R W) (Q : VK) : Prop := match r with
 | .ok w st' => ∀ v ι' G' H', Ext ι N G ι' st'.nxt G'->SR K ι' st' G' H'->RelW K ι' st'.nxt G' v w->Q v H'
 | _ => False
def tD0 (K : PySem.W.Frag) (run : Run) : TE := fun σ H Q => ∃ ι G st Γ, EnvR K ι st.nxt G σ Γ/\SR K ι st G H/\wp0 K ι st.nxt G (run Γ st) Q
def tT0 (K : PySem.W.Frag) (run : Run) : TT := fun σ H Q => tD0 K run σ H fun v H' => ∃ b, v = .bl b/\Q b H'
theorem tD0_tD {run : Run} {σ : St} {H : Hp} {Q : VK} (h : tD0 X.K run σ H Q) : tD X run σ H Q := by
 obtain ⟨ι, G, st, Γ, en, sr, q⟩ := h
 refine ⟨ι, G, st, Γ, en, sr, ?_⟩
 cases e : run Γ st with
 | ok w st' => rw [e] at q; exact q
 | ex c s => rw [e] at q; exact q.elim
 | stuck => rw [e] at q; exact q
theorem PD.calm {e : Expr} {run : Run} (h : PD X e run) : PE X e (tD0 X.K run) := PE.imp h fun _ _ _ q => tD0_tD q
theorem PT.calm {e : Expr} {run : Run} (h : PT X e (tDT X run)) : PT X e (tT0 X.K run) := PT.imp h fun _ _ _ q => tD0_tD q
def Qbe (rt re : Run) (Γc : Ga) : List W->List W->S->R (List W)
 | [], acc, st => .ok acc st
 | x :: xs, acc, st => (rt (some x :: Γc) st).calm.bind fun b st1 => match b with
  | .bl true => (re (some x :: Γc) st1).calm.bind fun y st2 => Qbe rt re Γc xs (acc ++ [y]) st2
  | .bl false => Qbe rt re Γc xs acc st1
  | _ => .stuck
def capG (cap : List Nat) (Γ : Ga) : Ga := cap.map fun j => (Γ[j]?).getD none
def opL (m : Bool) : OpN := if m then Qeh else QfE
def Qav (m : Bool) (src : Src) (cap : List Nat) (rt re : Run) : Run := fun Γ st => (src Γ st).bind fun items st1 => if items.length < sizeLine then (Qbe rt re (capG cap Γ) items [] st1).bind (opL m) else .stuck
theorem Qnk {K : PySem.W.Frag} {ι : Nat->Addr} {N : Nat} {G : Hp} {σ : St} {Γ : Ga} {v : V} {w : W} (cap : List Nat) (en : EnvR K ι N G σ Γ) (r : RelW K ι N G v w) : EnvR K ι N G (capS cap σ (some v)) (some w :: capG cap Γ) := by
 refine ⟨by unfold capS capG; simp, fun i u h => ?_⟩
 cases i with
 | zero =>
  have h' : some (some w) = some (some u) := by simpa using h
  cases h'
  exact ⟨v, by unfold capS; simp, r⟩
 | succ i =>
  have h' : (capG cap Γ)[i]? = some (some u) := by simpa using h
  unfold capG at h'
  rw [QnT] at h'
  cases hj : cap[i]? with
  | none => rw [hj] at h'; cases h'
  | some j =>
   rw [hj] at h'
   have h2 : (Γ[j]?).getD none = some u := Option.some.inj h'
   cases hg : Γ[j]? with
   | none => rw [hg] at h2; cases h2
   | some o =>
    rw [hg] at h2
    have h3 : o = some u := h2
    subst h3
    obtain ⟨z, h4, h5⟩ := en.get j u hg
    refine ⟨z, ?_, h5⟩
    unfold capS
    rw [List.getElem?_cons_succ, QnT, hj]
    show some ((σ[j]?).getD none) = some (some z)
    rw [h4]; rfl
def wpL (X : Cx) (m : Bool) (ι : Nat->Addr) (N : Nat) (G : Hp) (r : R (List W)) (Q : VK) : Prop := match r with
 | .ok ys st => wpW X ι N G (opL m ys st) Q
 | .ex c st => XW X ι N G c st
 | .stuck => False
theorem Qgl {m : Bool} {ι : Nat->Addr} {N : Nat} {G : Hp} {r : R (List W)} {Q : VK} (h : wpW X ι N G (r.bind (opL m)) Q) : wpL X m ι N G r Q := by
 cases r <;> exact h
theorem wpL.later {m : Bool} {ι ι1 : Nat->Addr} {N N1 : Nat} {G G1 : Hp} {r : R (List W)} {Q : VK} (e : Ext ι N G ι1 N1 G1) (h : wpL X m ι N G r Q) : wpL X m ι1 N1 G1 r Q := by
 cases r with
 | stuck => exact h
 | ex c s => exact XW.mono e h
 | ok w st' => exact wpW.later e h
theorem Qdu {m : Bool} {ι : Nat->Addr} {N : Nat} {G : Hp} {r : R W} {f : W->S->R (List W)} {Q : VK} {Q' : VK} {K : PySem.W.Frag} (hK : K = X.K) (h : wpL X m ι N G (r.calm.bind f) Q)
  (k : ∀ w st' v ι' G' H', Ext ι N G ι' st'.nxt G'->SR X.K ι' st' G' H'->RelW X.K ι' st'.nxt G' v w->wpL X m ι' st'.nxt G' (f w st') Q->Q' v H') : wp0 K ι N G r Q' := by
 subst hK
 cases r with
 | stuck => exact h
 | ex c s => exact (show False from h).elim
 | ok w st' => exact fun v ι' G' H' e sr rel => k w st' v ι' G' H' e sr rel (wpL.later e (show wpL X m ι N G (f w st') Q from h))
theorem pd_comp {scope : Scope} {x : Str} {px pos : Pos} {cl : List (Str × Addr)} {N : List Str} {cap : List Nat} {elt iter : Expr} {ifs : List Expr} {src : Src} {rt re : Run} {m : Bool} (hc : X.calm = true) (hi : PDI X (.Name x px) iter src) (Sc : CompSc X scope x cl N cap)
  (ht : ∀ C s H ex, PTs (Qao X scope cl C N s H ex) ifs (tT0 X.K rt)) (he : ∀ C s H ex, PE (Qao X scope cl C N s H ex) elt (tD0 X.K re)) (hs : ∀ z, foldedSetIterable iter X.env z = pure z) :
  PD X (.ListComp elt [⟨.Name x px, iter, ifs, 0⟩] scope pos) (Qav m src cap rt re) /\
  (∀ {i : Nat} {y : Str} {py spos : Pos}, X.N.Nodup->X.N[i]? = some y->X.env.scope.names.lookup y = some .local->swapsWith (.ListComp elt [⟨.Name x px, iter, ifs, 0⟩] scope pos) (some (.Name y py)) spos.line X.env = pure true ->
   PS X (.Assign [.Name y py] (.ListComp elt [⟨.Name x px, iter, ifs, 0⟩] scope pos) spos) (tAsg (tD X (Qav m src cap rt re)) (Qfl i))) := by
 have key : ∀ σ H Q, tD X (Qav m src cap rt re) σ H Q->tComp (tDI X src) cap (tT0 X.K rt) (tD0 X.K re) σ H Q := by
  intro σ H Q h
  obtain ⟨ι, G, st, Γ, en, sr, q⟩ := h
  refine ⟨ι, G, st, Γ, en, sr, ?_⟩
  unfold Qav at q
  cases e1 : src Γ st with
  | stuck => rw [e1] at q; exact q
  | ex c s => rw [e1] at q; exact q
  | ok items st1 =>
   rw [e1] at q
   intro J ι1 G1 H1 x1 sr1 sc
   have q' : wpW X ι st.nxt G (if items.length < sizeLine then (Qbe rt re (capG cap Γ) items [] st1).bind (opL m) else .stuck) Q := q
   by_cases hl : items.length < sizeLine
   ·rw [if_pos hl] at q'
    have q1 := wpL.later x1 (Qgl q')
    have en1 := en.mono x1
    refine ⟨fun i k ys H' => k = items.length - i/\i<=items.length/\ys.length<=i/\∃ ι2 G2 st2 acc, Ext ι1 st1.nxt G1 ι2 st2.nxt G2/\SR X.K ι2 st2 G2 H'/\RelWs X.K ι2 st2.nxt G2 ys acc/\wpL X m ι2 st2.nxt G2 (Qbe rt re (capG cap Γ) (items.drop i) acc st2) Q,
     ⟨items.length, by simp, Nat.zero_le _, Nat.zero_le _, ι1, G1, st1, [], Ext.refl _ _ _, sr1, .nil, by rw [List.drop_zero]; exact q1⟩, ?_⟩
    rintro i k ys H' ⟨rfl, hi', hy, ι2, G2, st2, acc, e2, sr2, ra, q2⟩
    refine ⟨by omega, ?_⟩
    by_cases hlt : i < items.length
    ·have hd : items.drop i = items[i] :: items.drop (i + 1) := QnZ hlt
     have hg : items[i]? = some items[i] := QnF hlt
     obtain ⟨g1, g2⟩ := sc.go i items[i] ι2 st2.nxt G2 H' hg e2 sr2.sub
     refine .inr ⟨g1, fun v H'' hy' => ?_⟩
     obtain ⟨eh, rv⟩ := g2 v H'' hy'
     subst eh
     rw [hd] at q2
     have q2' : wpL X m ι2 st2.nxt G2 ((rt (some items[i] :: capG cap Γ) st2).calm.bind fun b st3 => match b with
      | .bl true => (re (some items[i] :: capG cap Γ) st3).calm.bind fun y st4 => Qbe rt re (capG cap Γ) (items.drop (i + 1)) (acc ++ [y]) st4
      | .bl false => Qbe rt re (capG cap Γ) (items.drop (i + 1)) acc st3
      | _ => .stuck) Q := q2
     have en2 : EnvR X.K ι2 st2.nxt G2 (capS cap σ (some v)) (some items[i] :: capG cap Γ) := Qnk cap (en1.mono e2) rv
     refine ⟨ι2, G2, st2, some items[i] :: capG cap Γ, en2, sr2, Qdu rfl q2' fun b st3 vb ι3 G3 H3 e3 sr3 rb q3 => ?_⟩
     cases b with
     | bl b =>
      cases rb
      refine ⟨b, rfl, ?_⟩
      cases b with
      | true =>
       rw [if_pos rfl]
       refine ⟨ι3, G3, st3, some items[i] :: capG cap Γ, en2.mono e3, sr3, Qdu rfl q3 fun y st4 vy ι4 G4 H4 e4 sr4 ry q4 => ?_⟩
       refine ⟨items.length - (i + 1), by omega, rfl, hlt, by rw [QnO, QnW]; omega, ι4, G4, st4, acc ++ [y], (e2.trans e3).trans e4, sr4, ((ra.mono e3).mono e4).append (.cons ry .nil), q4⟩
      | false =>
       rw [if_neg QnE]
       exact ⟨items.length - (i + 1), by omega, rfl, hlt, by omega, ι3, G3, st3, acc, e2.trans e3, sr3, ra.mono e3, q3⟩
     | _ => exact (show False from q3).elim
    ·have ei : i = items.length := by omega
     subst ei
     rw [List.drop_length] at q2
     refine .inl ⟨sc.stop G2 H' e2.sm sr2.sub, ?_⟩
     have q3 : wpW X ι2 st2.nxt G2 (opL m acc st2) Q := q2
     cases m with
     | true => exact (QcM sr2 ra q3).2
     | false => exact (QdE sr2 ra q3).2
   ·rw [if_neg hl] at q'; exact (show False from q').elim
 refine ⟨PE.imp (pe_comp hc hi Sc ht he hs) key, fun {i y py spos} hN hy hL hsw => ?_⟩
 exact PS.imp (Qkk hN hy hL hc hi Sc ht he hsw hs) fun D σ H h => key σ H _ h
def SpD (K : PySem.W.Frag) (n : Nat) (op : OpN) : Sp := fun vs H Q _ => vs.length = n/\∃ ι G st ws, SR K ι st G H/\RelWs K ι st.nxt G vs ws/\wp0 K ι st.nxt G (op ws st) Q
def Qak (op : OpN) : OpN := fun ws st => (op ws st).calm
theorem wp0_calm {ι : Nat->Addr} {N : Nat} {G : Hp} {r : R W} {Q : VK} (h : wpW X ι N G r.calm Q) : wp0 X.K ι N G r Q := by
 cases r with
 | ok w st => exact h
 | ex c s => exact (show False from h).elim
 | stuck => exact h
theorem pd_call {k n : Nat} {f : Addr} {fd : FuncData} {ps : List Str} {op : OpN} {x : Str} {p pos : Pos} {e : Expr} {es : List Expr} {rr : Runs} (F : FnOk X.prog X.w X.K X.mg X.base CX0 k f fd ps (SpD X.K n op)) (hr : Room k X.A) (hg : Gl X x) (hm : X.mg x = some (.ref f)) (hk : PySem.W.keepIn X.K (.ref f) = true)
  (hb : Qcs X.K fd ps []) (ha : PDA X (e :: es) rr) (hn : ∀ Γ st ws st', rr Γ st = .ok ws st'->ws.length = n) (hdb : (x == ("__debug__" : Str)) = false) (he : starEach (e :: es) X.env = (false, eval e X.env) :: starEach es X.env) (hpl : (backTo pos (starEach es X.env)).any (·.1) = false) :
  PD X (.Call (.Name x p) (e :: es) [] pos) (runN rr (Qak op)) := by
 refine PE.imp (pe_call F hr hg hm hk hb .nil pass0 ha hdb he hpl) fun σ H Q h => ?_
 obtain ⟨ι, G, st, Γ, en, sr, q⟩ := h
 refine ⟨ι, G, st, Γ, en, sr, ?_⟩
 unfold runN at q
 cases e1 : rr Γ st with
 | stuck => rw [e1] at q; exact q
 | ex c s => rw [e1] at q; exact q
 | ok ws st1 =>
  rw [e1] at q
  intro vs ι1 G1 H1 x1 sr1 r1
  rw [List.append_nil]
  exact ⟨by rw [r1.length]; exact hn Γ st ws st1 e1, ι1, G1, st1, ws, sr1, r1, wp0_calm (wpW.later x1 (show wpW X ι st.nxt G (Qak op ws st1) Q from q))⟩
end
end DL
namespace DL
open PySem PySem.Spec PyProof.Rows L2
inductive Fl where
 | nx (Γ : Ga) | rt (w : W) | bk (Γ : Ga) | ct (Γ : Ga)
abbrev RunS := Ga->S->R Fl
section
variable {X : Cx}
def wpF (X : Cx) (ι : Nat->Addr) (N : Nat) (G : Hp) (r : R Fl) (D : Ends) : Prop := match r with
 | .ok fl st' => ∀ ι' G' H', Ext ι N G ι' st'.nxt G'->SR X.K ι' st' G' H'->(match fl with
  | .nx Γ' => ∀ σ', EnvR X.K ι' st'.nxt G' σ' Γ'->D.nx σ' H'
  | .rt w => ∀ v, RelW X.K ι' st'.nxt G' v w->D.rt v H'
  | .bk Γ' => ∀ σ', EnvR X.K ι' st'.nxt G' σ' Γ'->D.bk σ' H'
  | .ct Γ' => ∀ σ', EnvR X.K ι' st'.nxt G' σ' Γ'->D.ct σ' H')
 | .ex c st' => XW X ι N G c st'
 | .stuck => False
theorem wpF.later {ι ι1 : Nat->Addr} {N N1 : Nat} {G G1 : Hp} {r : R Fl} {D : Ends} (e : Ext ι N G ι1 N1 G1) (h : wpF X ι N G r D) : wpF X ι1 N1 G1 r D := by
 cases r with
 | stuck => exact h
 | ex c s => exact XW.mono e h
 | ok w st' => exact fun ι' G' H' e' sr => h ι' G' H' (e.trans e') sr
theorem Qct {ι : Nat->Addr} {N : Nat} {G : Hp} {r : R W} {f : W->S->R Fl} {D : Ends} {Q' : VK} (h : wpF X ι N G (r.bind f) D)
  (k : ∀ w st' v ι' G' H', Ext ι N G ι' st'.nxt G'->SR X.K ι' st' G' H'->RelW X.K ι' st'.nxt G' v w->wpF X ι' st'.nxt G' (f w st') D->Q' v H') : wpW X ι N G r Q' := by
 cases r with
 | stuck => exact h
 | ex c s => exact h
 | ok w st' => exact fun v ι' G' H' e sr rel => k w st' v ι' G' H' e sr rel (wpF.later e (show wpF X ι N G (f w st') D from h))
def tDS (X : Cx) (run : RunS) : TS := fun D σ H => ∃ ι G st Γ, EnvR X.K ι st.nxt G σ Γ/\SR X.K ι st G H/\wpF X ι st.nxt G (run Γ st) D
abbrev PDS (X : Cx) (s : Stmt) (run : RunS) : Prop := PS X s (tDS X run)
abbrev PDSs (X : Cx) (s : List Stmt) (run : RunS) : Prop := PSs X s (tDS X run)
def Qal : RunS := fun Γ st => .ok (.nx Γ) st
def sBrk : RunS := fun Γ st => .ok (.bk Γ) st
def sCnt : RunS := fun Γ st => .ok (.ct Γ) st
def sRetN : RunS := fun _ st => .ok (.rt .non) st
def sRet (r : Run) : RunS := fun Γ st => (r Γ st).bind fun w st' => .ok (.rt w) st'
def QdT (r : Run) : RunS := fun Γ st => (r Γ st).bind fun _ st' => .ok (.nx Γ) st'
def sSet (i : Nat) (r : Run) : RunS := fun Γ st => (r Γ st).bind fun w st' => .ok (.nx (Γ.set i (some w))) st'
def sIf (rc : Run) (a b : RunS) : RunS := fun Γ st => (rc Γ st).bind fun w st' => match w with
 | .bl true => a Γ st'
 | .bl false => b Γ st'
 | _ => .stuck
def sSeq (a b : RunS) : RunS := fun Γ st => (a Γ st).bind fun fl st' => match fl with
 | .nx Γ' => b Γ' st'
 | fl => .ok fl st'
theorem pds_pass {pos : Pos} : PDS X (.Pass pos) Qal := PS.imp ps_pass fun D σ H ⟨ι, G, _, _, en, sr, q⟩ => q ι G H (Ext.refl _ _ _) sr σ en
theorem pds_brk {pos : Pos} : PDS X (.Break pos) sBrk := PS.imp ps_break fun D σ H ⟨ι, G, _, _, en, sr, q⟩ => q ι G H (Ext.refl _ _ _) sr σ en
theorem pds_cnt {pos : Pos} : PDS X (.Continue pos) sCnt := PS.imp QiM fun D σ H ⟨ι, G, _, _, en, sr, q⟩ => q ι G H (Ext.refl _ _ _) sr σ en
theorem pds_retN {pos : Pos} : PDS X (.Return none pos) sRetN := PS.imp ps_retN fun D σ H ⟨ι, G, _, _, en, sr, q⟩ => q ι G H (Ext.refl _ _ _) sr .non .non
theorem pds_ret {e : Expr} {pos : Pos} {r : Run} (he : PD X e r) : PDS X (.Return (some e) pos) (sRet r) := by
 refine PS.imp (ps_ret he) fun D σ H ⟨ι, G, st, Γ, en, sr, q⟩ => ⟨ι, G, st, Γ, en, sr, Qct q fun w st1 v ι1 G1 H1 e1 sr1 r1 q1 => ?_⟩
 exact q1 ι1 G1 H1 (Ext.refl _ _ _) sr1 v r1
theorem pds_drop {e : Expr} {pos : Pos} {r : Run} (he : PD X e r) (hs : swapsWith e none pos.line X.env = pure false) : PDS X (.Expr e pos) (QdT r) := by
 refine PS.imp (ps_expr he hs) fun D σ H ⟨ι, G, st, Γ, en, sr, q⟩ => ⟨ι, G, st, Γ, en, sr, Qct q fun w st1 v ι1 G1 H1 e1 sr1 r1 q1 => ?_⟩
 exact q1 ι1 G1 H1 (Ext.refl _ _ _) sr1 σ (en.mono e1)
theorem Qns {r : Run} {i : Nat} {D : Ends} {σ : St} {H : Hp} (h : tDS X (sSet i r) D σ H) : tAsg (tD X r) (Qfl i) D σ H := by
 obtain ⟨ι, G, st, Γ, en, sr, q⟩ := h
 refine ⟨ι, G, st, Γ, en, sr, Qct q fun w st1 v ι1 G1 H1 e1 sr1 r1 q1 => ?_⟩
 exact q1 ι1 G1 H1 (Ext.refl _ _ _) sr1 _ ((en.mono e1).set i r1)
theorem pds_set {i : Nat} {x : Str} {e : Expr} {pos pos' : Pos} {r : Run} (hN : X.N.Nodup) (hi : X.N[i]? = some x) (hx : Loc X.env.scope x) (he : PD X e r) (hs : swapsWith e (some (.Name x pos')) pos.line X.env = pure false) (hf : X.fn x = true\/X.env.scope.names.lookup x = some .local) :
  PDS X (.Assign [.Name x pos'] e pos) (sSet i r) := PS.imp (ps_set hN hi hx he hs hf) fun D σ H h => Qns h
theorem pds_if {c : Expr} {a b : List Stmt} {pos : Pos} {rc : Run} {ra rb : RunS} (hc : PT X c (tDT X rc)) (ha : PDSs X a ra) (hb : PDSs X b rb) : PDS X (.If c a b pos) (sIf rc ra rb) := by
 refine PS.imp (ps_if hc ha hb) fun D σ H ⟨ι, G, st, Γ, en, sr, q⟩ => ⟨ι, G, st, Γ, en, sr, Qct q fun w st1 v ι1 G1 H1 e1 sr1 r1 q1 => ?_⟩
 cases w with
 | bl b =>
  cases r1
  refine ⟨b, rfl, ?_⟩
  cases b with
  | true => rw [if_pos rfl]; exact ⟨ι1, G1, st1, Γ, en.mono e1, sr1, q1⟩
  | false => rw [if_neg QnE]; exact ⟨ι1, G1, st1, Γ, en.mono e1, sr1, q1⟩
 | _ => exact (show False from q1).elim
theorem pdss_nil : PDSs X [] Qal := PSs.imp pss_nil fun D σ H ⟨ι, G, _, _, en, sr, q⟩ => q ι G H (Ext.refl _ _ _) sr σ en
theorem QlM {s : Stmt} {ss : List Stmt} {a b : RunS} (h1 : PDS X s a) (h2 : PDSs X ss b) : PDSs X (s :: ss) (sSeq a b) := by
 refine PSs.imp (pss_cons h1 h2) fun D σ H ⟨ι, G, st, Γ, en, sr, q⟩ => ⟨ι, G, st, Γ, en, sr, ?_⟩
 unfold sSeq at q
 cases e1 : a Γ st with
 | stuck => rw [e1] at q; exact q
 | ex c s => rw [e1] at q; exact q
 | ok fl st1 =>
  rw [e1] at q
  intro ι1 G1 H1 x1 sr1
  cases fl with
  | nx Γ1 => exact fun σ1 en1 => ⟨ι1, G1, st1, Γ1, en1, sr1, wpF.later x1 (show wpF X ι st.nxt G (b Γ1 st1) D from q)⟩
  | rt w => exact q ι1 G1 H1 x1 sr1
  | bk Γ1 => exact q ι1 G1 H1 x1 sr1
  | ct Γ1 => exact q ι1 G1 H1 x1 sr1
def QbI (i : Nat) (body : RunS) : List W->Ga->S->R Fl
 | [], Γ, st => .ok (.nx Γ) st
 | x :: xs, Γ, st => (body (Γ.set i (some x)) st).bind fun fl st' => match fl with
  | .nx Γ' => QbI i body xs Γ' st'
  | .ct Γ' => QbI i body xs Γ' st'
  | .bk Γ' => .ok (.nx Γ') st'
  | .rt w => .ok (.rt w) st'
def sFor (i : Nat) (src : Src) (body : RunS) : RunS := fun Γ st => (src Γ st).bind fun items st' => QbI i body items Γ st'
theorem pds_for {i : Nat} {x : Str} {px pos : Pos} {iter : Expr} {body : List Stmt} {src : Src} {rb : RunS} (hp : PassesOwn (model X.prog X.w) X.A X.env X.xe) (hc : X.calm = true) (hi : PDI X (.Name x px) iter src) (hg : PG X (.Name x px) (Qfl i)) (hb : PDSs X body rb) (hs : ∀ z, foldedSetIterable iter X.env z = pure z) :
  PDS X (.For (.Name x px) iter body [] pos) (sFor i src rb) := by
 refine PS.imp (ps_for hp hc hi hg hb hs) fun D σ H ⟨ι, G, st, Γ, en, sr, q⟩ => ⟨ι, G, st, Γ, en, sr, ?_⟩
 unfold sFor at q
 cases e1 : src Γ st with
 | stuck => rw [e1] at q; exact q
 | ex c s => rw [e1] at q; exact q
 | ok items st1 =>
  rw [e1] at q
  intro J ι1 G1 H1 x1 sr1 sc
  have q1 : wpF X ι1 st1.nxt G1 (QbI i rb items Γ st1) D := wpF.later x1 (show wpF X ι st.nxt G (QbI i rb items Γ st1) D from q)
  refine ⟨fun k m σ' H' => m = items.length - k/\k<=items.length/\∃ ι2 G2 st2 Γ2, Ext ι1 st1.nxt G1 ι2 st2.nxt G2/\SR X.K ι2 st2 G2 H'/\EnvR X.K ι2 st2.nxt G2 σ' Γ2/\wpF X ι2 st2.nxt G2 (QbI i rb (items.drop k) Γ2 st2) D,
   ⟨items.length, by simp, Nat.zero_le _, ι1, G1, st1, Γ, Ext.refl _ _ _, sr1, en.mono x1, by rw [List.drop_zero]; exact q1⟩, ?_⟩
  rintro k m σ' H' ⟨rfl, hk, ι2, G2, st2, Γ2, e2, sr2, en2, q2⟩
  by_cases hlt : k < items.length
  ·have hd : items.drop k = items[k] :: items.drop (k + 1) := QnZ hlt
   have hg' : items[k]? = some items[k] := QnF hlt
   obtain ⟨g1, g2⟩ := sc.go k items[k] ι2 st2.nxt G2 H' hg' e2 sr2.sub
   rw [hd] at q2
   refine .inr ⟨g1, fun σ3 H3 => ∃ ι3 G3 st3 Γ3, Ext ι1 st1.nxt G1 ι3 st3.nxt G3/\SR X.K ι3 st3 G3 H3/\EnvR X.K ι3 st3.nxt G3 σ3 Γ3/\wpF X ι3 st3.nxt G3 (QbI i rb (items.drop (k + 1)) Γ3 st3) D,
    fun σ3 H3 h3 => ⟨items.length - (k + 1), by omega, rfl, hlt, h3⟩, fun v H'' hy => ?_⟩
   obtain ⟨eh, rv⟩ := g2 v H'' hy
   subst eh
   refine ⟨ι2, G2, st2, Γ2.set i (some items[k]), en2.set i rv, sr2, ?_⟩
   have q2' : wpF X ι2 st2.nxt G2 ((rb (Γ2.set i (some items[k])) st2).bind fun fl st' => match fl with
    | .nx Γ' => QbI i rb (items.drop (k + 1)) Γ' st'
    | .ct Γ' => QbI i rb (items.drop (k + 1)) Γ' st'
    | .bk Γ' => .ok (.nx Γ') st'
    | .rt w => .ok (.rt w) st') D := q2
   cases e3 : rb (Γ2.set i (some items[k])) st2 with
   | stuck => rw [e3] at q2'; exact q2'
   | ex c s => rw [e3] at q2'; exact q2'
   | ok fl st3 =>
    rw [e3] at q2'
    intro ι3 G3 H3 x3 sr3
    cases fl with
    | nx Γ3 => exact fun σ3 en3 => ⟨ι3, G3, st3, Γ3, e2.trans x3, sr3, en3, wpF.later x3 q2'⟩
    | ct Γ3 => exact fun σ3 en3 => ⟨ι3, G3, st3, Γ3, e2.trans x3, sr3, en3, wpF.later x3 q2'⟩
    | bk Γ3 => exact q2' ι3 G3 H3 x3 sr3
    | rt w => exact q2' ι3 G3 H3 x3 sr3
  ·have ek : k = items.length := by omega
   subst ek
   rw [List.drop_length] at q2
   exact .inl ⟨sc.stop G2 H' e2.sm sr2.sub, q2 ι2 G2 H' (Ext.refl _ _ _) sr2 σ' en2⟩
def putAt (n : Nat) (k : Int) (v : W) (st : S) : Option MO->R Unit
 | some (.lst ws) => (match ixN ws.length k with | some j => .ok () (st.put n (.lst (ws.set j v))) | none => .stuck)
 | _ => .stuck
def QeB : W->W->W->S->R Unit := fun o i v st => match o, i with
 | .ref n, .int k => putAt n k v st (st.mu n)
 | _, _ => .stuck
def QiJ (ro ri rv : Run) : RunS := fun Γ st => (rv Γ st).bind fun v st1 => (ro Γ st1).bind fun o st2 => (ri Γ st2).bind fun i st3 => (QeB o i v st3).bind fun _ st4 => .ok (.nx Γ) st4
theorem Qkn {o i e : Expr} {pos tpos : Pos} {ro ri rv : Run} (ho : PD X o ro) (hi : PD X i ri) (he : PD X e rv) (hg : ∀ {t : TSet}, PSet X t->PG X (.Subscript o i tpos) (gSub (tD X ro) (tD X ri) t)) (hs : swapsWithSole [.Subscript o i tpos] e pos.line X.env = pure false) (hw : swappedStores [.Subscript o i tpos] e X.env = pure none) :
  PDS X (.Assign [.Subscript o i tpos] e pos) (QiJ ro ri rv) := by
 refine PS.imp (ps_asg he (hg set_list) hs hw) fun D σ H ⟨ι, G, st, Γ, en, sr, q⟩ => ⟨ι, G, st, Γ, en, sr, Qct q fun w st1 v ι1 G1 H1 e1 sr1 r1 q1 => ?_⟩
 refine ⟨ι1, G1, st1, Γ, en.mono e1, sr1, Qct q1 fun wo st2 vo ι2 G2 H2 e2 sr2 r2 q2 => ?_⟩
 refine ⟨ι2, G2, st2, Γ, (en.mono e1).mono e2, sr2, Qct q2 fun wi st3 vi ι3 G3 H3 e3 sr3 r3 q3 => ?_⟩
 have r1' := (r1.mono e2).mono e3
 have r2' := r2.mono e3
 cases wo with
 | ref n =>
  cases wi with
  | int k =>
   cases r3
   cases r2'
   have q3 : wpF X ι3 st3.nxt G3 ((putAt n k w st3 (st3.mu n)).bind fun x st4 => .ok (.nx Γ) st4) D := q3
   cases em : st3.mu n with
   | none => rw [em] at q3; exact (show False from q3).elim
   | some ob =>
    cases ob with
    | dct ks vs => rw [em] at q3; exact (show False from q3).elim
    | lst ws =>
     rw [em] at q3
     have q3 : wpF X ι3 st3.nxt G3 ((match ixN ws.length k with | some j => R.ok () (st3.put n (.lst (ws.set j w))) | none => R.stuck).bind fun x st4 => .ok (.nx Γ) st4) D := q3
     cases ej : ixN ws.length k with
     | none => rw [ej] at q3; exact (show False from q3).elim
     | some j =>
      rw [ej] at q3
      obtain ⟨_, _, xs, hx, rx⟩ := sr3.live n _ em
      refine ⟨_, xs, k, j, rfl, rfl, hx, by rw [rx.length]; exact ej, ?_⟩
      have sr4 := sr3.putL em (rx.set r1' j)
      exact q3 ι3 G3 _ (Ext.refl _ _ _) sr4 σ (((en.mono e1).mono e2).mono e3)
  | _ => exact (show False from q3).elim
 | _ => exact (show False from q3).elim
def frzs (f : W->Option W) : List W->Option (List W)
 | [] => some []
 | x :: xs => match f x, frzs f xs with
  | some y, some ys => some (y :: ys)
  | _, _ => none
def frz (N : Nat) (mu : Nat->Option MO) : Nat->W->Option W
 | 0, _ => none
 | k + 1, w => match w with
  | .ref n => if n < N then some (.ref n) else (match mu n with
   | some (.lst xs) => (frzs (frz N mu k) xs).map W.lst
   | some (.dct ks xs) => (frzs (frz N mu k) xs).map (W.dct ks)
   | none => none)
  | .tup xs => (frzs (frz N mu k) xs).map W.tup
  | .lst xs => (frzs (frz N mu k) xs).map W.lst
  | .dct ks xs => (frzs (frz N mu k) xs).map (W.dct ks)
  | w => some w
section
variable {K : PySem.W.Frag} {ι ι' : Nat->Addr} {N N' : Nat} {G G' : Hp}
theorem RelW.low {v0 : V} {w : W} (h : RelW K ι N G v0 w) : ∀ v, RelW K ι' N' G' v w->RelW K ι' N G' v w := by
 refine RelW.rec (motive_1 := fun _ w _ => ∀ v, RelW K ι' N' G' v w->RelW K ι' N G' v w) (motive_2 := fun _ ws _ => ∀ vs, RelWs K ι' N' G' vs ws->RelWs K ι' N G' vs ws) ?_ ?_ ?_ ?_ ?_ ?_ ?_ ?_ ?_ ?_ ?_ ?_ h
 ·intro v r; cases r; exact .non
 ·intro b v r; cases r; exact .bl b
 ·intro i v r; cases r; exact .int i
 ·intro x v r; cases r; exact .str x
 ·intro n v r; cases r; exact .ty n
 ·intro a xs ws _ _ _ ih v r; cases r with | tup s c t => exact .tup s c (ih _ t)
 ·intro a xs ws _ _ ih v r; cases r with | lst s t => exact .lst s (ih _ t)
 ·intro a xs ks ws _ _ _ ih v r; cases r with | dct s l t => exact .dct s l (ih _ t)
 ·intro n hn v r; cases r; exact .ref hn
 ·intro a C x _ _ v r; cases r with | exn s n => exact .exn s n
 ·intro vs r; cases r; exact .nil
 ·intro x w xs ws _ _ i1 i2 vs r; cases r with | cons r t => exact .cons (i1 _ r) (i2 _ t)
theorem RelWs.low : ∀ {vs0 : List V} {ws : List W} {vs : List V}, RelWs K ι N G vs0 ws->RelWs K ι' N' G' vs ws->RelWs K ι' N G' vs ws
 | _, _, _, .nil, .nil => .nil
 | _, _, _, .cons r0 t0, .cons r t => .cons (r0.low _ r) (RelWs.low t0 t)
theorem Qcb {f : W->Option W} (hf : ∀ v w w', RelW K ι N' G v w->f w = some w'->RelW K ι N G' v w') : ∀ {vs : List V} {ws ws' : List W}, RelWs K ι N' G vs ws->frzs f ws = some ws'->RelWs K ι N G' vs ws'
 | _, _, _, .nil, h => by cases h; exact .nil
 | _, w :: ws, ws', .cons r t, h => by
  unfold frzs at h
  cases e1 : f w with
  | none => rw [e1] at h; cases h
  | some y =>
   cases e2 : frzs f ws with
   | none => rw [e1, e2] at h; cases h
   | some ys =>
    rw [e1, e2] at h
    cases h
    exact .cons (hf _ _ _ r e1) (Qcb hf t e2)
theorem QiW {mu : Nat->Option MO} (sm : Same G G') (hmu : ∀ n o, N<=n->mu n = some o->MOR K ι N' G G' (ι n) o) : ∀ (k : Nat) (v : V) (w w' : W), RelW K ι N' G v w->frz N mu k w = some w'->RelW K ι N G' v w'
 | 0, _, _, _, _, h => by cases h
 | k + 1, v, w, w', r, h => by
  have ih := QiW sm hmu k
  unfold frz at h
  cases r with
  | non => cases h; exact .non
  | bl b => cases h; exact .bl b
  | int i => cases h; exact .int i
  | str x => cases h; exact .str x
  | ty n => cases h; exact .ty n
  | exn s n => cases h; exact .exn (sm _ _ s) n
  | @tup a xs ws s c t =>
   have h : (frzs (frz N mu k) ws).map W.tup = some w' := h
   cases e : frzs (frz N mu k) ws with
   | none => rw [e] at h; cases h
   | some ys => rw [e] at h; cases h; exact .tup (sqT_same sm s) (fun h => sm _ _ (c h)) (Qcb ih t e)
  | @lst a xs ws s t =>
   have h : (frzs (frz N mu k) ws).map W.lst = some w' := h
   cases e : frzs (frz N mu k) ws with
   | none => rw [e] at h; cases h
   | some ys => rw [e] at h; cases h; exact .lst (sm.seq s) (Qcb ih t e)
  | @dct a xs ks ws s l t =>
   have h : (frzs (frz N mu k) ws).map (W.dct ks) = some w' := h
   cases e : frzs (frz N mu k) ws with
   | none => rw [e] at h; cases h
   | some ys => rw [e] at h; cases h; exact .dct (sm _ _ s) l (Qcb ih t e)
  | @ref n hn =>
   have h : (if n < N then some (W.ref n) else (match mu n with
    | some (.lst xs) => (frzs (frz N mu k) xs).map W.lst
    | some (.dct ks xs) => (frzs (frz N mu k) xs).map (W.dct ks)
    | none => none)) = some w' := h
   by_cases hl : n < N
   ·rw [if_pos hl] at h; cases h; exact .ref hl
   ·rw [if_neg hl] at h
    cases em : mu n with
    | none => rw [em] at h; cases h
    | some o =>
     rw [em] at h
     have m := hmu n o (Nat.le_of_not_lt hl) em
     cases o with
     | lst ws =>
      obtain ⟨xs, h1, t⟩ := m
      have h : (frzs (frz N mu k) ws).map W.lst = some w' := h
      cases e : frzs (frz N mu k) ws with
      | none => rw [e] at h; cases h
      | some ys => rw [e] at h; cases h; exact .lst (SqL.of h1) (Qcb ih t e)
     | dct ks ws =>
      obtain ⟨xs, h1, l, t⟩ := m
      have h : (frzs (frz N mu k) ws).map (W.dct ks) = some w' := h
      cases e : frzs (frz N mu k) ws with
      | none => rw [e] at h; cases h
      | some ys => rw [e] at h; cases h; exact .dct h1 l (Qcb ih t e)
end
theorem SR.kept {K : PySem.W.Frag} {ι ι' : Nat->Addr} {st st' : S} {G G' H H' : Hp} (sr0 : SR K ι st G H) (e : Ext ι st.nxt G ι' st'.nxt G') (sr1 : SR K ι' st' G' H') (hs : ∀ n, n < st.nxt->st'.mu n = st.mu n) :
  ∃ G'', Ext ι st.nxt G ι' st.nxt G''/\SR K ι' st G'' H'/\(∀ (k : Nat) (v : V) (w w' : W), RelW K ι' st'.nxt G' v w->frz st.nxt st'.mu k w = some w'->RelW K ι' st.nxt G'' v w') /\
   ∀ a, (¬ ∃ n o, st.nxt<=n/\st'.mu n = some o/\ι' n = a)->G'' a = G' a := by
 have hold : ∀ n o, st.mu n = some o->n < st.nxt/\st'.mu n = some o := fun n o h => by
  have l := (sr0.live n o h).1
  exact ⟨l, by rw [hs n l]; exact h⟩
 let P : Addr->Prop := fun a => ∃ n o, st.nxt<=n/\st'.mu n = some o/\ι' n = a
 let G'' : Hp := fun a => @ite _ (P a) (Classical.propDecidable _) (H' a) (G' a)
 have g1 : ∀ a, P a->G'' a = H' a := fun a h => @if_pos _ (Classical.propDecidable _) h _ _ _
 have g2 : ∀ a, ¬ P a->G'' a = G' a := fun a h => @if_neg _ (Classical.propDecidable _) h _ _ _
 have sm : Same G' G'' := fun a u h => by
  by_cases p : P a
  ·obtain ⟨n, o, _, h2, h3⟩ := p
   have := (sr1.live n o h2).2.1
   rw [h3, h] at this
   cases this
  ·rw [g2 a p]; exact h
 have sub : Same G'' H' := fun a u h => by
  by_cases p : P a
  ·rw [g1 a p] at h; exact h
  ·rw [g2 a p] at h; exact sr1.sub a u h
 refine ⟨G'', ⟨QnL _, e.ag, e.sm.trans sm⟩, ⟨sub, fun n o h => ?_, fun n m o o' h h' z => sr1.inj n m o o' (hold n o h).2 (hold m o' h').2 z⟩, ?_, g2⟩
 ·obtain ⟨l, h'⟩ := hold n o h
  have np : ¬ P (ι' n) := fun ⟨m, o', h1, h2, h3⟩ => by
   have := sr1.inj m n o' o h2 h' h3
   omega
  obtain ⟨_, a2, a3⟩ := sr1.live n o h'
  have ex : Ext ι' st'.nxt G' ι' st'.nxt G'' := ⟨QnL _, fun _ _ => rfl, sm⟩
  refine ⟨l, by rw [g2 _ np]; exact a2, ?_⟩
  have b3 := (sr0.live n o h).2.2
  cases o with
  | lst ws => obtain ⟨xs, q, t⟩ := a3; obtain ⟨_, _, t0⟩ := b3; exact ⟨xs, q, RelWs.low t0 (t.mono ex)⟩
  | dct ks ws => obtain ⟨xs, q, z, t⟩ := a3; obtain ⟨_, _, _, t0⟩ := b3; exact ⟨xs, q, z, RelWs.low t0 (t.mono ex)⟩
 ·refine QiW sm fun n o hn h => ?_
  have p : P (ι' n) := ⟨n, o, hn, h, rfl⟩
  have a3 := (sr1.live n o h).2.2
  cases o with
  | lst ws => obtain ⟨xs, q, t⟩ := a3; exact ⟨xs, by rw [g1 _ p]; exact q, t⟩
  | dct ks ws => obtain ⟨xs, q, z, t⟩ := a3; exact ⟨xs, by rw [g1 _ p]; exact q, z, t⟩
noncomputable def keep (st st' : S) (w : W) : R W := @ite _ (∀ n, n < st.nxt->st'.mu n = st.mu n) (Classical.propDecidable _) (match frz st.nxt st'.mu 12 w with
 | some w' => .ok w' st
 | none => .stuck) .stuck
theorem QeE {st st' : S} {w w' : W} (h : ∀ n, n < st.nxt->st'.mu n = st.mu n) (e : frz st.nxt st'.mu 12 w = some w') : keep st st' w = .ok w' st := by
 unfold keep
 rw [if_pos h, e]
theorem keep_inv {st st' : S} {w : W} (h : keep st st' w ≠ .stuck) : (∀ n, n < st.nxt->st'.mu n = st.mu n)/\∃ w', frz st.nxt st'.mu 12 w = some w'/\keep st st' w = .ok w' st := by
 by_cases hs : ∀ n, n < st.nxt->st'.mu n = st.mu n
 ·refine ⟨hs, ?_⟩
  cases e : frz st.nxt st'.mu 12 w with
  | none => exact absurd (by unfold keep; rw [if_pos hs, e]) h
  | some w' => exact ⟨w', rfl, QeE hs e⟩
 ·exact absurd (by unfold keep; rw [if_neg hs]) h
theorem SR.adopt {K : PySem.W.Frag} {ι : Nat->Addr} {st : S} {G H : Hp} {p : Addr} {o : MO} (h : SR K ι st G H) (hG : G p = none) (hne : ∀ m o, st.mu m = some o->ι m ≠ p) (mor : MOR K ι st.nxt G H p o) :
  ∃ ι', Ext ι st.nxt G ι' (st.nxt + 1) G/\SR K ι' (st.new o) G H/\ι' st.nxt = p := by
 have ex : Ext ι st.nxt G (fun n => if n = st.nxt then p else ι n) (st.nxt + 1) G := ⟨Nat.le_succ _, fun n hn => if_neg (QnS hn), Same.refl G⟩
 have up : ∀ {a : Addr} {q : MO}, MOR K ι st.nxt G H a q->MOR K (fun n => if n = st.nxt then p else ι n) (st.nxt + 1) G H a q := by
  intro a q m
  cases q with
  | lst ws => obtain ⟨xs, q, r⟩ := m; exact ⟨xs, q, r.mono ex⟩
  | dct ks ws => obtain ⟨xs, q, l, r⟩ := m; exact ⟨xs, q, l, r.mono ex⟩
 refine ⟨fun n => if n = st.nxt then p else ι n, ex, ⟨h.sub, fun n q e => ?_, fun n m q q' e e' z => ?_⟩, if_pos rfl⟩
 ·by_cases hn : n = st.nxt
  ·subst hn
   have e' : (if st.nxt = st.nxt then some o else st.mu st.nxt) = some q := e
   rw [if_pos rfl] at e'
   cases e'
   refine ⟨Nat.lt_succ_self _, ?_, ?_⟩
   ·(try dsimp only); rw [if_pos rfl]; exact hG
   ·(try dsimp only); rw [if_pos rfl]; exact up mor
  ·have e' : (if n = st.nxt then some o else st.mu n) = some q := e
   rw [if_neg hn] at e'
   obtain ⟨h1, h2, h3⟩ := h.live n q e'
   refine ⟨Nat.lt_succ_of_lt h1, ?_, ?_⟩
   ·(try dsimp only); rw [if_neg hn]; exact h2
   ·(try dsimp only); rw [if_neg hn]; exact up h3
 ·have e1 : (if n = st.nxt then some o else st.mu n) = some q := e
  have e2 : (if m = st.nxt then some o else st.mu m) = some q' := e'
  (try dsimp only at z)
  by_cases hn : n = st.nxt
  ·by_cases hm : m = st.nxt
   ·rw [hn, hm]
   ·rw [if_neg hm] at e2
    rw [if_pos hn, if_neg hm] at z
    exact absurd z.symm (hne m q' e2)
  ·rw [if_neg hn] at e1
   by_cases hm : m = st.nxt
   ·rw [if_neg hn, if_pos hm] at z
    exact absurd z (hne n q e1)
   ·rw [if_neg hm] at e2
    rw [if_neg hn, if_neg hm] at z
    exact h.inj n m q q' e1 e2 z
def S.less (st : S) (n : Nat) : S := ⟨st.nxt, fun m => if m = n then none else st.mu m⟩
theorem SR.less {K : PySem.W.Frag} {ι : Nat->Addr} {st : S} {G H : Hp} (h : SR K ι st G H) (n : Nat) : SR K ι (st.less n) G H := by
 have sub : ∀ m o, (st.less n).mu m = some o->st.mu m = some o/\m ≠ n := fun m o e => by
  have e : (if m = n then none else st.mu m) = some o := e
  by_cases hm : m = n
  ·rw [if_pos hm] at e; cases e
  ·rw [if_neg hm] at e; exact ⟨e, hm⟩
 exact ⟨h.sub, fun m o e => h.live m o (sub m o e).1, fun a b o o' e e' z => h.inj a b o o' (sub a o e).1 (sub b o' e').1 z⟩
def QkF (N : Nat) (mu : Nat->Option MO) : MO->Option MO
 | .lst xs => (frzs (frz N mu 12) xs).map MO.lst
 | .dct ks xs => (frzs (frz N mu 12) xs).map (MO.dct ks)
noncomputable def QkB (st st' : S) (w : W) : R W := match w with
 | .ref n => if n < st.nxt then keep st st' (.ref n) else @ite _ (∀ m, m < st.nxt->st'.mu m = st.mu m) (Classical.propDecidable _) (match st'.mu n with
  | some o => (match QkF st.nxt (st'.less n).mu o with
   | some o' => .ok (.ref st.nxt) (st.new o')
   | none => .stuck)
  | none => .stuck) .stuck
 | w => keep st st' w
theorem SR.keptL {K : PySem.W.Frag} {ι ι' : Nat->Addr} {st st' : S} {G G' H H' : Hp} {n : Nat} {o o' : MO} (sr0 : SR K ι st G H) (e : Ext ι st.nxt G ι' st'.nxt G') (sr1 : SR K ι' st' G' H') (hs : ∀ n, n < st.nxt->st'.mu n = st.mu n)
  (hn : st.nxt<=n) (ho : st'.mu n = some o) (hf : QkF st.nxt (st'.less n).mu o = some o') :
  ∃ ι'' G'', Ext ι st.nxt G ι'' (st.nxt + 1) G''/\SR K ι'' (st.new o') G'' H'/\ι'' st.nxt = ι' n := by
 have hs' : ∀ m, m < st.nxt->(st'.less n).mu m = st.mu m := fun m hm => by
  show (if m = n then none else st'.mu m) = _
  rw [if_neg (by omega)]; exact hs m hm
 obtain ⟨G'', ex, sr2, rel, g2⟩ := sr0.kept (st' := st'.less n) e (sr1.less n) hs'
 obtain ⟨_, a2, a3⟩ := sr1.live n o ho
 have np : ¬ ∃ m q, st.nxt<=m/\(st'.less n).mu m = some q/\ι' m = ι' n := fun ⟨m, q, _, h2, h3⟩ => by
  have h2 : (if m = n then none else st'.mu m) = some q := h2
  by_cases hm : m = n
  ·rw [if_pos hm] at h2; cases h2
  ·rw [if_neg hm] at h2; exact hm (sr1.inj m n q o h2 ho h3)
 have hG : G'' (ι' n) = none := by rw [g2 _ np]; exact a2
 have mor : MOR K ι' st.nxt G'' H' (ι' n) o' := by
  cases o with
  | lst ws =>
   obtain ⟨xs, q, t⟩ := a3
   have hf : (frzs (frz st.nxt (st'.less n).mu 12) ws).map MO.lst = some o' := hf
   cases e2 : frzs (frz st.nxt (st'.less n).mu 12) ws with
   | none => rw [e2] at hf; cases hf
   | some ys => rw [e2] at hf; cases hf; exact ⟨xs, q, Qcb (rel 12) t e2⟩
  | dct ks ws =>
   obtain ⟨xs, q, z, t⟩ := a3
   have hf : (frzs (frz st.nxt (st'.less n).mu 12) ws).map (MO.dct ks) = some o' := hf
   cases e2 : frzs (frz st.nxt (st'.less n).mu 12) ws with
   | none => rw [e2] at hf; cases hf
   | some ys => rw [e2] at hf; cases hf; exact ⟨xs, q, z, Qcb (rel 12) t e2⟩
 obtain ⟨ι'', ex2, sr3, ep⟩ := sr2.adopt hG (fun m q h z => by
  have l := (sr0.live m q h).1
  have h' : st'.mu m = some q := by rw [hs m l]; exact h
  have := sr1.inj m n q o h' ho z
  omega) mor
 exact ⟨ι'', G'', ex.trans ex2, sr3, ep⟩
noncomputable def Qms (fz : Nat) (st st' : S) (w : W) : R W := match fz with
 | 0 => .ok w st'
 | 1 => keep st st' w
 | _ => QkB st st' w
noncomputable def QiU (fz : Nat) (st : S) : R Fl->R W
 | .ok (.rt w) st' => Qms fz st st' w
 | .ok (.nx _) st' => Qms fz st st' .non
 | _ => .stuck
noncomputable def QaI (n nl fz : Nat) (run : RunS) : OpN := fun ws st => if ws.length = n then QiU fz st (run (ws.map some ++ List.replicate (nl - n) none) st) else .stuck
theorem kept_ok {K : PySem.W.Frag} {ι ι1 : Nat->Addr} {st0 st1 : S} {G G1 H0 H1 : Hp} {fz : Nat} {w1 : W} {v : V} (sr : SR K ι st0 G H0) (x1 : Ext ι st0.nxt G ι1 st1.nxt G1) (sr1 : SR K ι1 st1 G1 H1) (r1 : RelW K ι1 st1.nxt G1 v w1)
  (ns : Qms fz st0 st1 w1 ≠ .stuck) : ∃ w' st' ι' G', Qms fz st0 st1 w1 = .ok w' st'/\Ext ι st0.nxt G ι' st'.nxt G'/\SR K ι' st' G' H1/\RelW K ι' st'.nxt G' v w' := by
 have one : keep st0 st1 w1 ≠ .stuck->∃ w' st' ι' G', keep st0 st1 w1 = .ok w' st'/\Ext ι st0.nxt G ι' st'.nxt G'/\SR K ι' st' G' H1/\RelW K ι' st'.nxt G' v w' := fun ns => by
  obtain ⟨hs, w', e, ek⟩ := keep_inv ns
  obtain ⟨G2, e2, sr2, rel, _⟩ := sr.kept x1 sr1 hs
  exact ⟨w', st0, ι1, G2, ek, e2, sr2, rel 12 v w1 w' r1 e⟩
 match fz with
 | 0 => exact ⟨w1, st1, ι1, G1, rfl, x1, sr1, r1⟩
 | 1 => exact one ns
 | k + 2 =>
  have nl : QkB st0 st1 w1 ≠ .stuck := ns
  clear ns
  show ∃ w' st' ι' G', QkB st0 st1 w1 = .ok w' st'/\_
  unfold QkB at nl ⊢
  split at nl
  ·rename_i n
   by_cases hn : n < st0.nxt
   ·rw [if_pos hn] at nl ⊢; exact one nl
   ·rw [if_neg hn] at nl ⊢
    by_cases hs : ∀ m, m < st0.nxt->st1.mu m = st0.mu m
    ·rw [if_pos hs] at nl ⊢
     cases ho : st1.mu n with
     | none => rw [ho] at nl; exact absurd rfl nl
     | some o =>
      rw [ho] at nl
      have ns : (match QkF st0.nxt (st1.less n).mu o with
       | some o' => R.ok (W.ref st0.nxt) (st0.new o')
       | none => .stuck) ≠ .stuck := nl
      cases hf : QkF st0.nxt (st1.less n).mu o with
      | none => rw [hf] at ns; exact absurd rfl ns
      | some o' =>
       obtain ⟨ι2, G2, e2, sr2, ep⟩ := sr.keptL x1 sr1 hs (Nat.le_of_not_lt hn) ho hf
       refine ⟨.ref st0.nxt, st0.new o', ι2, G2, ?_, e2, sr2, ?_⟩
       ·show (match QkF st0.nxt (st1.less n).mu o with
         | some o' => R.ok (W.ref st0.nxt) (st0.new o')
         | none => .stuck) = _
        rw [hf]
       ·cases r1
        rw [<-ep]
        exact .ref (Nat.lt_succ_self _)
    ·rw [if_neg hs] at nl; exact absurd rfl nl
  ·exact one nl
theorem Qmk {K : PySem.W.Frag} {ι ι1 : Nat->Addr} {st0 st1 : S} {G G1 H0 H1 : Hp} {fz : Nat} {w1 : W} {v : V} {Q : VK} (sr : SR K ι st0 G H0) (x1 : Ext ι st0.nxt G ι1 st1.nxt G1) (sr1 : SR K ι1 st1 G1 H1) (r1 : RelW K ι1 st1.nxt G1 v w1)
  (q : wp0 K ι st0.nxt G (Qms fz st0 st1 w1) Q) : Q v H1 := by
 obtain ⟨w', st', ι', G', e, ex, sr', r'⟩ := kept_ok (fz := fz) sr x1 sr1 r1 (fun z => by rw [z] at q; exact q)
 rw [e] at q
 exact q v ι' G' H1 ex sr' r'
theorem Qlh {K : PySem.W.Frag} {ι : Nat->Addr} {N : Nat} {G : Hp} {vs : List V} {ws : List W} {Ns : List Str} (t : RelWs K ι N G vs ws) : EnvR K ι N G (L2.start Ns vs) (ws.map some ++ List.replicate (Ns.length - ws.length) none) := by
 unfold L2.start
 rw [t.length]
 refine ⟨by simp [t.length], fun i w h => ?_⟩
 by_cases hi : i < ws.length
 ·rw [List.getElem?_append_left (by simpa using hi), QnT] at h
  cases e : ws[i]? with
  | none => rw [e] at h; cases h
  | some u =>
   rw [e] at h
   cases h
   obtain ⟨v, h1, h2⟩ := t.get e
   refine ⟨v, ?_, h2⟩
   rw [List.getElem?_append_left (by rw [QnM, t.length]; exact hi), QnT, h1]; rfl
 ·rw [List.getElem?_append_right (by simpa using hi), List.getElem?_replicate] at h
  split at h <;> cases h
theorem fn_body {P : Program} {w : World} {K : PySem.W.Frag} {mg : Str->Option Value} {base : Heap} {x qual : Str} {st : Stmt} {f : Addr} {fd : FuncData} {N ps : List Str} {k fz : Nat} {run : RunS} (F : Fun K x qual st f fd) (Sc : FnScope N ps (Qad st))
  (hb : ∀ (cdv : Value) (A : Around) (outer : List Env) (s : Shared) (H : Hp) (E : XK), Room k (A.deeper (envOfC qual (Qad st) s.heap.objs.size f cdv))->PDSs (cxOf CX0 P w K mg base N qual (Qad st) f cdv A outer s H E).nox (Qat st) run) :
  FnOk P w K mg base CX0 (k + 1) f fd ps (SpD K ps.length (QaI ps.length N.length fz run)) := by
 refine Fun.ok F Sc (fun vs H Q E h => h.1) fun cdv A outer s H vs Q E hr hsp => ⟨_, hb cdv A outer s H E hr, ?_⟩
 obtain ⟨hl, ι, G, st0, ws, sr, t, q⟩ := hsp
 have hlw : ws.length = ps.length := by rw [<-t.length]; exact hl
 refine ⟨ι, G, st0, ws.map some ++ List.replicate (N.length - ws.length) none, Qlh t, sr, ?_⟩
 unfold QaI at q
 rw [if_pos hlw, <-hlw] at q
 cases e : run (ws.map some ++ List.replicate (N.length - ws.length) none) st0 with
 | stuck => rw [e] at q; exact q
 | ex c s => rw [e] at q; exact (show False from q).elim
 | ok fl st1 =>
  rw [e] at q
  intro ι1 G1 H1 x1 sr1
  cases fl with
  | nx Γ1 => exact fun σ1 en1 => Qmk (fz := fz) (w1 := .non) sr x1 sr1 .non q
  | rt w1 => exact fun v r1 => Qmk (fz := fz) sr x1 sr1 r1 q
  | bk Γ1 => exact (show False from q).elim
  | ct Γ1 => exact (show False from q).elim
end
end DL
namespace L2
open PySem PySem.Spec PyProof.Rows
section
variable {X : Cx}
variable {k : Nat} {f : Addr} {fd : FuncData} {pn : Str} {sp : Sp}
end
end L2
namespace DL
open PySem PySem.Spec PyProof.Rows L2
section
variable {X : Cx}
def rDict0 : Run := fun _ st => .ok (.dct [] []) st
theorem pd_dict0 {pos : Pos} : PD X (.Dict [] [] pos) rDict0 := by
 refine PE.imp QjA fun σ H Q h => ?_
 obtain ⟨ι, G, st, Γ, en, sr, q⟩ := h
 intro p hp
 obtain ⟨sr2, e2⟩ := sr.laid (o := dKo []) hp
 exact q _ ι _ _ e2 sr2 (.dct (xs := []) QaA rfl .nil)
def lexK (eq lt : W->W->Option Bool) : List W->List W->Option Bool
 | [], [] => some false
 | [], _ :: _ => some true
 | _ :: _, [] => some false
 | x :: xs, y :: ys => match eq x y with
  | some true => lexK eq lt xs ys
  | some false => lt x y
  | none => none
section
variable {K : PySem.W.Frag} {ι : Nat->Addr} {N : Nat} {G : Hp}
end
def QgC : Expr->Bool
 | .Starred _ _ => false
 | _ => true
end
end DL
namespace DL
open PySem PySem.Spec PyProof.Rows L2
def wpX (K : PySem.W.Frag) (ι : Nat->Addr) (N : Nat) (G : Hp) (r : R W) (Q : VK) (E : XK) : Prop := match r with
 | .ok w st' => ∀ v ι' G' H', Ext ι N G ι' st'.nxt G'->SR K ι' st' G' H'->RelW K ι' st'.nxt G' v w->Q v H'
 | .ex c st' => ∀ ι' G' H' cls, Ext ι N G ι' st'.nxt G'->SR K ι' st' G' H'->ClsR K c cls->E cls none H'
 | .stuck => False
def SpX (K : PySem.W.Frag) (n : Nat) (op : OpN) : Sp := fun vs H Q E => vs.length = n/\∃ ι G st ws, SR K ι st G H/\RelWs K ι st.nxt G vs ws/\wpX K ι st.nxt G (op ws st) Q E
section
variable {X : Cx}
end
end DL
namespace DL
open PySem PySem.Spec PyProof.Rows L2
section
variable {X : Cx}
end
end DL
namespace DL
open PySem PySem.Spec PyProof.Rows L2
section
variable {X : Cx}
def QgD : Expr->Bool
 | .Call _ [] [] _ => false
 | _ => true
theorem Qgb {o : Expr} {m : Str} {env : Env} {w : Sem Value} (h : QgD o = true) : attributeBase o m env w = w := by
 unfold attributeBase
 split
 ·exact absurd (show false = true from h) QnE
 ·rfl
theorem tyV_kind {ι : Nat->Addr} {G H : Hp} {st : S} {v : V} {w : W} {T : String} (sr : SR X.K ι st G H) (r : RelW X.K ι st.nxt G v w) (k : Qdd st w = some T) (hT : T = "str"\/T = "list"\/T = "dict") : tyV X.K T v H := by
 cases r with
 | non => cases k; exact absurd hT (by decide)
 | bl b => cases k; exact absurd hT (by decide)
 | int i => cases k; exact absurd hT (by decide)
 | str x => cases k; exact rfl
 | ty n => cases k
 | tup s c t => cases k; exact absurd hT (by decide)
 | lst s t => cases k; exact .inl ⟨rfl, _, sr.sub.seq s⟩
 | dct s l t => cases k; exact .inr (.inr (.inl ⟨rfl, .inr ⟨_, sr.sub _ _ s⟩⟩))
 | exn s n => cases k
 | @ref n hn =>
  have k : MO.kind (st.mu n) = some T := k
  cases e : st.mu n with
  | none => rw [e] at k; cases k
  | some o =>
   rw [e] at k
   obtain ⟨_, _, h3⟩ := sr.live n o e
   cases o with
   | lst zs => cases k; obtain ⟨vs, qv, _⟩ := h3; exact .inl ⟨rfl, vs, SqL.of qv⟩
   | dct ks zs => cases k; obtain ⟨xs, qv, _, _⟩ := h3; exact .inr (.inr (.inl ⟨rfl, .inr ⟨_, qv⟩⟩))
abbrev OpM := W->List W->S->R W
def rMt (X : Cx) (op : OpM) : V->List V->Hp->VK->Prop := fun x xs H Q => ∃ ι G st w ws, SR X.K ι st G H/\RelW X.K ι st.nxt G x w/\RelWs X.K ι st.nxt G xs ws/\wpW X ι st.nxt G (op w ws st) Q
def runM (T : String) (ro : Run) (rr : Runs) (op : OpM) : Run := fun Γ st => (ro Γ st).bind fun w st1 => if Qdd st1 w = some T then (rr Γ st1).bind fun ws st2 => op w ws st2 else .stuck
theorem Qlv {T : String} {ro : Run} {rr : Runs} {op : OpM} {σ : St} {H : Hp} {Q : VK} (hT : T = "str"\/T = "list"\/T = "dict") (h : tD X (runM T ro rr op) σ H Q) :
  tD X ro σ H fun x H1 => tyV X.K T x H1/\tDA X rr σ H1 fun xs H2 => rMt X op x xs H2 Q := by
 obtain ⟨ι, G, st, Γ, en, sr, q⟩ := h
 refine ⟨ι, G, st, Γ, en, sr, wpW.bind q fun w st1 v ι1 G1 H1 _ e1 sr1 r1 q1 => ?_⟩
 by_cases hk : Qdd st1 w = some T
 ·rw [if_pos hk] at q1
  refine ⟨tyV_kind sr1 r1 hk hT, ι1, G1, st1, Γ, en.mono e1, sr1, ?_⟩
  cases e2 : rr Γ st1 with
  | stuck => rw [e2] at q1; exact q1
  | ex c s => rw [e2] at q1; exact q1
  | ok ws st2 =>
   rw [e2] at q1
   intro vs ι2 G2 H2 x2 sr2 r2
   exact ⟨ι2, G2, st2, w, ws, sr2, r1.mono x2, r2, wpW.later x2 (show wpW X ι1 st1.nxt G1 (op w ws st2) Q from q1)⟩
 ·rw [if_neg hk] at q1; exact q1.elim
theorem pd_mt {o e : Expr} {es : List Expr} {m : Str} {apos cpos : Pos} {T id : String} {ro : Run} {rr : Runs} {op : OpM} (hT : T = "str"\/T = "list"\/T = "dict") (pa : PlainAttrs T) (slot : Slot T m id) (hty : typeOf (.builtin id) = pure (.type "method_descriptor")) (hm : MtR X id (rMt X op)) (ho : PD X o ro) (ha : PDA X (e :: es) rr) (hb : QgD o = true)
  (hfew : ((backTo cpos (starEach (e :: es) X.env)).all (fun x => !x.1) && (backToKw cpos (keywordEach [] X.env)).all (fun x => x.1.isSome)
   && decide ((e :: es).length + ([] : List Keyword).length + (if ([] : List Keyword).isEmpty then 0 else 1) < 30)) = true)
  (hline : (apos.endLine == cpos.line) = true) (hs : starEach (e :: es) X.env = (false, eval e X.env) :: starEach es X.env) (hplain : (backTo cpos (starEach es X.env)).any (·.1) = false) :
  PD X (.Call (.Attribute o m apos) (e :: es) [] cpos) (runM T ro rr op) :=
 PE.imp (pe_bm pa slot hty hm ho ha (Qgb hb) hfew hline hs hplain) fun _ _ _ h => Qlv hT h
theorem pd_mt0 {o : Expr} {m : Str} {apos cpos : Pos} {T id : String} {ro : Run} {op : OpM} (hT : T = "str"\/T = "list"\/T = "dict") (pa : PlainAttrs T) (slot : Slot T m id) (hty : typeOf (.builtin id) = pure (.type "method_descriptor")) (hm : MtR X id (rMt X op)) (ho : PD X o ro) (hb : QgD o = true) (hline : (apos.endLine == cpos.line) = true) :
  PD X (.Call (.Attribute o m apos) [] [] cpos) (runM T ro Qab op) := by
 refine PE.imp (pe_bm0 pa slot hty hm ho (Qgb hb) hline) fun σ H Q h => ?_
 obtain ⟨ι, G, st, Γ, en, sr, q⟩ := Qlv hT h
 refine ⟨ι, G, st, Γ, en, sr, wpW.mono q fun v H1 ⟨h1, ι1, G1, st1, Γ1, _, sr1, q1⟩ => ⟨h1, ?_⟩⟩
 exact q1 [] ι1 G1 H1 (Ext.refl _ _ _) sr1 .nil
def QaV : OpM := fun w ws st => match w, ws with
 | .ref n, [y] => (match st.mu n with
  | some (.lst xs) => if xs.length < sizeLine then .ok .non (st.put n (.lst (xs ++ [y]))) else .stuck
  | _ => .stuck)
 | _, _ => .stuck
theorem QlZ : MtR X "list.append" (rMt X QaV) := by
 intro pins s σ H x xs v us Q I rx rv ⟨ι, G, st, w, ws, sr, r, t, q⟩
 unfold QaV at q
 split at q
 ·rename_i n y
  cases t with
  | @cons x1 _ xs1 _ r1 t1 =>
   cases t1
   cases r with
   | ref hn =>
    have q : wpW X ι st.nxt G (match st.mu n with
     | some (.lst xs) => if xs.length < sizeLine then .ok .non (st.put n (.lst (xs ++ [y]))) else .stuck
     | _ => .stuck) Q := q
    cases e : st.mu n with
    | none => rw [e] at q; exact (show False from q).elim
    | some o =>
     cases o with
     | dct ks zs => rw [e] at q; exact (show False from q).elim
     | lst zs =>
      rw [e] at q
      have q : wpW X ι st.nxt G (if zs.length < sizeLine then .ok .non (st.put n (.lst (zs ++ [y]))) else .stuck) Q := q
      by_cases hl : zs.length < sizeLine
      ·rw [if_pos hl] at q
       obtain ⟨_, _, xs2, hH, t2⟩ := sr.live n _ e
       refine Qma pins s σ H _ _ v us Q I rx rv ⟨ι n, xs2, x1, rfl, rfl, hH, by rw [t2.length]; exact hl, ?_⟩
       exact q .non ι G _ (Ext.refl _ _ _) (sr.putL e (t2.append (.cons r1 .nil))) .non
      ·rw [if_neg hl] at q; exact q.elim
 ·exact (show False from q).elim
def Qer : List W->Option (List Str)
 | [] => some []
 | .str x :: ws => (Qer ws).map (x :: ·)
 | _ => none
theorem QeL {K : PySem.W.Frag} {ι : Nat->Addr} {N : Nat} {G : Hp} : ∀ {xs : List V} {ws : List W} {us : List Value} {ys : List Str}, RelWs K ι N G xs ws->Vals xs us->Qer ws = some ys->StrsAre us ys
 | _, _, _, _, .nil, .nil, h => by cases h; exact .nil
 | _, _, _, _, .cons r t, .cons rv tv, h => by
  rename_i x w xs ws u us
  cases w with
  | str z =>
   have h : (Qer ws).map (z :: ·) = some _ := h
   cases e : Qer ws with
   | none => rw [e] at h; cases h
   | some zs =>
    rw [e] at h
    cases h
    cases r
    have ih := QeL t tv e
    obtain ⟨tk, e2⟩ := (show ∃ t, u = Value.str z t from rv)
    cases e2
    exact .cons z tk ih
  | _ => cases h
def QeV : OpM := fun w ws st => match w, ws with
 | .str x, [l] => (match QaB st l with
  | some zs => (match Qer zs with
   | some ys => if x.length<=16/\(ys.map (·.length)).sum + ys.length<=1048576 then .ok (.str (PySem.Txt.join x ys)) st else .stuck
   | none => .stuck)
  | none => .stuck)
 | _, _ => .stuck
theorem mw_join : MtR X "str.join" (rMt X QeV) := by
 intro pins s σ H x xs v us Q I rx rv ⟨ι, G, st, w, ws, sr, r, t, q⟩
 unfold QeV at q
 split at q
 ·rename_i z l
  cases t with
  | @cons x1 _ xs1 _ r1 t1 =>
   cases t1
   cases r
   obtain ⟨tk, ev⟩ := (show ∃ t, v = Value.str z t from rx)
   subst ev
   obtain ⟨u1, eu, ru⟩ := rv.one
   subst eu
   have q : wpW X ι st.nxt G (match QaB st l with
    | some zs => (match Qer zs with
     | some ys => if z.length<=16/\(ys.map (·.length)).sum + ys.length<=1048576 then .ok (.str (PySem.Txt.join z ys)) st else .stuck
     | none => .stuck)
    | none => .stuck) Q := q
   cases e1 : QaB st l with
   | none => rw [e1] at q; exact (show False from q).elim
   | some zs =>
    rw [e1] at q
    have q : wpW X ι st.nxt G (match Qer zs with
     | some ys => if z.length<=16/\(ys.map (·.length)).sum + ys.length<=1048576 then .ok (.str (PySem.Txt.join z ys)) st else .stuck
     | none => .stuck) Q := q
    cases e2 : Qer zs with
    | none => rw [e2] at q; exact (show False from q).elim
    | some ys =>
     rw [e2] at q
     have q : wpW X ι st.nxt G (if z.length<=16/\(ys.map (·.length)).sum + ys.length<=1048576 then .ok (.str (PySem.Txt.join z ys)) st else .stuck) Q := q
     by_cases hl : z.length<=16/\(ys.map (·.length)).sum + ys.length<=1048576
     ·rw [if_pos hl] at q
      have fin : ∀ t' k, EP X pins σ Q (.str (PySem.Txt.join z ys) t') { s with toks := k } := fun t' k => ⟨.str _, H, I.tok _, ⟨t', rfl⟩, q _ ι G H (Ext.refl _ _ _) sr (.str _)⟩
      have lst : ∀ {a : Addr} {vs : List V}, x1 = .ref a->SqL X.K H a vs->RelWs X.K ι st.nxt G vs zs->wpAny (model X.prog X.w) X.A (call (.builtin "str.join") [.str z tk, u1]) (EP X pins σ Q) X.xe s := by
       intro a vs ex hq tt
       subst ex
       cases (show u1 = Value.ref a from ru)
       obtain ⟨its, tv, pl, _⟩ := I.list hq
       exact join_listW pl.isList (by simpa using QeL tt tv e2) hl.1 hl.2 fin
      cases r1 with
      | lst sq tt => cases e1; exact lst rfl (sr.sub.seq sq) tt
      | tup sq cq tt =>
       cases e1
       cases (show u1 = Value.ref _ from ru)
       obtain ⟨its, tv, pl, _⟩ := I.tuple (sqT_same sr.sub sq)
       exact join_tupleW pl (by simpa using QeL tt tv e2) hl.1 hl.2 fin
      | @ref n hn =>
       obtain ⟨vs, hq, tt⟩ := Qbv sr e1
       exact lst rfl hq tt
      | _ => cases e1
     ·rw [if_neg hl] at q; exact q.elim
 ·exact (show False from q).elim
structure Mth (X : Cx) (m : Str) (T id : String) (op : OpM) : Prop where
 hT : T = "str"\/T = "list"\/T = "dict"
 pa : PlainAttrs T
 slot : Slot T m id
 hty : typeOf (.builtin id) = pure (.type "method_descriptor")
 hm : MtR X id (rMt X op)
theorem mth_join : Mth X "join" "str" "str.join" QeV := ⟨.inl rfl, F.plainAttrs_str, F.slot_str_join, F.type_str_join, mw_join⟩
theorem Qkv : Mth X "append" "list" "list.append" QaV := ⟨.inr (.inl rfl), F.plainAttrs_list, F.slot_list_append, F.type_list_append, QlZ⟩
end
end DL
namespace DL
open PySem PySem.Spec PyProof.Rows L2
section
variable {X : Cx}
def Qcp (st : S) : W->Option (List W)
 | .lst xs => some xs
 | .ref n => MO.items (st.mu n)
 | _ => none
theorem QbN {ι : Nat->Addr} {G H : Hp} {st : S} {v : V} {w : W} {zs : List W} (sr : SR X.K ι st G H) (r : RelW X.K ι st.nxt G v w) (h : Qcp st w = some zs) : ∃ a xs, v = .ref a/\SqL X.K H a xs/\RelWs X.K ι st.nxt G xs zs := by
 cases r with
 | lst s t => cases h; exact ⟨_, _, rfl, sr.sub.seq s, t⟩
 | ref hn => obtain ⟨xs, h1, h2⟩ := Qbv sr h; exact ⟨_, xs, rfl, h1, h2⟩
 | _ => cases h
end
end DL
namespace DL
open PySem PySem.Spec PyProof.Rows L2
section
variable {X : Cx}
end
end DL
namespace DL
open PySem PySem.Spec PyProof.Rows L2
section
variable {X : Cx}
end
end DL
namespace DL
open PySem PySem.Spec PyProof.Rows L2
section
variable {X : Cx}
def keyW0 : W->Option Key
 | .int i => some (.inl i)
 | .str x => some (.inr x)
 | _ => none
def QhC : List W->Option (List Key)
 | [] => some []
 | w :: ws => (match keyW0 w, QhC ws with | some k, some ks => some (k :: ks) | _, _ => none)
def keyW : W->Option DKey
 | .tup ws => QhC ws
 | _ => none
def KIs (H : Hp) (v : V) (k : DKey) : Prop := ∃ b, v = .ref b/\H b = some (.tup (k.map kV))
theorem KIs.mono {H H' : Hp} {v : V} {k : DKey} (h : KIs H v k) (s : Same H H') : KIs H' v k := let ⟨b, e, q⟩ := h; ⟨b, e, s _ _ q⟩
theorem KIs.get {H : Hp} {a : Addr} {kvs : List (DKey × V)} {v : V} {k : DKey} (e : H a = some (dKo kvs)) (h : KIs H v k) : DGet H a v (valV kvs k) := by obtain ⟨b, rfl, q⟩ := h; exact DGet.t e q
theorem KIs.put {H : Hp} {a : Addr} {kvs : List (DKey × V)} {v y : V} {k : DKey} (e : H a = some (dKo kvs)) (hl : kvs.length < sizeLine) (h : KIs H v k) : DPut H a v y (upd H a (dKo (putK kvs k y))) := by obtain ⟨b, rfl, q⟩ := h; exact DPut.t e q hl
def valW : List DKey->List W->DKey->Option W
 | k :: ks, w :: ws, j => if k = j then some w else valW ks ws j
 | _, _, _ => none
def Qdt (st : S) : W->Option (List DKey × List W)
 | .dct ks ws => some (ks, ws)
 | .ref n => (match st.mu n with
  | some (.dct ks ws) => some (ks, ws)
  | _ => none)
 | _ => none
theorem QjK {K : PySem.W.Frag} {ι : Nat->Addr} {N : Nat} {G : Hp} : ∀ {vs : List V} {ws : List W} {ks : List Key}, RelWs K ι N G vs ws->QhC ws = some ks->vs = ks.map kV
 | _, _, _, .nil, h => by cases h; rfl
 | _, _, _, @RelWs.cons _ _ _ _ v w vs ws r t, h => by
  unfold QhC at h
  cases e1 : keyW0 w with
  | none => rw [e1] at h; cases h
  | some k =>
   cases e2 : QhC ws with
   | none => rw [e1, e2] at h; cases h
   | some r2 =>
    rw [e1, e2] at h
    cases h
    rw [List.map_cons, QjK t e2]
    congr 1
    cases r <;> first | (cases e1; rfl) | (cases e1; done)
theorem QdG {K : PySem.W.Frag} {ι : Nat->Addr} {N : Nat} {G : Hp} {v : V} {w : W} {k : DKey} (r : RelW K ι N G v w) (h : keyW w = some k) : KIs G v k := by
 cases r <;> first | (cases h; done) | skip
 rename_i a xs ws s c t
 exact ⟨a, rfl, by rw [<-QjK t h]; exact c rfl⟩
theorem valW_rel {K : PySem.W.Frag} {ι : Nat->Addr} {N : Nat} {G : Hp} {k : DKey} : ∀ {ks : List DKey} {xs : List V} {ws : List W}, RelWs K ι N G xs ws->xs.length = ks.length ->
  (valV (ks.zip xs) k = none/\valW ks ws k = none)\/∃ v w, valV (ks.zip xs) k = some v/\valW ks ws k = some w/\RelW K ι N G v w
 | [], _, _, _, _ => .inl ⟨rfl, by unfold valW; rfl⟩
 | j :: ks, [], _, _, h => by cases h
 | j :: ks, x :: xs, _, .cons r t, h => by
  by_cases e : j = k
  ·refine .inr ⟨x, _, ?_, ?_, r⟩
   ·exact Qev (p := (j, x)) e
   ·unfold valW; rw [if_pos e]
  ·have e1 : valV ((j :: ks).zip (x :: xs)) k = valV (ks.zip xs) k := Qew (p := (j, x)) e
   rcases valW_rel (k := k) t (by simpa using h) with ⟨h1, h2⟩ | ⟨v, w, h1, h2, h3⟩
   ·exact .inl ⟨e1.trans h1, by unfold valW; rw [if_neg e]; exact h2⟩
   ·exact .inr ⟨v, w, e1.trans h1, by unfold valW; rw [if_neg e]; exact h2, h3⟩
theorem QcP {ι : Nat->Addr} {G H : Hp} {st : S} {v : V} {w : W} {ks : List DKey} {ws : List W} (sr : SR X.K ι st G H) (r : RelW X.K ι st.nxt G v w) (h : Qdt st w = some (ks, ws)) : ∃ a xs, v = .ref a/\H a = some (dKo (ks.zip xs))/\xs.length = ks.length/\RelWs X.K ι st.nxt G xs ws := by
 cases r with
 | @dct a xs _ _ s l t => cases h; exact ⟨a, xs, rfl, sr.sub _ _ s, l, t⟩
 | @ref n hn =>
  have h : (match st.mu n with
   | some (.dct ks ws) => some (ks, ws)
   | _ => none) = some (ks, ws) := h
  cases e : st.mu n with
  | none => rw [e] at h; cases h
  | some o =>
   rw [e] at h
   cases o with
   | lst zs => cases h
   | dct ks' zs =>
    cases h
    obtain ⟨_, _, xs, h1, h2, h3⟩ := sr.live n _ e
    exact ⟨ι n, xs, rfl, h1, h2, h3⟩
 | _ => cases h
def QhK (st : S) (a b : W) : Option Bool := match keyW a, Qdt st b with
 | some k, some (ks, ws) => some (valW ks ws k).isSome
 | _, _ => none
theorem QhJ {ι : Nat->Addr} {G H : Hp} {st : S} {x y : V} {w1 w2 : W} {b : Bool} (sr : SR X.K ι st G H) (r1 : RelW X.K ι st.nxt G x w1) (r2 : RelW X.K ι st.nxt G y w2) (h : QhK st w1 w2 = some b) : ∃ a o, y = .ref a/\DGet H a x o/\o.isSome = b := by
 unfold QhK at h
 cases e1 : keyW w1 with
 | none => rw [e1] at h; cases h
 | some k =>
  cases e2 : Qdt st w2 with
  | none => rw [e1, e2] at h; cases h
  | some p =>
   obtain ⟨ks, ws⟩ := p
   rw [e1, e2] at h
   cases h
   obtain ⟨a, xs, rfl, hH, hl, t⟩ := QcP sr r2 e2
   refine ⟨a, _, rfl, ((QdG r1 e1).mono sr.sub).get hH, ?_⟩
   rcases valW_rel (k := k) t hl with ⟨h1, h2⟩ | ⟨v, w, h1, h2, _⟩
   ·rw [h1, h2]; rfl
   ·rw [h1, h2]; rfl
def opIn : Op2 := fun a b st => match QhK st a b with
 | some c => .ok (.bl c) st
 | none => opIn0 a b st
def Qdo : Op2 := fun a b st => match QhK st a b with
 | some c => .ok (.bl (!c)) st
 | none => QjD a b st
theorem opw_in (hu : X.A.units + 64 < cLine) : OpW X (compareOp .In) opIn := by
 intro pins s σ H ι G st x y w1 w2 v u Q I sr rx ry r1 r2 q
 unfold opIn at q
 cases e : QhK st w1 w2 with
 | none => rw [e] at q; exact opw_in0 hu pins s σ H ι G st x y w1 w2 v u Q I sr rx ry r1 r2 q
 | some c =>
  rw [e] at q
  obtain ⟨a, o, rfl, g, ho⟩ := QhJ sr r1 r2 e
  cases (show u = Value.ref a from ry)
  refine d_in (by omega) I g rx fun s' I' => ?_
  rw [ho]
  exact ⟨.bl c, H, I', rfl, q (.bl c) ι G H (Ext.refl _ _ _) sr (.bl c)⟩
theorem QlP (hu : X.A.units + 64 < cLine) : OpW X (compareOp .NotIn) Qdo := by
 intro pins s σ H ι G st x y w1 w2 v u Q I sr rx ry r1 r2 q
 unfold Qdo at q
 cases e : QhK st w1 w2 with
 | none => rw [e] at q; exact Qkr hu pins s σ H ι G st x y w1 w2 v u Q I sr rx ry r1 r2 q
 | some c =>
  rw [e] at q
  obtain ⟨a, o, rfl, g, ho⟩ := QhJ sr r1 r2 e
  cases (show u = Value.ref a from ry)
  refine d_notIn (by omega) I g rx fun s' I' => ?_
  rw [ho]
  exact ⟨.bl (!c), H, I', rfl, q (.bl (!c)) ι G H (Ext.refl _ _ _) sr (.bl (!c))⟩
def Qah : Op2 := fun a b st => match Qdt st a, keyW b with
 | some (ks, ws), some k => (match valW ks ws k with
  | some w => .ok w st
  | none => .stuck)
 | _, _ => QeW a b st
theorem pd_ixX {a b : Expr} {pos : Pos} {ra rb : Run} (hu : X.A.units + 1 < cLine) (ha : PD X a ra) (hb : PD X b rb) (hs : NoSl b) (hix : PD X (.Subscript a b pos) (run2 ra rb QeW)) : PD X (.Subscript a b pos) (run2 ra rb Qah) := by
 intro pins s σ H Q I h
 obtain ⟨ι, G, st, Γ, en, sr, q⟩ := h
 have ch : (∃ w1 st1 w2 st2 ks ws k, ra Γ st = .ok w1 st1/\rb Γ st1 = .ok w2 st2/\Qdt st2 w1 = some (ks, ws)/\keyW w2 = some k)\/run2 ra rb Qah Γ st = run2 ra rb QeW Γ st := by
  unfold run2
  cases e1 : ra Γ st with
  | stuck => exact .inr rfl
  | ex c s => exact .inr rfl
  | ok w1 st1 =>
   cases e2 : rb Γ st1 with
   | stuck => refine .inr ?_; show (rb Γ st1).bind _ = (rb Γ st1).bind _; rw [e2]; rfl
   | ex c s => refine .inr ?_; show (rb Γ st1).bind _ = (rb Γ st1).bind _; rw [e2]; rfl
   | ok w2 st2 =>
    cases e3 : Qdt st2 w1 with
    | none =>
     refine .inr ?_
     show (rb Γ st1).bind _ = (rb Γ st1).bind _
     rw [e2]
     show Qah w1 w2 st2 = QeW w1 w2 st2
     unfold Qah; rw [e3]
    | some p =>
     obtain ⟨ks, ws⟩ := p
     cases e4 : keyW w2 with
     | none =>
      refine .inr ?_
      show (rb Γ st1).bind _ = (rb Γ st1).bind _
      rw [e2]
      show Qah w1 w2 st2 = QeW w1 w2 st2
      unfold Qah; rw [e3, e4]
     | some k => exact .inl ⟨w1, st1, w2, st2, ks, ws, k, rfl, e2, e3, e4⟩
 rcases ch with ⟨w1, st1, w2, st2, ks, ws, k, e1, e2, e3, e4⟩ | ch
 ·refine pe_dget hu ha hb hs pins s σ H Q I ⟨ι, G, st, Γ, en, sr, wpW.bind q fun w1' st1' v1 ι1 G1 H1 e1' x1 sr1 r1 q1 => ⟨ι1, G1, st1', Γ, en.mono x1, sr1, wpW.bind q1 fun w2' st2' v2 ι2 G2 H2 e2' x2 sr2 r2 q2 => ?_⟩⟩
  rw [e1] at e1'; cases e1'
  rw [e2] at e2'; cases e2'
  obtain ⟨a, xs, rfl, hH, hl, t⟩ := QcP sr2 (r1.mono x2) e3
  unfold Qah at q2
  rw [e3, e4] at q2
  have q3 : wpW X ι2 st2.nxt G2 (match valW ks ws k with
   | some w => .ok w st2
   | none => .stuck) Q := q2
  rcases valW_rel (k := k) t hl with ⟨h1, h2⟩ | ⟨v, w, h1, h2, h3⟩
  ·rw [h2] at q3; exact (show False from q3).elim
  ·rw [h2] at q3
   refine ⟨a, v, rfl, ?_, q3 v ι2 G2 H2 (Ext.refl _ _ _) sr2 h3⟩
   rw [<-h1]
   exact ((QdG r2 e4).mono sr2.sub).get hH
 ·exact hix pins s σ H Q I ⟨ι, G, st, Γ, en, sr, by rw [<-ch]; exact q⟩
end
end DL
namespace DL
open PySem PySem.Spec PyProof.Rows L2
def KDs (_ : Program) (_ : World) (_ : PySem.W.Frag) (_ : Str->Option Value) (_ : Str) (_ : List DKey) (_ : List W) : Prop := True
end DL
namespace DL
open PySem PySem.Spec PyProof.Rows L2
section
variable {K : PySem.W.Frag} {ι : Nat->Addr} {st : S} {G H : Hp}
theorem Qmh {n : Nat} {o : MO} (h : SR K ι st G H) (e : st.mu n = some o) : H (ι n) ≠ none := by
 intro z
 obtain ⟨_, _, h3⟩ := h.live n o e
 cases o with
 | lst ws => obtain ⟨xs, q, _⟩ := h3; rw [z] at q; cases q
 | dct ks ws => obtain ⟨xs, q, _⟩ := h3; rw [z] at q; cases q
theorem MOR.upd {N : Nat} {a p : Addr} {o : MO} {u : HO} (m : MOR K ι N G H a o) (hne : a ≠ p) : MOR K ι N G (upd H p u) a o := by
 cases o with
 | lst ws => obtain ⟨xs, q, r⟩ := m; exact ⟨xs, by rw [Qan hne]; exact q, r⟩
 | dct ks ws => obtain ⟨xs, q, l, r⟩ := m; exact ⟨xs, by rw [Qan hne]; exact q, l, r⟩
theorem SR.grow {p : Addr} {u : HO} (h : SR K ι st G H) (hp : H p = none) : SR K ι st G (upd H p u) := by
 have hG : G p = none := h.sub.free hp
 refine ⟨fun b v e => by rw [Qan (Qar e hG)]; exact h.sub b v e, fun n o e => ?_, h.inj⟩
 obtain ⟨h1, h2, h3⟩ := h.live n o e
 exact ⟨h1, h2, h3.upd fun z => Qmh h e (by rw [z]; exact hp)⟩
theorem SR.newO {p : Addr} {u : HO} {o : MO} (h : SR K ι st G H) (hp : H p = none) (m : MOR K ι st.nxt G (upd H p u) p o) : ∃ ι', Ext ι st.nxt G ι' (st.nxt + 1) G/\SR K ι' (st.new o) G (upd H p u)/\ι' st.nxt = p :=
 (h.grow hp).adopt (h.sub.free hp) (fun m o e z => Qmh h e (by rw [z]; exact hp)) m
theorem SR.putO {n : Nat} {o o' : MO} {u : HO} (h : SR K ι st G H) (hn : st.mu n = some o) (m : MOR K ι st.nxt G (L2.upd H (ι n) u) (ι n) o') : SR K ι (st.put n o') G (L2.upd H (ι n) u) := by
 obtain ⟨h1, h2, _⟩ := h.live n o hn
 have old : ∀ a q, (st.put n o').mu a = some q->∃ q', st.mu a = some q' := fun a q e => by
  have e : (if a = n then some o' else st.mu a) = some q := e
  by_cases z : a = n
  ·exact ⟨o, by rw [z]; exact hn⟩
  ·rw [if_neg z] at e; exact ⟨q, e⟩
 refine ⟨fun b v e => by rw [Qan (Qar e h2)]; exact h.sub b v e, fun a q e => ?_, fun a b q q' e e' z => ?_⟩
 ·have e' : (if a = n then some o' else st.mu a) = some q := e
  by_cases ha : a = n
  ·subst ha
   rw [if_pos rfl] at e'
   cases e'
   exact ⟨h1, h2, m⟩
  ·rw [if_neg ha] at e'
   obtain ⟨g1, g2, g3⟩ := h.live a q e'
   exact ⟨g1, g2, g3.upd fun z => ha (h.inj a n q o e' hn z)⟩
 ·obtain ⟨q1, l1⟩ := old a q e
  obtain ⟨q2, l2⟩ := old b q' e'
  exact h.inj a b q1 q2 l1 l2 z
end
def Qlx (k : DKey) (v : W) : List DKey->List W->List W
 | j :: ks, w :: ws => (if j = k then v else w) :: Qlx k v ks ws
 | _, _ => []
def hasK (k : DKey) (ks : List DKey) : Bool := ks.any fun j => decide (j = k)
def putW (ks : List DKey) (ws : List W) (k : DKey) (v : W) : List DKey × List W := if hasK k ks = true then (ks, Qlx k v ks ws) else (ks ++ [k], ws ++ [v])
def QiK (k : DKey) (v : V) : List DKey->List V->List V
 | j :: ks, w :: ws => (if j = k then v else w) :: QiK k v ks ws
 | _, _ => []
theorem Qjy {K : PySem.W.Frag} {ι : Nat->Addr} {N : Nat} {G : Hp} {k : DKey} {v : V} {w : W} (r : RelW K ι N G v w) : ∀ {ks : List DKey} {xs : List V} {ws : List W}, RelWs K ι N G xs ws->xs.length = ks.length ->
  RelWs K ι N G (QiK k v ks xs) (Qlx k w ks ws)/\(QiK k v ks xs).length = ks.length/\(ks.zip xs).map (fun kv => if kv.1 = k then (kv.1, v) else kv) = ks.zip (QiK k v ks xs)
 | [], [], _, .nil, _ => ⟨.nil, rfl, rfl⟩
 | j :: ks, x :: xs, _, .cons r1 t, h => by
  obtain ⟨h1, h2, h3⟩ := Qjy (k := k) r t (by simpa using h)
  refine ⟨?_, ?_, ?_⟩
  ·by_cases e : j = k
   ·show RelWs K ι N G ((if j = k then v else x) :: _) ((if j = k then w else _) :: _)
    rw [if_pos e, if_pos e]; exact .cons r h1
   ·show RelWs K ι N G ((if j = k then v else x) :: _) ((if j = k then w else _) :: _)
    rw [if_neg e, if_neg e]; exact .cons r1 h1
  ·show (QiK k v ks xs).length + 1 = ks.length + 1
   rw [h2]
  ·show (if j = k then (j, v) else (j, x)) :: (ks.zip xs).map (fun kv => if kv.1 = k then (kv.1, v) else kv) = (j, if j = k then v else x) :: ks.zip (QiK k v ks xs)
   rw [h3]
   by_cases e : j = k <;> simp [e]
 | [], _ :: _, _, _, h => by cases h
 | _ :: _, [], _, _, h => by cases h
theorem Qnt {k : DKey} : ∀ {ks : List DKey} {xs : List V}, xs.length = ks.length->((ks.zip xs).any fun kv => decide (kv.1 = k)) = hasK k ks
 | [], _, _ => by simp [hasK]
 | j :: ks, [], h => by cases h
 | j :: ks, x :: xs, h => by
  have ih := Qnt (k := k) (ks := ks) (xs := xs) (by simpa using h)
  rw [List.zip_cons_cons, List.any_cons, ih]
  unfold hasK
  rw [List.any_cons]
theorem put_rel {K : PySem.W.Frag} {ι : Nat->Addr} {N : Nat} {G : Hp} {k : DKey} {v : V} {w : W} {ks : List DKey} {xs : List V} {ws : List W} (r : RelW K ι N G v w) (t : RelWs K ι N G xs ws) (h : xs.length = ks.length) :
  ∃ xs', putK (ks.zip xs) k v = (putW ks ws k w).1.zip xs'/\xs'.length = (putW ks ws k w).1.length/\RelWs K ι N G xs' (putW ks ws k w).2 := by
 unfold putK putW
 rw [Qnt h]
 by_cases hk : hasK k ks = true
 ·rw [if_pos hk, if_pos hk]
  obtain ⟨h1, h2, h3⟩ := Qjy (k := k) r t h
  exact ⟨QiK k v ks xs, h3, h2, h1⟩
 ·rw [if_neg hk, if_neg hk]
  refine ⟨xs ++ [v], ?_, by simp [h], t.append (.cons r .nil)⟩
  rw [List.zip_append h.symm]; rfl
section
variable {X : Cx}
def QfO : Run := fun _ st => .ok (.ref st.nxt) (st.new (.dct [] []))
theorem QlX {ι : Nat->Addr} {G H : Hp} {st : S} {ks : List DKey} {xs : List V} {ws : List W} {p : Addr} {Q : VK} (sr : SR X.K ι st G H) (t : RelWs X.K ι st.nxt G xs ws) (hl : xs.length = ks.length) (hp : H p = none) (q : wpW X ι st.nxt G (.ok (.ref st.nxt) (st.new (.dct ks ws))) Q) : Q (.ref p) (upd H p (dKo (ks.zip xs))) := by
 obtain ⟨ι', e2, s2, ep⟩ := sr.newO (o := .dct ks ws) (u := dKo (ks.zip xs)) hp ⟨xs, QaA, hl, t⟩
 have q' := q (.ref p) ι' G (upd H p (dKo (ks.zip xs))) e2 s2
 rw [<-ep] at q' ⊢
 exact q' (.ref (Nat.lt_succ_self _))
theorem pd_dictN {pos : Pos} : PD X (.Dict [] [] pos) QfO := by
 refine PE.imp QjA fun σ H Q h => ?_
 obtain ⟨ι, G, st, Γ, en, sr, q⟩ := h
 intro p hp
 exact QlX (ks := []) (xs := []) sr .nil rfl hp q
def Qgz : OpM := fun w ws st => match Qdt st w, ws with
 | some (ks, vs), [k] => (match keyW k with
  | some k => .ok ((valW ks vs k).getD .non) st
  | none => .stuck)
 | some (ks, vs), [k, d] => (match keyW k with
  | some k => .ok ((valW ks vs k).getD d) st
  | none => .stuck)
 | _, _ => .stuck
theorem mw_get (hu : X.A.units + 1 < cLine) : MtR X "dict.get" (rMt X Qgz) := by
 intro pins s σ H x xs v us Q I rx rv ⟨ι, G, st, w, ws, sr, r, t, q⟩
 unfold Qgz at q
 split at q
 ·rename_i ks vs k e
  obtain ⟨a, ys, rfl, hH, hl, t2⟩ := QcP sr r e
  cases (show v = Value.ref a from rx)
  obtain ⟨v1, rfl, r1⟩ := rel1 t
  obtain ⟨u1, rfl, ru⟩ := rv.one
  cases ek : keyW k with
  | none => rw [ek] at q; exact (show False from q).elim
  | some k' =>
   rw [ek] at q
   have q : wpW X ι st.nxt G (.ok ((valW ks vs k').getD .non) st) Q := q
   refine d_get1 hu I (((QdG r1 ek).mono sr.sub).get hH) ru fun w' s' I' rw' => ⟨_, H, I', rw', ?_⟩
   rcases valW_rel (k := k') t2 hl with ⟨h1, h2⟩ | ⟨v2, w2, h1, h2, h3⟩
   ·rw [h1]; rw [h2] at q; exact q _ ι G H (Ext.refl _ _ _) sr .non
   ·rw [h1]; rw [h2] at q; exact q _ ι G H (Ext.refl _ _ _) sr h3
 ·rename_i ks vs k d e
  obtain ⟨a, ys, rfl, hH, hl, t2⟩ := QcP sr r e
  cases (show v = Value.ref a from rx)
  obtain ⟨v1, v2, rfl, r1, r2⟩ := rel2 t
  cases rv with
  | cons ru rv =>
   cases rv with
   | cons ru2 rv =>
    cases rv
    cases ek : keyW k with
    | none => rw [ek] at q; exact (show False from q).elim
    | some k' =>
     rw [ek] at q
     have q : wpW X ι st.nxt G (.ok ((valW ks vs k').getD d) st) Q := q
     refine d_get2 hu I (((QdG r1 ek).mono sr.sub).get hH) ru ru2 fun w' s' I' rw' => ⟨_, H, I', rw', ?_⟩
     rcases valW_rel (k := k') t2 hl with ⟨h1, h2⟩ | ⟨v3, w3, h1, h2, h3⟩
     ·rw [h1]; rw [h2] at q; exact q _ ι G H (Ext.refl _ _ _) sr r2
     ·rw [h1]; rw [h2] at q; exact q _ ι G H (Ext.refl _ _ _) sr h3
 ·exact (show False from q).elim
theorem mth_get (hu : X.A.units + 1 < cLine) : Mth X "get" "dict" "dict.get" Qgz := ⟨.inr (.inr rfl), F.plainAttrs_dict, F.slot_dict_get, F.type_dict_get, mw_get hu⟩
def eqDct (_ : S) (_ _ : W) : Option Bool := none
def eqW (st : S) (a b : W) : Option Bool := match eqDct st a b with
 | some c => some c
 | none => (match eqD 12 a b with
  | some c => some c
  | none => (match frz 0 st.mu 12 a, frz 0 st.mu 12 b with
   | some a', some b' => eqD 12 a' b'
   | _, _ => none))
def opEq : Op2 := fun a b st => match eqW st a b with
 | some r => .ok (.bl r) st
 | none => .stuck
def opNe : Op2 := fun a b st => match eqW st a b with
 | some r => .ok (.bl (!r)) st
 | none => .stuck
theorem seen {K : PySem.W.Frag} {ι : Nat->Addr} {st : S} {G H : Hp} {v : V} {w w' : W} (sr : SR K ι st G H) (r : RelW K ι st.nxt G v w) (h : frz 0 st.mu 12 w = some w') : RelW K ι 0 H v w' :=
 QiW sr.sub (fun n o _ e => (sr.live n o e).2.2) 12 v w w' r h
theorem QmT {pins : List (Addr × Obj)} {σ : St} {H : Hp} {s : Shared} {ι : Nat->Addr} {G : Hp} {st : S} {x y : V} {w1 w2 : W} {v u : Value} {b : Bool} (I : Inv X pins σ H s) (hu : X.A.units + 64 < cLine) (sr : SR X.K ι st G H) (rx : RelV x v) (ry : RelV y u) (r1 : RelW X.K ι st.nxt G x w1) (r2 : RelW X.K ι st.nxt G y w2) (h : eqW st w1 w2 = some b) :
  (∀ (Q : Value->Shared->Prop) (E : Value->Shared->Prop), Q (.bool b) s->wpAny (model X.prog X.w) X.A (compareOp .Eq v u) Q E s)/\∀ (Q : Value->Shared->Prop) (E : Value->Shared->Prop), Q (.bool (!b)) s->wpAny (model X.prog X.w) X.A (compareOp .NotEq v u) Q E s := by
 unfold eqW at h
 cases e : eqDct st w1 w2 with
 | some c =>
  exact nomatch e
 | none =>
  rw [e] at h
  have h : (match eqD 12 w1 w2 with
   | some c => some c
   | none => (match frz 0 st.mu 12 w1, frz 0 st.mu 12 w2 with
    | some a', some b' => eqD 12 a' b'
    | _, _ => none)) = some b := h
  cases e2 : eqD 12 w1 w2 with
  | some c =>
   rw [e2] at h
   cases h
   have q := QhT I 12 (A := X.A) e2 (r1.mono sr.look) (r2.mono sr.look) rx ry (by omega)
   exact ⟨fun Q E h => q.2.1 _ _ E Q h, fun Q E h => q.2.2 _ _ E Q h⟩
  | none =>
   rw [e2] at h
   have h : (match frz 0 st.mu 12 w1, frz 0 st.mu 12 w2 with
    | some a', some b' => eqD 12 a' b'
    | _, _ => none) = some b := h
   split at h
   ·rename_i a' b' ea eb
    have q := QhT I 12 (A := X.A) h (seen sr r1 ea) (seen sr r2 eb) rx ry (by omega)
    exact ⟨fun Q E h => q.2.1 _ _ E Q h, fun Q E h => q.2.2 _ _ E Q h⟩
   ·cases h
theorem opw_eq (hu : X.A.units + 64 < cLine) : OpW X (compareOp .Eq) opEq := by
 intro pins s σ H ι G st x y w1 w2 v u Q I sr rx ry r1 r2 q
 unfold opEq at q
 cases e : eqW st w1 w2 with
 | none => rw [e] at q; exact (show False from q).elim
 | some b => rw [e] at q; exact (QmT I hu sr rx ry r1 r2 e).1 _ _ ⟨.bl b, H, I, rfl, q _ ι G H (Ext.refl _ _ _) sr (.bl _)⟩
theorem opw_ne (hu : X.A.units + 64 < cLine) : OpW X (compareOp .NotEq) opNe := by
 intro pins s σ H ι G st x y w1 w2 v u Q I sr rx ry r1 r2 q
 unfold opNe at q
 cases e : eqW st w1 w2 with
 | none => rw [e] at q; exact (show False from q).elim
 | some b => rw [e] at q; exact (QmT I hu sr rx ry r1 r2 e).2 _ _ ⟨.bl (!b), H, I, rfl, q _ ι G H (Ext.refl _ _ _) sr (.bl _)⟩
def Qhr (n : Nat) (i v : W) (st : S) : Option MO->Option DKey->R Unit
 | some (.dct ks vs), some k => if ks.length < sizeLine then .ok () (st.put n (.dct (putW ks vs k v).1 (putW ks vs k v).2)) else .stuck
 | _, _ => QeB (.ref n) i v st
def QbD : W->W->W->S->R Unit := fun o i v st => match o with
 | .ref n => Qhr n i v st (st.mu n) (keyW i)
 | _ => .stuck
def QcH (ro ri rv : Run) : RunS := fun Γ st => (rv Γ st).bind fun v st1 => (ro Γ st1).bind fun o st2 => (ri Γ st2).bind fun i st3 => (QbD o i v st3).bind fun _ st4 => .ok (.nx Γ) st4
theorem setIx_or (o i v : W) (st : S) : (∃ n ks vs k, o = .ref n/\st.mu n = some (.dct ks vs)/\keyW i = some k)\/QbD o i v st = QeB o i v st := by
 cases o with
 | ref n =>
  have e0 : QbD (.ref n) i v st = Qhr n i v st (st.mu n) (keyW i) := rfl
  cases em : st.mu n with
  | none => refine .inr ?_; rw [e0, em]; rfl
  | some q =>
   cases q with
   | lst xs => refine .inr ?_; rw [e0, em]; rfl
   | dct ks vs =>
    cases ek : keyW i with
    | none => refine .inr ?_; rw [e0, em, ek]; rfl
    | some k => exact .inl ⟨n, ks, vs, k, rfl, em, rfl⟩
 | _ => exact .inr rfl
theorem QlN {o i e : Expr} {pos tpos : Pos} {ro ri rv : Run} (hu : X.A.units + 1 < cLine) (ho : PD X o ro) (hi : PD X i ri) (he : PD X e rv) (hg : ∀ {t : TSet}, PSet X t->PG X (.Subscript o i tpos) (gSub (tD X ro) (tD X ri) t)) (hs : swapsWithSole [.Subscript o i tpos] e pos.line X.env = pure false) (hw : swappedStores [.Subscript o i tpos] e X.env = pure none) (hs' : swapsWith e (some (.Subscript o i tpos)) pos.line X.env = pure false) :
  PDS X (.Assign [.Subscript o i tpos] e pos) (QcH ro ri rv) := by
 intro pins s σ H D I h
 obtain ⟨ι, G, st, Γ, en, sr, q⟩ := h
 have ch : (∃ v st1 w st2 j st3 n ks vs k, rv Γ st = .ok v st1/\ro Γ st1 = .ok w st2/\ri Γ st2 = .ok j st3/\w = .ref n/\st3.mu n = some (.dct ks vs)/\keyW j = some k)\/QcH ro ri rv Γ st = QiJ ro ri rv Γ st := by
  unfold QcH QiJ
  cases e1 : rv Γ st with
  | stuck => exact .inr rfl
  | ex c s => exact .inr rfl
  | ok v st1 =>
   cases e2 : ro Γ st1 with
   | stuck => refine .inr ?_; show (ro Γ st1).bind _ = (ro Γ st1).bind _; rw [e2]; rfl
   | ex c s => refine .inr ?_; show (ro Γ st1).bind _ = (ro Γ st1).bind _; rw [e2]; rfl
   | ok w st2 =>
    cases e3 : ri Γ st2 with
    | stuck => refine .inr ?_; show (ro Γ st1).bind _ = (ro Γ st1).bind _; rw [e2]; show (ri Γ st2).bind _ = (ri Γ st2).bind _; rw [e3]; rfl
    | ex c s => refine .inr ?_; show (ro Γ st1).bind _ = (ro Γ st1).bind _; rw [e2]; show (ri Γ st2).bind _ = (ri Γ st2).bind _; rw [e3]; rfl
    | ok j st3 =>
     rcases setIx_or w j v st3 with ⟨n, ks, vs, k, h1, h2, h3⟩ | h
     ·exact .inl ⟨v, st1, w, st2, j, st3, n, ks, vs, k, rfl, e2, e3, h1, h2, h3⟩
     ·refine .inr ?_
      show (ro Γ st1).bind _ = (ro Γ st1).bind _
      rw [e2]
      show (ri Γ st2).bind _ = (ri Γ st2).bind _
      rw [e3]
      show (QbD w j v st3).bind _ = (QeB w j v st3).bind _
      rw [h]
 rcases ch with ⟨v, st1, w, st2, j, st3, n, ks, vs, k, e1, e2, e3, rfl, em, ek⟩ | ch
 ·have q' : wpF X ι st.nxt G ((QbD (.ref n) j v st3).bind fun _ st4 => .ok (.nx Γ) st4) D := by
   have q := q
   unfold QcH at q
   rw [e1] at q
   have q : wpF X ι st.nxt G ((ro Γ st1).bind fun o st2 => (ri Γ st2).bind fun i st3 => (QbD o i v st3).bind fun _ st4 => .ok (.nx Γ) st4) D := q
   rw [e2] at q
   have q : wpF X ι st.nxt G ((ri Γ st2).bind fun i st3 => (QbD (.ref n) i v st3).bind fun _ st4 => .ok (.nx Γ) st4) D := q
   rw [e3] at q
   exact q
  have e0 : QbD (.ref n) j v st3 = Qhr n j v st3 (st3.mu n) (keyW j) := rfl
  rw [e0, em, ek] at q'
  by_cases hz : ks.length < sizeLine
  ·have q2 : wpF X ι st.nxt G (.ok (.nx Γ) (st3.put n (.dct (putW ks vs k v).1 (putW ks vs k v).2))) D := by
    have q' : wpF X ι st.nxt G ((if ks.length < sizeLine then .ok () (st3.put n (.dct (putW ks vs k v).1 (putW ks vs k v).2)) else .stuck : R Unit).bind fun _ st4 => .ok (.nx Γ) st4) D := q'
    rw [if_pos hz] at q'
    exact q'
   refine ps_dput hu ho hi he hs' pins s σ H D I ⟨ι, G, st, Γ, en, sr, ?_⟩
   rw [e1]
   intro vv ι1 G1 H1 x1 sr1 r1
   refine ⟨ι1, G1, st1, Γ, en.mono x1, sr1, ?_⟩
   rw [e2]
   intro vo ι2 G2 H2 x2 sr2 r2
   refine ⟨ι2, G2, st2, Γ, (en.mono x1).mono x2, sr2, ?_⟩
   rw [e3]
   intro vj ι3 G3 H3 x3 sr3 r3
   have ro' := r2.mono x3
   cases ro'
   obtain ⟨_, _, ys, hH, hl, t2⟩ := sr3.live n _ em
   have lz : (ks.zip ys).length = ks.length := by rw [List.length_zip, hl, Nat.min_self]
   obtain ⟨ys', e4, l2, t3⟩ := put_rel (k := k) ((r1.mono x2).mono x3) t2 hl
   refine ⟨ι3 n, upd H3 (ι3 n) (dKo (putK (ks.zip ys) k vv)), rfl, KIs.put hH (by rw [lz]; exact hz) ((QdG r3 ek).mono sr3.sub), ?_⟩
   have m : MOR X.K ι3 st3.nxt G3 (upd H3 (ι3 n) (dKo (putK (ks.zip ys) k vv))) (ι3 n) (.dct (putW ks vs k v).1 (putW ks vs k v).2) := ⟨ys', by rw [QaA, e4], l2, t3⟩
   exact q2 ι3 G3 _ ((x1.trans x2).trans x3) (sr3.putO em m) σ (((en.mono x1).mono x2).mono x3)
  ·have q' : wpF X ι st.nxt G ((if ks.length < sizeLine then .ok () (st3.put n (.dct (putW ks vs k v).1 (putW ks vs k v).2)) else .stuck : R Unit).bind fun _ st4 => .ok (.nx Γ) st4) D := q'
   rw [if_neg hz] at q'
   exact (show False from q').elim
 ·exact Qkn ho hi he hg hs hw pins s σ H D I ⟨ι, G, st, Γ, en, sr, by rw [<-ch]; exact q⟩
end
end DL
namespace L2
open PySem PySem.Spec PyProof.Rows
section
variable {X : Cx} {tg : Expr}
end
end L2
namespace DL
open PySem PySem.Spec PyProof.Rows L2
section
variable {X : Cx}
def Qet : List W->Option (List Int)
 | [] => some []
 | w :: ws => (match w with
  | .int i => (Qet ws).map (i :: ·)
  | _ => none)
theorem QhI : ∀ {ws : List W} {is : List Int}, Qet ws = some is->ws = is.map W.int
 | [], is, h => by cases h; rfl
 | w :: ws, is, h => by
  cases w with
  | int i =>
   have h : (Qet ws).map (i :: ·) = some is := h
   cases e : Qet ws with
   | none => rw [e] at h; cases h
   | some js => rw [e] at h; cases h; rw [List.map_cons, <-QhI e]
  | _ => cases h
def Qdc (i j : Nat) (body : RunS) : List (W × W)->Ga->S->R Fl
 | [], Γ, st => .ok (.nx Γ) st
 | x :: xs, Γ, st => (body ((Γ.set i (some x.1)).set j (some x.2)) st).bind fun fl st' => match fl with
  | .nx Γ' => Qdc i j body xs Γ' st'
  | .ct Γ' => Qdc i j body xs Γ' st'
  | .bk Γ' => .ok (.nx Γ') st'
  | .rt w => .ok (.rt w) st'
end
end DL
namespace DL
open PySem PySem.Spec PyProof.Rows L2
section
variable {X : Cx}
def Qkt : OpN := fun ws st => match ws with
 | [.str x] => .ok (.str x) st
 | [.int i] => if i.natAbs.log2 < 1920 then .ok (.str (toString i)) st else .stuck
 | _ => .stuck
theorem cw_str : Qdf X (.type "str") Qkt := by
 intro pins s σ H ι G st xs ws us Q I sr rv t q
 unfold Qkt at q
 split at q
 ·rename_i x
  obtain ⟨v, rfl, r⟩ := rel1 t
  obtain ⟨u, rfl, ru⟩ := rv.one
  cases r
  obtain ⟨tk, rfl⟩ := (show ∃ t, u = Value.str x t from ru)
  exact PySem.P.str_of_str ⟨.str x, H, I, ⟨tk, rfl⟩, q _ ι G H (Ext.refl _ _ _) sr (.str x)⟩
 ·rename_i i
  obtain ⟨v, rfl, r⟩ := rel1 t
  obtain ⟨u, rfl, ru⟩ := rv.one
  cases r
  obtain ⟨tk, rfl⟩ := (show ∃ t, u = Value.int i t from ru)
  by_cases hl : i.natAbs.log2 < 1920
  ·rw [if_pos hl] at q
   exact PySem.P.str_of_int hl ⟨.str (toString i), H, I.tok _, ⟨_, rfl⟩, q _ ι G H (Ext.refl _ _ _) sr (.str _)⟩
  ·rw [if_neg hl] at q; exact (show False from q).elim
 ·exact (show False from q).elim
def Qcy (x : W) : List W->Option Nat
 | [] => none
 | w :: ws => (match eqD 12 w x with
  | some true => some 0
  | some false => (Qcy x ws).map (· + 1)
  | none => none)
theorem QhR {x : W} : ∀ {ws : List W} {j : Nat}, Qcy x ws = some j->(∃ w, ws[j]? = some w/\eqD 12 w x = some true)/\∀ m, m < j->∃ w, ws[m]? = some w/\eqD 12 w x = some false
 | [], _, h => by cases h
 | w :: ws, j, h => by
  unfold Qcy at h
  cases e : eqD 12 w x with
  | none => rw [e] at h; cases h
  | some b =>
   rw [e] at h
   cases b with
   | true => cases h; exact ⟨⟨w, rfl, e⟩, fun m hm => absurd hm (Nat.not_lt_zero _)⟩
   | false =>
    have h : (Qcy x ws).map (· + 1) = some j := h
    cases e2 : Qcy x ws with
    | none => rw [e2] at h; cases h
    | some k =>
     rw [e2] at h
     cases h
     obtain ⟨h1, h2⟩ := QhR e2
     refine ⟨h1, fun m hm => ?_⟩
     cases m with
     | zero => exact ⟨w, rfl, e⟩
     | succ m => exact h2 m (Nat.lt_of_succ_lt_succ hm)
def QbH : OpM := fun w ws st => match ws with
 | [y] => (match Qcp st w with
  | some zs => if (inD y zs).isSome = true then (match Qcy y zs with
   | some j => .ok (.int (j : Nat)) st
   | none => .stuck) else .stuck
  | none => .stuck)
 | _ => .stuck
theorem QlY (hu : X.A.units + 64 < cLine) : MtR X "list.index" (rMt X QbH) := by
 intro pins s σ H x xs v us Q I rx rv ⟨ι, G, st, w, ws, sr, r, t, q⟩
 unfold QbH at q
 split at q
 ·rename_i y
  cases e : Qcp st w with
  | none => rw [e] at q; exact (show False from q).elim
  | some zs =>
   rw [e] at q
   have q : wpW X ι st.nxt G (if (inD y zs).isSome = true then (match Qcy y zs with
    | some j => .ok (.int (j : Nat)) st
    | none => .stuck) else .stuck) Q := q
   cases e2 : inD y zs with
   | none => rw [e2] at q; exact (show False from q).elim
   | some b =>
    rw [e2, if_pos (show (some b).isSome = true from rfl)] at q
    cases e3 : Qcy y zs with
    | none => rw [e3] at q; exact (show False from q).elim
    | some j =>
     rw [e3] at q
     obtain ⟨a, vs, rfl, hq, tt⟩ := QbN sr r e
     obtain ⟨vy, rfl, ry⟩ := rel1 t
     cases (show v = Value.ref a from rx)
     obtain ⟨u, rfl, ru⟩ := rv.one
     obtain ⟨its, tv, ⟨⟨oc, od, odt, osl⟩, n, ho, hc, hd, hs⟩, hz⟩ := I.list hq
     dsimp only at hc hd hs
     subst hc hd hs
     obtain ⟨f, f1, _, f3⟩ := QiS (A := X.A.in1) I (ry.mono sr.look) ru (by show X.A.units + 1 + 12 < cLine; omega) e2 (tt.mono sr.look) tv
     obtain ⟨⟨wj, hj, ej⟩, hm⟩ := QhR e3
     have at_ : ∀ m c wm, zs[m]? = some wm->eqD 12 wm y = some c->∃ h : m < its.length, f its[m] = c := fun m c wm hw hc => by
      obtain ⟨vm, hv, _⟩ := tt.get hw
      obtain ⟨um, hum, _⟩ := tv.get hv
      obtain ⟨hl, eum⟩ := List.getElem?_eq_some_iff.mp hum
      have g := f3 m vm um wm hv hum hw
      rw [hc] at g
      refine ⟨hl, ?_⟩
      rw [eum]; exact (Option.some.inj g).symm
     obtain ⟨h1, h2⟩ := at_ j true wj hj ej
     have h3 : ∀ m (hm' : m < its.length), m < j->f its[m] = false := fun m hm' hlt => by
      obtain ⟨wm, g1, g2⟩ := hm m hlt
      exact (at_ m false wm g1 g2).2
     have hl : its.length<=sizeLine := by rw [<-tv.length]; exact hz
     have hb : (sizeLine : Nat) < 2 ^ 62 := by decide
     refine call_meets F.slot_list_index ⟨_, ho, rfl⟩ F.entry_list_index (F.args_list_index_2 _ _) (SeqAt.list_indexAt a its.toArray n none osl u f j (by simpa using h1) (by omega) (by simpa using h2) (fun m hm hlt => by simpa using h3 m (by simpa using hm) hlt)) ⟨ho, fun w' hw => f1 w' (by simpa using hw), ?_⟩
     exact ⟨.int _, H, I.tok _, ⟨_, rfl⟩, q _ ι G H (Ext.refl _ _ _) sr (.int _)⟩
 ·exact (show False from q).elim
theorem Qku (hu : X.A.units + 64 < cLine) : Mth X "index" "list" "list.index" QbH := ⟨.inr (.inl rfl), F.plainAttrs_list, F.slot_list_index, F.type_list_index, QlY hu⟩
theorem QjV {K : PySem.W.Frag} {ι : Nat->Addr} {N : Nat} {G : Hp} {σ : St} {Γ : Ga} {v v2 : V} {w w2 : W} (cap : List Nat) (en : EnvR K ι N G σ Γ) (r : RelW K ι N G v w) (r2 : RelW K ι N G v2 w2) : EnvR K ι N G (QcQ cap σ (some v) (some v2)) (some w :: some w2 :: capG cap Γ) := by
 have e2 := Qnk cap en r2
 refine ⟨by unfold QcQ capG; simp, fun i u h => ?_⟩
 cases i with
 | zero =>
  have h' : some (some w) = some (some u) := by simpa using h
  cases h'
  exact ⟨v, by unfold QcQ; simp, r⟩
 | succ i =>
  obtain ⟨z, h1, h2⟩ := e2.get i u (by simpa using h)
  exact ⟨z, by unfold QcQ; unfold capS at h1; simpa using h1, h2⟩
theorem yes_of {σ : St} {H : Hp} {Q : Bool->Hp->Prop} (h : Q true H) : tYes σ H Q := h
end
end DL
namespace L2
open PySem PySem.Spec PyProof.Rows
section
variable {X : Cx} {k : Nat} {f : Addr} {fd : FuncData} {pn : Str} {sp : Sp}
theorem Qee {pins : List (Addr × Obj)} {σ : St} {H : Hp} {s : Shared} (J : Inv X pins σ H s) : ∀ {ys : List V} {ks : List Value}, Vals ys ks->(∀ y ∈ ys, ∃ p z t, y = .ref p/\SqT X.K H p (z :: t)) ->
  ∃ zs fs : List _, zs.length = ys.length/\Vals zs fs/\PySem.W.KatTups s.heap ks fs/\∀ (i : Nat) (y : V) (z : V), ys[i]? = some y->zs[i]? = some z->∃ p t, y = .ref p/\SqT X.K H p (z :: t)
 | _, _, .nil, _ => ⟨[], [], rfl, .nil, .nil, fun i y z h => by simp at h⟩
 | _, _, @Paired.cons _ _ _ y u ys us r rr, h => by
  obtain ⟨p, z, t, rfl, sq⟩ := h y QnI
  obtain ⟨zs, fs, h1, h2, h3, h4⟩ := Qee J rr fun y hy => h y (QnN _ hy)
  cases (show u = Value.ref p from r)
  obtain ⟨its, v, q, _⟩ := J.tuple sq
  obtain ⟨o, ho, hc, n, hd⟩ := q
  cases v with
  | @cons _ u0 _ us0 rz rt =>
   refine ⟨z :: zs, u0 :: fs, by rw [QnU, QnU, h1], .cons rz h2, .cons ho hc hd (by simp) h3, fun i y' z' hy hz => ?_⟩
   cases i with
   | zero => simp at hy hz; subst hy hz; exact ⟨p, t, rfl, sq⟩
   | succ i => exact h4 i y' z' (by simpa using hy) (by simpa using hz)
theorem Qho {M : Model} {h : Heap} : ∀ {zs : List V} {fs : List Value}, Vals zs fs->(∀ z ∈ zs, ∃ a, z = .str a)->∀ v ∈ fs, PySem.W.Looks M h (typeOf v) (.type "str")
 | _, _, .nil, _, v, hv => by simp at hv
 | _, _, @Paired.cons _ _ _ z u zs us r rr, h, v, hv => by
  rcases List.mem_cons.mp hv with rfl | hv
  ·obtain ⟨a, rfl⟩ := h z QnI
   obtain ⟨t, rfl⟩ := r
   exact PySem.W.Looks.of_pure rfl
  ·exact Qho rr (fun z hz => h z (QnN _ hz)) v hv
theorem QeK {xs : List V} {us : List Value} (r : Vals xs us) : ∀ (is : List Nat), (∀ i ∈ is, i < xs.length)->Vals (is.map fun i => xs.getD i .non) (is.map fun i => us.getD i Value.none)
 | [], _ => .nil
 | i :: is, h => by
  have hi := h i QnI
  obtain ⟨u, hu, ru⟩ := r.get (QnF hi)
  refine .cons ?_ (QeK r is fun j hj => h j (QnN _ hj))
  show RelV (xs.getD i .non) (us.getD i Value.none)
  rw [QnQ, QnQ, hu, QnF hi]
  exact ru
end
end L2
namespace L2
open PySem PySem.Spec PyProof.Rows PySem.W PySem.Calls
section
variable {prog : Program} {w : World} {A : Around} {E : Value->Shared->Prop} {s : Shared} {h₀ : Heap} {L a kS : Addr} {m : Str->Option Value} {news : List (Addr × Obj)} {vs ks : List Value}
theorem sk_end {e e1 : Nat} {P : PySem.Fin->Shared->Prop} (hl : ks.length = vs.length) (h2 : vs.length < 2) (h : KatFin h₀ L m kS a ks e e1 vs (fun z => P (.done (.ret .none)) z) s) :
  wpAny (model prog w) A (ksk_end a false vs.toArray e1 (.ref kS) (List.toArray ks)) P E s := by
 have few : vs.toArray.size < 2 := by simpa using h2
 unfold ksk_end
 (try dsimp only)
 rw [if_neg QnE, if_pos few, if_pos few]
 refine wpAny_bind (wpAny_pure ?_)
 rw [if_neg QnE]
 refine wpAny_bind (wpAny_pure ?_)
 refine kat_tail (b := false) (out := vs) ?_ (by omega) (by omega) rfl h
 show ((List.toArray ks).zip vs.toArray).map (·.2) = _
 apply Array.toList_inj.mp
 rw [Array.toList_map]
 show List.map Prod.snd ((List.toArray ks).zip vs.toArray).toList = vs
 rw [Array.toList_zip]
 exact List.map_snd_zip (by simp [hl])
theorem sk_rest {f : Value} {e1 : Nat} {P : PySem.Fin->Shared->Prop} (g : s.heap.get? kS = some (seqObj "list" #[] 0)) (h2 : vs.length < 2)
  (h : KatKeys prog w A h₀ L m kS f (fun ks e z => KatFin h₀ L m kS a ks e e1 vs (fun z' => P (.done (.ret .none)) z') z) vs [] 0 s) :
  wpAny (model prog w) A (ksk_rest a f false vs.toArray e1 (.ref kS)) P E s := by
 unfold ksk_rest
 refine wpAny_bind (wpAny_rule ?_)
 rw [List.forIn_toArray]
 have h64 : vs.length < 64 := by omega
 refine wpAny_bind (wpAny_mono (kat_fold h64 (fun v xs c z C few hv => ?_) vs [] 0 s (by simp) g h) (fun _ z hz => ?_) fun _ _ i => i)
 ·refine wpAny_bind (wpAny_attempt (wpAny_mono hv (fun y z' hy => ?_) fun _ _ no => no.elim))
  obtain ⟨n2, G, Fy, Ny, Uy, cy⟩ := hy
  obtain ⟨b4, af, q1, q2, q3, q4⟩ := Uy.split
  rw [q1] at Ny
  have mine := Ny (kS, seqObj "list" (List.toArray xs) c) (QnH _ (.head _))
  have sb := Heap.SameBut.update z'.heap kS (Obj.mapSeq (·.push y))
  have pu : (List.toArray xs).push y = List.toArray (xs ++ [y]) := List.push_toArray xs y
  obtain ⟨d, hd⟩ : ∃ d, (z'.heap.update kS (Obj.mapSeq (·.push y))).get? kS = some (seqObj "list" (List.toArray (xs ++ [y])) d) := by
   rw [<-pu]; exact ⟨_, get?_update_seq mine.1 fun t => t.push y⟩
  (try dsimp only)
  refine wpAny_bind (listUpdate_at mine.1 rfl ?_ (by rw [sizeLine_eq]; simp; omega) (by rw [sizeLine_eq]; simp; omega))
  refine wpAny_pure ⟨rfl, y, d, hd, cy _ d (kas_fr Fy sb mine.2.1 mine.2.2) ?_⟩
  rw [q2]
  exact news_set Ny q3 q4 sb hd
 ·obtain ⟨xs, c, g', len, fin⟩ := hz
  (try dsimp only)
  exact wpAny_bind (listItems_at g' rfl (sk_end len h2 fin))
theorem sk_tree {f : Value} {n : Nat} {P : PySem.Fin->Shared->Prop} (F : Fr h₀ L s.heap m) (N : News h₀ L s.heap news) (g : s.heap.get? a = some (seqObj "list" vs.toArray n)) (nL : a ≠ L) (n0 : h₀.get? a = none) (nn : ∀ p ∈ news, p.1 ≠ a) (h2 : vs.length < 2)
  (h : ∀ kS e1 h', Fr h₀ L h' m->News h₀ L h' ((kS, seqObj "list" #[] 0) :: (a, seqObj "list" #[] e1) :: news)->a < kS ->
   KatKeys prog w A h₀ L m kS f (fun ks e z => KatFin h₀ L m kS a ks e e1 vs (fun z' => P (.done (.ret .none)) z') z) vs [] 0 { s with heap := h' }) :
  wpAny (model prog w) A (ksk_tree a f false) P E s := by
 have lt := QnJ g
 have sb := Heap.SameBut.update s.heap a (Obj.mapSeq fun _ => (#[] : Array Value))
 obtain ⟨d, hd⟩ : ∃ d, (s.heap.update a (Obj.mapSeq fun _ => (#[] : Array Value))).get? a = some (seqObj "list" #[] d) := ⟨_, get?_update_seq g fun _ => #[]⟩
 have Fa := kas_fr F sb nL n0
 have Na := kas_news N sb nn
 have z : ((s.heap.update a (Obj.mapSeq fun _ => (#[] : Array Value))).push (seqObj "tuple" vs.toArray 0)).objs.size = s.heap.objs.size + 1 := by rw [size_push', Heap.size_update]
 have lL := (Fa.push (seqObj "tuple" vs.toArray 0)).ns.lt
 have small : vs.length<=sizeLine := by rw [sizeLine_eq]; omega
 unfold ksk_tree
 refine wpAny_bind (listItems_at g rfl (wpAny_bind (listUpdate_at g rfl ?_ (by simpa using small) (Nat.zero_le _))))
 refine wpAny_bind (seqEpoch_at hd rfl (wpAny_bind (wpAny_newTuple (wpAny_bind (wpAny_newList (wpAny_holding ?_) (Nat.zero_le _))) (by simpa using small))))
 refine sk_rest (h₀ := h₀) (L := L) (m := m) (kS := ((s.heap.update a (Obj.mapSeq fun _ => (#[] : Array Value))).push (seqObj "tuple" vs.toArray 0)).objs.size) (s := { s with heap := ((s.heap.update a (Obj.mapSeq fun _ => (#[] : Array Value))).push (seqObj "tuple" vs.toArray 0)).push (seqObj "list" #[] 0) }) (QnR _ rfl) h2 ?_
 refine h _ d _ ((Fa.push _).push _) (fun p hp => ?_) (by rw [z]; exact Nat.lt_succ_of_lt lt)
 have up : ∀ {b : Addr} {o : Obj}, (s.heap.update a (Obj.mapSeq fun _ => (#[] : Array Value))).get? b = some o->(((s.heap.update a (Obj.mapSeq fun _ => (#[] : Array Value))).push (seqObj "tuple" vs.toArray 0)).push (seqObj "list" #[] 0)).get? b = some o := fun q => QnG _ (QnG _ q)
 rcases List.mem_cons.mp hp with e | hp
 ·rw [e]; exact ⟨QnR _ rfl, Nat.ne_of_gt lL, Heap.get?_none_of_le (QnV F.above (Nat.le_of_lt lL))⟩
 ·rcases List.mem_cons.mp hp with e | hp
  ·rw [e]; exact ⟨up hd, nL, n0⟩
  ·exact ⟨up (Na p hp).1, (Na p hp).2⟩
theorem sk_lay {l : Addr} {Q : Value->Shared->Prop} {kw : List (Str × Value)} (hl : s.heap.IsList l vs.toArray) (h64 : vs.length < 64) (ha : argsOk "sorted" ⟨[.ref l], kw⟩) (hb : ∀ x, argsOk "list.sort" ⟨[.ref x], kw⟩)
  (h : ∀ h', h'.get? (s.heap.objs.size + 1) = some (seqObj "list" vs.toArray 0)->(∀ b o, s.heap.get? b = some o->h'.get? b = some o) ->
   wpAny (model prog w) A.in1.in1 (Builtin.«list.sort» ⟨[.ref (s.heap.objs.size + 1)], kw⟩) (fun fn z => fn = .done (.ret .none)/\Q (.ref (s.heap.objs.size + 1)) z) (fun _ _ => False) { s with heap := h' }) :
  wpAny (model prog w) A (call (.builtin "sorted") [.ref l] kw) Q E s := by
 refine call_function_entry_kw kind_sorted plain_sorted entry_sorted ha ?_
 unfold Builtin.«sorted»
 have small : vs.length<=sizeLine := by rw [sizeLine_eq]; omega
 refine wpAny_bind (m := checkCount "sorted" 1 1 _) (wpAny_pure (wpAny_bind (collect_list hl ?_ small)))
 refine wpAny_bind (wpAny_newList ?_ small)
 have z : ((s.heap.push (seqObj "list" #[] 0)).update s.heap.objs.size (Obj.mapSeq (· ++ vs.toArray))).objs.size = s.heap.objs.size + 1 := by rw [Heap.size_update, size_push']
 have mine : (((s.heap.push (seqObj "list" #[] 0)).update s.heap.objs.size (Obj.mapSeq (· ++ vs.toArray))).push (seqObj "list" vs.toArray 0)).get? (s.heap.objs.size + 1) = some (seqObj "list" vs.toArray 0) := by
  rw [<-z]; exact QnR _ rfl
 have kp : ∀ b o, s.heap.get? b = some o->(((s.heap.push (seqObj "list" #[] 0)).update s.heap.objs.size (Obj.mapSeq (· ++ vs.toArray))).push (seqObj "list" vs.toArray 0)).get? b = some o := fun b o q => by
  have lt := QnJ q
  exact QnG _ ((Heap.get?_update_ne _ _ _ _ (QnS lt)).trans (QnG _ q))
 have k := h _ mine kp
 show wpAny _ _ _ _ _ { s with heap := ((s.heap.push (seqObj "list" #[] 0)).update s.heap.objs.size (Obj.mapSeq (· ++ vs.toArray))).push (seqObj "list" vs.toArray 0) }
 rw [z]
 refine wpAny_bind (wpAny_holding (wpAny_call_entry_kw slot_list_sort ⟨_, mine, rfl⟩ entry_list_sort ?_ (hb _)))
 refine wpAny_mono k (fun fn s' hq => ?_) fun _ _ no => no.elim
 obtain ⟨rfl, hq⟩ := hq
 exact ⟨_, rfl, wpAny_pure ⟨_, rfl, hq⟩⟩
theorem KatKeys.imp {f : Value} {G G' : List Value->Nat->Shared->Prop} {r : List Value} {e : Nat} (h : KatKeys prog w A h₀ L m kS f G r ks e s) (k : ∀ ks e z, G ks e z->G' ks e z) : KatKeys prog w A h₀ L m kS f G' r ks e s :=
 kat_keys_mono h fun ks e z _ q => k ks e z q
theorem sk_few {l : Addr} {Q : Value->Shared->Prop} {kw : List (Str × Value)} {f : Value} (F : Fr h₀ L s.heap m) (N : News h₀ L s.heap news) (hl : s.heap.IsList l vs.toArray) (h2 : vs.length < 2) (ha : argsOk "sorted" ⟨[.ref l], kw⟩) (hb : ∀ x, argsOk "list.sort" ⟨[.ref x], kw⟩)
  (ht : ∀ x, Builtin.«list.sort» ⟨[.ref x], kw⟩ = ksk_tree x f false)
  (h : ∀ D kS e1 h', Fr h₀ L h' m->News h₀ L h' ((kS, seqObj "list" #[] 0) :: (D, seqObj "list" #[] e1) :: news)->D < kS->(∀ q ∈ news, q.1 < D) ->
   KatKeys prog w A.in1.in1 h₀ L m kS f (fun ks e z => KatFin h₀ L m kS D ks e e1 vs (fun z' => Q (.ref D) z') z) vs [] 0 { s with heap := h' }) :
  wpAny (model prog w) A (call (.builtin "sorted") [.ref l] kw) Q E s := by
 refine sk_lay hl (by omega) ha hb fun h' g kp => ?_
 have lL := F.ns.lt
 rw [ht]
 refine sk_tree (s := { s with heap := h' }) (F.kept kp) (N.grown kp) g (Nat.ne_of_gt (Nat.lt_succ_of_lt lL)) (Heap.get?_none_of_le (QnV F.above (Nat.le_succ_of_le (Nat.le_of_lt lL)))) (fun p hp => QnS (Nat.lt_succ_of_lt (QnJ (N p hp).1))) h2 fun kS e1 h2' F' N' lt => ?_
 exact KatKeys.imp (h _ kS e1 h2' F' N' lt fun q hq => Nat.lt_succ_of_lt (QnJ (N q hq).1)) fun ks e z q => q.mono fun z' hq => ⟨rfl, hq⟩
theorem sk_few0 {l : Addr} {Q : Value->Shared->Prop} (hl : s.heap.IsList l vs.toArray) (h2 : vs.length < 2)
  (h : ∀ D h' c, s.heap.objs.size<=D->h'.get? D = some (seqObj "list" vs.toArray c)->(∀ b o, s.heap.get? b = some o->h'.get? b = some o)->Q (.ref D) { s with heap := h' }) : wpAny (model prog w) A (call (.builtin "sorted") [.ref l]) Q E s := by
 refine sk_lay (kw := []) hl (by omega) (args_sorted1 _) (fun x => args_list_sort _) fun h' g kp => ?_
 rw [list_sort_plain]
 have small : vs.length<=sizeLine := by rw [sizeLine_eq]; omega
 have few : vs.toArray.size < 2 := by simpa using h2
 obtain ⟨d, hd⟩ : ∃ d, (h'.update (s.heap.objs.size + 1) (Obj.mapSeq fun _ => (#[] : Array Value))).get? (s.heap.objs.size + 1) = some (seqObj "list" #[] d) := ⟨_, get?_update_seq g fun _ => #[]⟩
 refine wpAny_bind (listItems_at g rfl (wpAny_bind (listUpdate_at g rfl ?_ (by simpa using small) (Nat.zero_le _))))
 refine wpAny_bind (seqEpoch_at hd rfl (wpAny_bind (wpAny_newTuple (wpAny_bind (wpAny_newList (wpAny_holding ?_) (Nat.zero_le _))) (by simpa using small))))
 (try dsimp only)
 rw [if_pos few, if_pos few]
 refine wpAny_bind (wpAny_pure (wpAny_bind (wpAny_pure ?_)))
 (try dsimp only)
 have ho : (arrOf (SortSt.mk' general' (vs.toArray.zip vs.toArray) #[] 7 none)).map (·.2) = vs.toArray := by
  show (vs.toArray.zip vs.toArray).map (·.2) = _
  apply Array.toList_inj.mp
  rw [Array.toList_map]
  show List.map Prod.snd (vs.toArray.zip vs.toArray).toList = vs
  rw [Array.toList_zip]
  exact List.map_snd_zip (QnL _)
 rw [ho]
 have hd2 : (((h'.update (s.heap.objs.size + 1) (Obj.mapSeq fun _ => (#[] : Array Value))).push (seqObj "tuple" vs.toArray 0)).push (seqObj "list" #[] 0)).get? (s.heap.objs.size + 1) = some (seqObj "list" #[] d) := QnG _ (QnG _ hd)
 refine wpAny_bind (seqEpoch_at (s := { s with heap := ((h'.update (s.heap.objs.size + 1) (Obj.mapSeq fun _ => (#[] : Array Value))).push (seqObj "tuple" vs.toArray 0)).push (seqObj "list" #[] 0) }) hd2 rfl ?_)
 refine wpAny_bind (listUpdate_at (s := { s with heap := ((h'.update (s.heap.objs.size + 1) (Obj.mapSeq fun _ => (#[] : Array Value))).push (seqObj "tuple" vs.toArray 0)).push (seqObj "list" #[] 0) }) hd2 rfl ?_ (Nat.zero_le _) (by simp; omega))
 show wpAny _ _ _ _ _ _
 simp only [bne_self_eq_false, Bool.false_eq_true, if_false]
 refine wpAny_pure ⟨rfl, h _ _ _ (Nat.le_succ _) (get?_update_seq hd2 fun _ => vs.toArray) fun b o q => ?_⟩
 have lt : b < s.heap.objs.size := QnJ q
 have ne : s.heap.objs.size + 1 ≠ b := Nat.ne_of_gt (Nat.lt_succ_of_lt lt)
 refine (Heap.get?_update_other _ _ ne).trans (QnG _ (QnG _ ((Heap.get?_update_other _ _ ne).trans (kp b o q))))
end
end L2
namespace L2
open PySem PySem.Spec PyProof.Rows
section
variable {X : Cx} {k : Nat} {f : Addr} {fd : FuncData} {pn : Str} {sp : Sp}
def QaE {α : Type} (d : α) (xs : List α) (lt : Nat->Nat->Bool) : List α := if 2<=xs.length then (ordT xs.length lt).map (fun i => xs.getD i d) else xs
theorem sortNP {pins : List (Addr × Obj)} {σ : L2.St} {H : Hp} {s : Shared} {l : Addr} {xs : List V} {Pk : List V->Hp->Prop} {lt : Nat->Nat->Bool} {Q : VK} (hh : X.A.units + 80 < cLine) (Fk : FnOk X.prog X.w X.K X.mg X.base CX0 k f fd [pn] sp) (hr : Room (k + 2) X.A) (hb : Qcs X.K fd [pn] [])
  (I : Inv X pins σ H s) (hl : SqL X.K H l xs) (h64 : xs.length < 64) (h0 : Pk [] H)
  (hk : ∀ ys H' x, Pk ys H'->xs[ys.length]? = some x->∀ R : VK, (∀ y H'', Pk (ys ++ [y]) H''->R y H'')->sp [x] H' R E0)
  (hlt : ∀ ys H', Pk ys H'->ys.length = xs.length->2<=xs.length->(∀ y ∈ ys, ∃ p a t, y = .ref p/\SqT X.K H' p (.str a :: t))/\∀ (i j : Nat) (p q : Addr), ys[i]? = some (.ref p)->ys[j]? = some (.ref q)->∃ t t', SqT X.K H' p t/\SqT X.K H' q t'/\TupLt X H' 20 true t t' (lt i j))
  (hQ : ∀ ys H' D, Pk ys H'->ys.length = xs.length->H' D = none->Q (.ref D) (upd H' D (.lst (QaE .non xs lt)))) :
  wpAny (model X.prog X.w) X.A (call (.builtin "sorted") [.ref l] [(Str.ofString "key", .ref f)]) (EP X pins σ Q) X.xe s := by
 obtain ⟨its, rv, pl, _⟩ := I.list hl
 have lv := rv.length
 obtain ⟨m, F⟩ := I.fr
 have pre : ∀ (D kS : Addr) (e1 : Nat) (h1 : Heap), Fr X.base X.env.locals h1 m->News X.base X.env.locals h1 ((kS, seqObj "list" #[] 0) :: (D, seqObj "list" #[] e1) :: allNews X.base s.heap X.env.locals)->D < kS->(∀ q ∈ allNews X.base s.heap X.env.locals, q.1 < D)->∀ Fin : List Value->Nat->Shared->Prop,
   (∀ pins' ys ks e H' s', ys.length = xs.length->Vals ys ks->Inv X pins' σ H' s'->Pk ys H'->(∀ outV outU, Vals outV outU->outV.length<=1000->(H' D = none->Q (.ref D) (upd H' D (.lst outV)))->PySem.W.KatFin X.base X.env.locals m kS D ks e e1 outU (fun s4 => EP X pins σ Q (.ref D) s4) s')->Fin ks e s') ->
   PySem.W.KatKeys X.prog X.w X.A.in1.in1 X.base X.env.locals m kS (.ref f) Fin its [] 0 { s with heap := h1 } := by
  intro D kS e1 h1 F1 N1 hDk hlow Fin0 fin0
  have nD := N1 (D, seqObj "list" #[] e1) (.tail _ (.head _))
  have nK := N1 (kS, seqObj "list" #[] 0) (.head _)
  have old : ∀ b o, b ≠ X.env.locals->s.heap.get? b = some o->h1.get? b = some o := fun b o hb e => by
   cases q : X.base.get? b with
   | some u =>
    have := I.bk b u q
    rw [e] at this; cases this
    exact F1.keep b _ q
   | none => exact (N1 (b, o) (.tail _ (.tail _ (QbV hb q e)))).1
  have low : ∀ b o, b ≠ X.env.locals->X.base.get? b = none->s.heap.get? b = some o->b < D := fun b o hb q e => hlow (b, o) (QbV hb q e)
  have sD : s.heap.get? D = none := by
   cases q : s.heap.get? D with
   | none => rfl
   | some o => exact absurd (low D o nD.2.1 nD.2.2 q) (QnY _)
  have sK : s.heap.get? kS = none := by
   cases q : s.heap.get? kS with
   | none => rfl
   | some o => exact absurd (Nat.lt_trans hDk (low kS o nK.2.1 nK.2.2 q)) (QnY _)
  obtain ⟨yD, hD⟩ := Qgk I sD nD.2.1 nD.2.2
  obtain ⟨yK, hK⟩ := Qgk I sK nK.2.1 nK.2.2
  have nDK : D ≠ kS := QnS hDk
  have nsOf : ∀ {g : Heap} {g' : Heap}, g.Ns X.env.locals m->Fr X.base X.env.locals g' m->∀ m', g.Ns X.env.locals m'->g'.Ns X.env.locals m' := fun {g g'} hg F' m' hm' => by
   rw [<-ns_inj hg hm']; exact F'.ns
  have I1 : Inv X pins σ H { s with heap := h1 } := I.led (t' := s.toks) yD hD (fun b o hb _ e => old b o hb e) (nsOf F.ns F1)
  have yKp : ∀ {o : Obj}, Young X (pins ++ [(D, o)]) kS := fun {o} => ⟨yK.nL, yK.nf, yK.s0, yK.nc, fun p hp => by
   rcases List.mem_append.mp (List.append_assoc X.pn pins _ ▸ hp : p ∈ (X.pn ++ pins) ++ [(D, o)]) with hp | hp
   ·exact yK.np p hp
   ·have e1 : p = (D, o) := by simpa using hp
    rw [e1]; exact nDK, yK.nb⟩
  have I1D : Inv X (pins ++ [(D, sqO [] e1)]) σ H { s with heap := h1 } := I1.pin1 yD hD nD.1 (QeM _ _)
  have hold : ∀ {H' : Hp} {s' : Shared} {vs : List Value} {n : Nat}, Inv X (pins ++ [(D, sqO [] e1)]) σ H' s'->H' kS = none->s'.heap.get? kS = some (sqO vs n)->Inv X ((pins ++ [(D, sqO [] e1)]) ++ [(kS, sqO vs n)]) σ H' s' := fun {H' s' vs n} J hn e => J.pin1 yKp hn e (QeM _ _)
  have memK : ∀ {vs : List Value} {n : Nat}, (kS, sqO vs n) ∈ X.pn ++ ((pins ++ [(D, sqO [] e1)]) ++ [(kS, sqO vs n)]) := fun {vs n} => QnH _ (QnH _ (.head _))
  have stepK : ∀ {H' : Hp} {s' : Shared} {vs vs' : List Value} {n c : Nat} {g : Heap}, Inv X ((pins ++ [(D, sqO [] e1)]) ++ [(kS, sqO vs n)]) σ H' s'->s'.heap.Ns X.env.locals m->Fr X.base X.env.locals g m->News X.base X.env.locals g ((kS, sqO vs' c) :: rest X.base s'.heap X.env.locals kS) ->
    Inv X (pins ++ [(D, sqO [] e1)]) σ H' { s' with heap := g }/\g.get? kS = some (sqO vs' c)/\H' kS = none := fun {H' s' vs vs' n c g} J hm Fg Ng => by
   have pk := J.pin _ memK
   refine ⟨J.unpinned.led (t' := s'.toks) yKp pk.2.1 (QcN J.bk Fg fun p hp => Ng p (.tail _ hp)) (nsOf hm Fg), (Ng _ (.head _)).1, pk.2.1⟩
  have I1K : Inv X ((pins ++ [(D, sqO [] e1)]) ++ [(kS, sqO [] 0)]) σ H { s with heap := h1 } := hold I1D hK nK.1
  have loop : ∀ {Fin : List Value->Nat->Shared->Prop}, (∀ ys ks e H' s', ys.length = xs.length->Vals ys ks->Inv X ((pins ++ [(D, sqO [] e1)]) ++ [(kS, sqO ks e)]) σ H' s'->s'.heap.Ns X.env.locals m->Pk ys H'->Fin ks e s') ->
    ∀ (us : List Value) (xr ys : List V) (ks : List Value) (e : Nat) (H' : Hp) (s' : Shared), Vals xr us->Vals ys ks->xs.drop ys.length = xr->ys.length<=xs.length->Inv X ((pins ++ [(D, sqO [] e1)]) ++ [(kS, sqO ks e)]) σ H' s'->s'.heap.Ns X.env.locals m->Pk ys H' ->
     PySem.W.KatKeys X.prog X.w X.A.in1.in1 X.base X.env.locals m kS (.ref f) Fin us ks e s' := by
   intro Fin fin us
   induction us with
   | nil =>
    intro xr ys ks e H' s' rx ry hd hle J hm hP
    cases rx
    refine PySem.W.KatKeys.nil (fin ys ks e H' s' (Nat.le_antisymm hle ?_) ry J hm hP)
    exact List.drop_eq_nil_iff.mp hd
   | cons u us ih =>
    intro xr ys ks e H' s' rx ry hd hle J hm hP
    cases rx with
    | @cons x _ xr _ ru rr =>
     have hlt' : ys.length < xs.length := by
      refine Nat.lt_of_le_of_ne hle fun z => ?_
      rw [z, List.drop_length] at hd; cases hd
     have hx : xs[ys.length]? = some x := by
      rw [QnZ hlt'] at hd
      rw [QnF hlt', (List.cons.inj hd).1]
     have hd' : xs.drop (ys.length + 1) = xr := by
      rw [QnZ hlt'] at hd
      exact (List.cons.inj hd).2
     refine PySem.W.KatKeys.cons (key_call (m := m) Fk hr hb J hm ru (hk ys H' x hP hx (fun y H'' => Pk (ys ++ [y]) H'') fun y H'' a => a) fun y H1 s1 w1 J1 hm1 rw1 ky1 => ?_)
     have pk1 := J1.pin _ memK
     refine PySem.W.KatBack.intro (news := (kS, sqO ks e) :: rest X.base s1.heap X.env.locals kS) (g := fun o => (kS, o) :: rest X.base s1.heap X.env.locals kS) ⟨hm1, J1.bk, F.above⟩ (QgF yK.nL yK.nb pk1.1) (.head Qgs) fun h2 c2 F2 N2 => ?_
     obtain ⟨J2, eK2, nK2⟩ := stepK (vs' := ks ++ [w1]) J1 hm1 F2 N2
     have J2K := hold J2 nK2 eK2
     exact ih xr (ys ++ [y]) (ks ++ [w1]) c2 H1 _ rr (ry.append (.cons rw1 .nil)) (by rw [QnO]; exact hd') (by rw [QnO]; exact hlt') J2K F2.ns ky1
  refine loop (fun ys ks e H2 s2 hy ry J hm hP => fin0 _ ys ks e H2 s2 hy ry J hP fun outV outU ro lo hQ' => ?_) its xs [] [] 0 H _ rv .nil rfl (Nat.zero_le _) I1K F1.ns h0
  have pk4 := J.pin _ memK
  refine PySem.W.KatFin.intro (news := (kS, sqO ks e) :: rest X.base s2.heap X.env.locals kS) (g := fun o => (kS, o) :: rest X.base s2.heap X.env.locals kS) ⟨hm, J.bk, F.above⟩ (QgF yK.nL yK.nb pk4.1) (.head Qgs) fun h5 c5 F5 N5 => ?_
  obtain ⟨J5, eK5, nK5⟩ := stepK (vs' := []) J hm F5 N5
  have pD5 := J5.pin (D, sqO [] e1) (QnH _ (QnH _ (.head _)))
  refine PySem.W.KasFin.intro (news := (D, sqO [] e1) :: rest X.base h5 X.env.locals D) (g := fun o => (D, o) :: rest X.base h5 X.env.locals D) F5 (QgF yD.nL yD.nb pD5.1) (.head Qgs) fun h6 c6 F6 N6 => ?_
  have J6 : Inv X pins σ H2 { s2 with heap := h6 } := by
   have J5u := J5.unpinned
   exact Inv.led (s := { s2 with heap := h5 }) (t' := s2.toks) J5u yD pD5.2.1 (QcN J5u.bk F6 fun p hp => N6 p (.tail _ hp)) (nsOf F5.ns F6)
  have eD6 := (N6 _ (.head _)).1
  exact ⟨.ref D, _, J6.track yD pD5.2.1 (o := .lst outV) ⟨QnV lo (Nat.le_of_lt (Qdx (QnL _))), outU, c6, ro, eD6⟩, rfl, hQ' pD5.2.1⟩
 by_cases h2 : 2<=xs.length
 ·refine PySem.W.kat_sortedK (vs := its) (b := false) (f := .ref f) F (QeC (g := X.base) (h := s.heap) (L := X.env.locals)) pl.isList (by omega) (by omega) (ksk_s1 _ _) (fun x => ksk_l1 _ _) (fun x => ksk_t1 _ _) fun D kS e1 h1 F1 N1 hDk hlow => ?_
  refine pre D kS e1 h1 F1 N1 hDk hlow _ fun pins' ys ks e H2 s2 hy ry J hP KF => ?_
  obtain ⟨ht, hcmp⟩ := hlt ys H2 hP hy h2
  have lk := ry.length
  obtain ⟨zs, fs, z1, z2, z3, z4⟩ := Qee J ry fun y hy => let ⟨p, a, t, e, q⟩ := ht y hy; ⟨p, _, t, e, q⟩
  have lf := z2.length
  have zstr : ∀ z ∈ zs, ∃ a, z = .str a := fun z hz => by
   obtain ⟨i, hi, ei⟩ := List.getElem_of_mem hz
   have hiy : i < ys.length := by omega
   obtain ⟨p, t, e1, q1⟩ := z4 i ys[i] z (QnF hiy) (by rw [QnF hi, ei])
   obtain ⟨p', a, t', e2, q2⟩ := ht ys[i] (List.getElem_mem hiy)
   rw [e1] at e2; cases e2
   have := J.tuple_inj q1 q2
   exact ⟨a, (List.cons.inj this).1⟩
  refine PySem.W.kat_kind (T := .type "str") z3 (by omega) (Qho z2 zstr) (by decide) ?_
  have eκ : (Value.type "str" != Value.type "tuple") = true := by decide
  rw [eκ, show its.length = xs.length from lv.symm]
  refine QiB (lt := lt) (n := xs.length) (fun i j C hi hj hC => ?_) _ (QeH (by omega)) ?_
  ·show wpAny (model X.prog X.w) X.A.in1.in1 (keyLt' (tuples' true) (ks.getD i Value.none) (ks.getD j Value.none)) C (fun _ _ => False) s2
   have at_ : ∀ i, i < xs.length->∃ p t, ys[i]? = some (.ref p)/\ks.getD i Value.none = .ref p/\SqT X.K H2 p t := fun i hi => by
    have hiy : i < ys.length := by omega
    obtain ⟨p, a, t, e, q⟩ := ht ys[i] (List.getElem_mem hiy)
    obtain ⟨u, hu, ru⟩ := ry.get (QnF hiy)
    rw [e] at ru
    refine ⟨p, _, by rw [QnF hiy, e], ?_, q⟩
    rw [QnQ, hu]
    exact (show u = Value.ref p from ru)
   obtain ⟨p, t, a1, a2, a3⟩ := at_ i hi
   obtain ⟨q, t', b1, b2, b3⟩ := at_ j hj
   rw [a2, b2]
   obtain ⟨t1, t2, c1, c2, c3⟩ := hcmp i j p q a1 b1
   exact QhF J (n := 20) (by show X.A.units + 1 + 1 + 20 < cLine; omega) c1 c2 c3 hC
  obtain ⟨o1, o2⟩ := QdZ (n := xs.length) (by omega) lt
  refine KF ((ordT xs.length lt).map fun i => xs.getD i .non) _ (QeK rv _ o2) (by rw [QnM, o1]; omega) fun hn => ?_
  have := hQ ys H2 D hP hy hn
  unfold QaE at this
  rw [if_pos h2] at this
  exact this
 ·refine sk_few (f := .ref f) F (QeC (g := X.base) (h := s.heap) (L := X.env.locals)) pl.isList (by omega) (ksk_s1 _ _) (fun x => ksk_l1 _ _) (fun x => ksk_t1 _ _) fun D kS e1 h1 F1 N1 hDk hlow => ?_
  refine pre D kS e1 h1 F1 N1 hDk hlow _ fun pins' ys ks e H2 s2 hy ry J hP KF => ?_
  refine KF xs its rv (by omega) fun hn => ?_
  have := hQ ys H2 D hP hy hn
  unfold QaE at this
  rw [if_neg h2] at this
  exact this
end
end L2
namespace L2
open PySem PySem.Spec PyProof.Rows
section
variable {X : Cx}
theorem Qhj {pins : List (Addr × Obj)} {σ : St} {H : Hp} {s : Shared} {M : Model} (J : Inv X pins σ H s) : ∀ {zs : List V} {fs : List Value}, Vals zs fs->(∀ z ∈ zs, ∃ p t, z = .ref p/\SqT X.K H p t)->∀ v ∈ fs, PySem.W.Looks M s.heap (typeOf v) (.type "tuple")
 | _, _, .nil, _, v, hv => by simp at hv
 | _, _, @Paired.cons _ _ _ z u zs us r rr, h, v, hv => by
  rcases List.mem_cons.mp hv with rfl | hv
  ·obtain ⟨p, t, rfl, sq⟩ := h z QnI
   cases (show v = Value.ref p from r)
   obtain ⟨its, _, q, _⟩ := J.tuple sq
   obtain ⟨o, ho, hc, _⟩ := q
   rw [<-hc]
   exact (PySem.W.Looks.ld ho).andThen .now
  ·exact Qhj J rr (fun z hz => h z (QnN _ hz)) v hv
theorem sortTP {pins : List (Addr × Obj)} {σ : L2.St} {H : Hp} {s : Shared} {l : Addr} {xs : List V} {lt : Nat->Nat->Bool} {Q : VK} (hh : X.A.units + 80 < cLine)
  (I : Inv X pins σ H s) (hl : SqL X.K H l xs) (h64 : xs.length < 64)
  (ht : 2<=xs.length->(∀ x ∈ xs, ∃ p z t, x = .ref p/\SqT X.K H p (z :: t)/\∃ p' t', z = .ref p'/\SqT X.K H p' t')/\∀ (i j : Nat) (p q : Addr), xs[i]? = some (.ref p)->xs[j]? = some (.ref q)->∃ t t', SqT X.K H p t/\SqT X.K H q t'/\TupLt X H 20 false t t' (lt i j))
  (hQ : ∀ D, H D = none->Q (.ref D) (upd H D (.lst (QaE .non xs lt)))) :
  wpAny (model X.prog X.w) X.A (call (.builtin "sorted") [.ref l]) (EP X pins σ Q) X.xe s := by
 obtain ⟨its, rv, pl, _⟩ := I.list hl
 have lv := rv.length
 by_cases h2 : 2<=xs.length
 ·obtain ⟨ht, hcmp⟩ := ht h2
  obtain ⟨m, F⟩ := I.fr
  refine PySem.W.kat_sorted (vs := its) F (QeC (g := X.base) (h := s.heap) (L := X.env.locals)) pl.isList (by omega) (by omega) fun D e1 h1 F1 N1 hlow => ?_
  have nD := N1 (D, seqObj "list" #[] e1) (.head _)
  have old : ∀ b o, b ≠ X.env.locals->s.heap.get? b = some o->h1.get? b = some o := fun b o hb e => by
   cases q : X.base.get? b with
   | some u =>
    have := I.bk b u q
    rw [e] at this; cases this
    exact F1.keep b _ q
   | none => exact (N1 (b, o) (.tail _ (QbV hb q e))).1
  have sD : s.heap.get? D = none := by
   cases q : s.heap.get? D with
   | none => rfl
   | some o => exact absurd (hlow (D, o) (QbV nD.2.1 nD.2.2 q)) (QnY _)
  obtain ⟨yD, hD⟩ := Qgk I sD nD.2.1 nD.2.2
  have nsOf : ∀ {g : Heap} {g' : Heap}, g.Ns X.env.locals m->Fr X.base X.env.locals g' m->∀ m', g.Ns X.env.locals m'->g'.Ns X.env.locals m' := fun {g g'} hg F' m' hm' => by
   rw [<-ns_inj hg hm']; exact F'.ns
  have I1 : Inv X pins σ H { s with heap := h1 } := I.led (t' := s.toks) yD hD (fun b o hb _ e => old b o hb e) (nsOf F.ns F1)
  have J : Inv X (pins ++ [(D, sqO [] e1)]) σ H { s with heap := h1 } := I1.pin1 yD hD nD.1 (QeM _ _)
  obtain ⟨zs, fs, z1, z2, z3, z4⟩ := Qee J rv fun y hy => let ⟨p, z, t, e, q, _⟩ := ht y hy; ⟨p, z, t, e, q⟩
  have lf := z2.length
  have ztup : ∀ z ∈ zs, ∃ p t, z = .ref p/\SqT X.K H p t := fun z hz => by
   obtain ⟨i, hi, ei⟩ := List.getElem_of_mem hz
   have hiy : i < xs.length := by omega
   obtain ⟨p, t, e1, q1⟩ := z4 i xs[i] z (QnF hiy) (by rw [QnF hi, ei])
   obtain ⟨p2, z2, t2, e2, q2, p3, t3, e3, q3⟩ := ht xs[i] (List.getElem_mem hiy)
   rw [e1] at e2; cases e2
   have := J.tuple_inj q1 q2
   rw [(List.cons.inj this).1]
   exact ⟨p3, t3, e3, q3⟩
  refine PySem.W.kat_kind (T := .type "tuple") z3 (by omega) (Qhj J z2 ztup) (by decide) ?_
  have eκ : (Value.type "tuple" != Value.type "tuple") = false := by decide
  rw [eκ, show its.length = xs.length from lv.symm]
  refine QiB (lt := lt) (n := xs.length) (fun i j C hi hj hC => ?_) _ (QeH (by omega)) ?_
  ·show wpAny (model X.prog X.w) X.A.in1.in1 (keyLt' (tuples' false) (its.getD i Value.none) (its.getD j Value.none)) C (fun _ _ => False) { s with heap := h1 }
   have at_ : ∀ i, i < xs.length->∃ p t, xs[i]? = some (.ref p)/\its.getD i Value.none = .ref p/\SqT X.K H p t := fun i hi => by
    obtain ⟨p, z, t, e, q, _⟩ := ht xs[i] (List.getElem_mem hi)
    obtain ⟨u, hu, ru⟩ := rv.get (QnF hi)
    rw [e] at ru
    refine ⟨p, _, by rw [QnF hi, e], ?_, q⟩
    rw [QnQ, hu]
    exact (show u = Value.ref p from ru)
   obtain ⟨p, t, a1, a2, a3⟩ := at_ i hi
   obtain ⟨q, t', b1, b2, b3⟩ := at_ j hj
   rw [a2, b2]
   obtain ⟨t1, t2, c1, c2, c3⟩ := hcmp i j p q a1 b1
   exact QhF J (n := 20) (by show X.A.units + 1 + 1 + 20 < cLine; omega) c1 c2 c3 hC
  obtain ⟨o1, o2⟩ := QdZ (n := xs.length) (by omega) lt
  have pD := J.pin (D, sqO [] e1) (QnH _ (QnH _ (.head _)))
  refine PySem.W.KasFin.intro (news := (D, sqO [] e1) :: rest X.base h1 X.env.locals D) (g := fun o => (D, o) :: rest X.base h1 X.env.locals D) F1 (QgF yD.nL yD.nb pD.1) (.head Qgs) fun h6 c6 F6 N6 => ?_
  have J6 : Inv X pins σ H { s with heap := h6 } := Inv.led (s := { s with heap := h1 }) (t' := s.toks) I1 yD pD.2.1 (QcN I1.bk F6 fun p hp => N6 p (.tail _ hp)) (nsOf F1.ns F6)
  have eD6 := (N6 _ (.head _)).1
  have q := hQ D hD
  unfold QaE at q
  rw [if_pos h2] at q
  refine ⟨.ref D, _, J6.track yD hD (o := .lst ((ordT xs.length lt).map fun i => xs.getD i .non)) ⟨?_, _, c6, QeK rv _ o2, eD6⟩, rfl, q⟩
  rw [QnM, o1]
  exact QnV (show xs.length<=1000 by omega) (Nat.le_of_lt (Qdx (QnL _)))
 ·refine sk_few0 pl.isList (by omega) fun D h' c le g kp => ?_
  have fr := I.hok.fresh le
  have q := hQ D fr
  unfold QaE at q
  rw [if_neg h2] at q
  exact ⟨.ref D, _, I.laid (a := D) (o := .lst xs) (t' := s.toks) kp le ⟨QnV (show xs.length<=1000 by omega) (Nat.le_of_lt (Qdx (QnL _))), its, c, rv, g⟩, rfl, q⟩
end
end L2
namespace L2
open PySem PySem.Spec PyProof.Rows
section
open PySem.SeqAt
open PySem.AutoSeq1 (wpAny_loadPart')
open PySem.MeetsSeq PySem.MeetsSeq2 PySem.MeetsSeq3
theorem lt_loopL (l b : Addr) (xs ys : Array Value) (n n2 : Nat) (dd dd2 : Option Addr) (sl sl2 : Array (Option Value)) (k : Nat) :
  ∀ i : Nat, xs.size - i = k->i<=xs.size->i<=ys.size->Meets (Builtin.«list.__eq__.loop» ⟨[.ref l, .ref b, rawInt i, rawInt 0], []⟩)
   (fun A R s => s.heap.get? l = some { cls := .type "list", dict := dd, data := .seq xs n, slots := sl }/\s.heap.get? b = some { cls := .type "list", dict := dd2, data := .seq ys n2, slots := sl2 } /\
    ∃ r, LtRun A.in1 s (xs.toList.drop i) (ys.toList.drop i) r/\R (.ok (.ret (.bool r))) s) := by
 induction k with
 | zero =>
  intro i hk h1 h2 prog w A R s h
  obtain ⟨hp, g, d, tk, os⟩ := s; obtain ⟨hl, hb, r, hrun, h⟩ := h
  wp_walk using wpAny_loadPart' hl, wpAny_loadPart' hb
  have e1 : xs[((i : Nat) : Int).toNat]? = none := by simp; omega
  have e2 : xs.toList.drop i = [] := by simp; omega
  rw [e2] at hrun
  rw [e1]
  wp_walk using wpAny_loadPart' hl, wpAny_loadPart' hb
  show R (.ok (.ret (.bool (decide (xs.size < ys.size))))) _
  have hv : r = decide (xs.size < ys.size) := by
   generalize e3 : ys.toList.drop i = zs at hrun
   have l3 := congrArg List.length e3
   rw [List.length_drop, Array.length_toList] at l3
   cases hrun with
   | nn => exact (decide_eq_false (by simp at l3; omega)).symm
   | nc => exact (decide_eq_true (by simp at l3; omega)).symm
  rw [<-hv]; exact h
 | succ k ih =>
  intro i hk h1 h2 prog w A R s h
  obtain ⟨hp, g, d, tk, os⟩ := s; obtain ⟨hl, hb, r, hrun, h⟩ := h
  wp_walk using wpAny_loadPart' hl, wpAny_loadPart' hb
  have lx : i < xs.size := by omega
  have e1 : xs[((i : Nat) : Int).toNat]? = some xs[i] := by simp [lx]
  have d1 : xs.toList.drop i = xs[i] :: xs.toList.drop (i + 1) := by rw [QnZ (by simpa using lx)]; simp
  rw [d1] at hrun
  have hc : ((i : Int) + 1) = ((i + 1 : Nat) : Int) := by push_cast; rfl
  by_cases ly : i < ys.size
  ·have e2 : ys[((i : Nat) : Int).toNat]? = some ys[i] := by simp [ly]
   have d2 : ys.toList.drop i = ys[i] :: ys.toList.drop (i + 1) := by rw [QnZ (by simpa using ly)]; simp
   rw [d2] at hrun
   rw [e1, e2]
   cases hrun with
   | eq he hr =>
    refine wpAny_bind (he prog w _ _ ?_)
    wp_walk
    rw [hc]
    exact ⟨plainId_quiet plain_eq_loop _, codeAny_builtin entry_eq_loop (by
     rw [Around.under_plainId plain_eq_loop _]
     exact ih (i + 1) (by omega) lx ly prog w A R _ ⟨hl, hb, r, hr, h⟩)⟩
   | ne he hr =>
    refine wpAny_bind (he prog w _ _ ?_)
    have hri := hr prog w
    wp_walk using wpAny_loadPart' hl, wpAny_loadPart' hb
    rw [e1, e2]
    wp_walk using hri
    exact h
  ·have e2 : ys[((i : Nat) : Int).toNat]? = none := by simp; omega
   have d2 : ys.toList.drop i = [] := by simp; omega
   rw [d2] at hrun
   rw [e1, e2]
   wp_walk using wpAny_loadPart' hl, wpAny_loadPart' hb
   show R (.ok (.ret (.bool (decide (xs.size < ys.size))))) _
   have hv : r = decide (xs.size < ys.size) := by
    cases hrun with
    | cn => exact (decide_eq_false (by omega)).symm
   rw [<-hv]; exact h
theorem list_ltL (l b : Addr) (xs ys : Array Value) (n n2 : Nat) (dd dd2 : Option Addr) (sl sl2 : Array (Option Value)) :
  Meets (Builtin.«list.__lt__» ⟨[.ref l, .ref b], []⟩)
   (fun A R s => s.heap.get? l = some { cls := .type "list", dict := dd, data := .seq xs n, slots := sl }/\s.heap.get? b = some { cls := .type "list", dict := dd2, data := .seq ys n2, slots := sl2 } /\
    ∃ r, LtRun A.in1 s xs.toList ys.toList r/\R (.ok (.ret (.bool r))) s) := by
 intro prog w A R s h
 obtain ⟨hp, g, d, tk, os⟩ := s; obtain ⟨hl, hb, r, hrun, h⟩ := h
 have f3 := AutoSeq1.sub_list_list
 wp_walk using wpAny_loadPart' hl, wpAny_loadPart' hb
 exact ⟨plainId_quiet plain_eq_loop _, codeAny_builtin entry_eq_loop (by
  rw [Around.under_plainId plain_eq_loop _]
  exact lt_loopL l b xs ys n n2 dd dd2 sl sl2 _ 0 rfl (Nat.zero_le _) (Nat.zero_le _) prog w A R _ ⟨hl, hb, r, by simpa using hrun, h⟩)⟩
end
theorem Qmd {prog : Program} {w : World} {A : Around} {E : Value->Shared->Prop} {s : Shared} {l b : Addr} {xs ys : Array Value} {r : Bool} {Q : Value->Shared->Prop} (hl : s.heap.IsList l xs) (hb : s.heap.IsList b ys)
  (hr : LtRun A.in1 s xs.toList ys.toList r) (hu : A.units < cLine) (h : Q (.bool r) s) : wpAny (model prog w) A (richCompare .Lt (.ref l) (.ref b)) Q E s := by
 obtain ⟨⟨cls, dd, data, sl⟩, ho, hc, n, hd⟩ := id hl
 obtain ⟨⟨cls2, dd2, data2, sl2⟩, ho2, hc2, n2, hd2⟩ := id hb
 simp only at hc hd hc2 hd2
 subst hc hd hc2 hd2
 exact richCompare_meets_room (op := .Lt) ⟨_, ho, rfl⟩ ⟨_, ho2, rfl⟩ PySem.F.slot_list_lt PySem.F.entry_list_lt (PySem.F.args_list_lt_2 _ _) (list_ltL l b xs ys n n2 dd dd2 sl sl2)
  ⟨ho, ho2, r, hr, show Value.bool r ≠ Value.notImplemented/\Q (.bool r) s from ⟨(fun x => nomatch x), h⟩⟩ hu
section
variable {X : Cx} {H : Hp}
theorem LtV.flat {n : Nat} {x y : V} {b : Bool} (h : ltFlat x y b) : LtV X H n x y b := fun _ _ _ _ _ _ _ ru rv _ => Qme h ru rv
theorem LtV.tup {n : Nat} {p q : Addr} {xs ys : List V} {b : Bool} (hp : SqT X.K H p xs) (hq : SqT X.K H q ys) (h : LtR (EqV X H n) (LtV X H n) xs ys b) : LtV X H (n + 1) (.ref p) (.ref q) b := by
 intro pins σ s u v A I ru rv hA
 cases ru
 cases rv
 obtain ⟨its, r1, t1, _⟩ := I.tuple hp
 obtain ⟨its2, r2, t2, _⟩ := I.tuple hq
 intro prog w E Q hQ
 exact Qmc t1 t2 (QgK (A := A.in1) (fun x y b u v e ru rv => e _ _ _ _ _ _ I ru rv (by show A.units + 1 + n < cLine; omega)) (fun x y b u v e ru rv => e _ _ _ _ _ _ I ru rv (by show A.units + 1 + n < cLine; omega)) h r1 r2) (by omega) hQ
theorem LtV.lst {n : Nat} {p q : Addr} {xs ys : List V} {b : Bool} (hp : SqL X.K H p xs) (hq : SqL X.K H q ys) (h : LtR (EqV X H n) (LtV X H n) xs ys b) : LtV X H (n + 1) (.ref p) (.ref q) b := by
 intro pins σ s u v A I ru rv hA
 cases ru
 cases rv
 obtain ⟨its, r1, t1, _⟩ := I.list hp
 obtain ⟨its2, r2, t2, _⟩ := I.list hq
 intro prog w E Q hQ
 exact Qmd t1.isList t2.isList (QgK (A := A.in1) (fun x y b u v e ru rv => e _ _ _ _ _ _ I ru rv (by show A.units + 1 + n < cLine; omega)) (fun x y b u v e ru rv => e _ _ _ _ _ _ I ru rv (by show A.units + 1 + n < cLine; omega)) h r1 r2) (by omega) hQ
end
end L2
namespace L2
open PySem PySem.Spec PyProof.Rows
section
variable {X : Cx} {pins : List (Addr × Obj)} {σ : List (Option V)} {H H' : Hp} {s : Shared} {h' : Heap}
def ItzL (K : PySem.W.Frag) (a b : Addr) : It :=
  ⟨fun i H => ∃ xs ys x y, SqL K H a xs/\SqL K H b ys/\xs[i]? = some x/\ys[i]? = some y,
   fun i H v H' => ∃ p x y, v = .ref p/\H p = none/\H' = upd H p (.tup [x, y])/\(∀ xs, SqL K H a xs->xs[i]? = some x)/\∀ ys, SqL K H b ys->ys[i]? = some y,
   fun i H => ∃ xs ys, SqL K H a xs/\SqL K H b ys/\(xs.length<=i\/ys.length<=i)⟩
theorem Qle {P0 : Program} {w : World} {K : PySem.W.Frag} {es : List Expr} {tk : Nat} {tp : Pos} {c P O i j a b : Addr} (D : ZipApart c P O i j a b) :
  Turn P0 w K (.Tuple es tk tp) (ItzL K a b) [c, P, O, i, j] c (fun n h => IsZip h c P O .none/\IsPair h P (.ref i) (.ref j)/\(∃ p q, IsPair h O p q)/\h.IsListIter i a n/\h.IsListIter j b n) where
 mem := by simp
 obj := fun n h st d hd => by
  obtain ⟨g1, g2, ⟨p, q, g3⟩, ⟨o4, g4, c4, d4⟩, ⟨o5, g5, c5, d5⟩⟩ := st
  simp only [List.mem_cons, List.not_mem_nil, or_false] at hd
  rcases hd with rfl | rfl | rfl | rfl | rfl
  ·exact ⟨_, g1, fun v z => by have z' : Data.fields _ = Data.cell v := z; cases z'⟩
  ·exact ⟨_, g2, fun v z => by have z' : Data.seq _ _ = Data.cell v := z; cases z'⟩
  ·exact ⟨_, g3, fun v z => by have z' : Data.seq _ _ = Data.cell v := z; cases z'⟩
  ·exact ⟨o4, g4, fun v z => by rw [d4] at z; cases z⟩
  ·exact ⟨o5, g5, fun v z => by rw [d5] at z; cases z⟩
 keep := fun n h h' st k => by
  obtain ⟨g1, g2, ⟨p, q, g3⟩, g4, g5⟩ := st
  exact ⟨k c (by simp) _ g1, k P (by simp) _ g2, ⟨p, q, k O (by simp) _ g3⟩, g4.at fun o e => k i (by simp) o e, g5.at fun o e => k j (by simp) o e⟩
 item := by
  intro X hP hw hK hc n pins s σ H E I hf st hg
  subst hP hw hK
  obtain ⟨xs, ys, x, y, hxs, hys, hx, hy⟩ := hg
  obtain ⟨g1, g2, ⟨p, q, g3⟩, g4, g5⟩ := st
  obtain ⟨us, rx, px, _⟩ := I.list hxs
  obtain ⟨vs, ry, py, _⟩ := I.list hys
  obtain ⟨u, hu, ru⟩ := rx.get hx
  obtain ⟨v, hv, rv⟩ := ry.get hy
  refine wpAny_pyNext_zip_item D g1 g2 g3 g4 g5 px.isList py.isList (by simpa using hu) (by simpa using hv) fun h1 a1 a2 a3 a4 a5 a6 a7 => ?_
  refine ⟨_, rfl, wpAny_letOwnedTupleGo_zip (s := { s with heap := h1 }) a1 fun h2 b1 b2 => ?_⟩
  have kk : ∀ d o, d ∉ [c, P, O, i, j]->s.heap.get? d = some o->h2.get? d = some o := fun d o nd e => by
   simp only [List.mem_cons, List.not_mem_nil, or_false, not_or] at nd
   exact b2.extBut _ _ nd.1 (a7 d o nd.1 nd.2.2.1 nd.2.2.2.1 nd.2.2.2.2 e)
  have I1 : Inv X pins σ H { s with heap := h2 } := I.turnedL (t' := s.toks) kk hf
  have lc : c < s.heap.objs.size := QnJ g1
  have lt : ∀ d ∈ [c, P, O, i, j], d < s.heap.objs.size := fun d hd => by
   simp only [List.mem_cons, List.not_mem_nil, or_false] at hd
   obtain ⟨o4, e4, _⟩ := g4
   obtain ⟨o5, e5, _⟩ := g5
   rcases hd with rfl | rfl | rfl | rfl | rfl
   ·exact lc
   ·exact QnJ g2
   ·exact QnJ g3
   ·exact QnJ e4
   ·exact QnJ e5
  have a5' : IsPair h2 s.heap.objs.size u v := b2.extBut _ _ (Nat.ne_of_gt lc) a5
  have fp := I.fpOk (H' := H) (QnL _) (I.hok.fresh (QnL _))
  have h0 : X.s₀.heap.get? s.heap.objs.size = none := by
   cases e : X.s₀.heap.get? s.heap.objs.size with
   | none => rfl
   | some o => exact absurd (QnP (QnJ e) I.sz) (QnY _)
  have I2 := I1.trackT (xs := [x, y]) fp h0 ⟨by show 2<=sizeLine; decide, [u, v], .cons ru (.cons rv .nil), ⟨_, a5', rfl, _, rfl⟩⟩
  refine ⟨.ref s.heap.objs.size, _, I2, rfl, ⟨_, x, y, rfl, I.hok.fresh (QnL _), rfl, fun zs hz => by rw [I.list_inj hz hxs]; exact hx, fun zs hz => by rw [I.list_inj hz hys]; exact hy⟩, ⟨b1, ?_, ⟨u, v, b2.extBut _ _ D.TOz a2⟩, a3.at fun o e => b2.extBut _ _ D.i1z e, a4.at fun o e => b2.extBut _ _ D.i2z e⟩, fun d hd => ?_⟩
  ·exact b2.extBut _ _ D.TIz (a7 _ _ D.TIz D.TITO D.TIi1 D.TIi2 g2)
  ·unfold upd
   rw [if_neg (QnS (lt d hd))]
   exact (hf d hd).1
 done := by
  intro X hP hw hK hc n pins s σ H E I hf st hg
  subst hP hw hK
  obtain ⟨xs, ys, hxs, hys, hl⟩ := hg
  obtain ⟨g1, g2, ⟨p, q, g3⟩, g4, g5⟩ := st
  obtain ⟨us, rx, px, _⟩ := I.list hxs
  obtain ⟨vs, ry, py, _⟩ := I.list hys
  have l1 := rx.length
  have l2 := ry.length
  refine wpAny_pyNext_zip_end (I.ok.hd hc) D g1 g2 g3 g4 g5 px.isList py.isList (hl.imp (fun h => by simp; omega) fun h => by simp; omega) fun h1 a7 => ⟨rfl, I.turnedL (t' := s.toks) (fun d o nd e => ?_) hf⟩
  simp only [List.mem_cons, List.not_mem_nil, or_false, not_or] at nd
  exact a7 d o nd.1 nd.2.2.1 nd.2.2.2.1 nd.2.2.2.2 e
 self := fun _ _ _ _ _ st h => wpAny_pyIter_zip st.1 h
theorem zl_new {n a b : Nat} (ha : a < n) (hb : b < n) : ZipApart (n + 4) (n + 2) (n + 3) n (n + 1) a b := by
 constructor <;> exact (show (_ : Nat) ≠ _ by omega)
def iZipB (K : PySem.W.Frag) (ta : TA) : TI := fun σ H R => ta σ H fun vs H1 => ∃ a b, vs = [.ref a, .ref b]/\((∃ xs ys, SqT K H1 a xs/\SqT K H1 b ys/\R (Itz K a b) H1)\/∃ xs ys, SqL K H1 a xs/\SqL K H1 b ys/\R (ItzL K a b) H1)
theorem pi_zipB {a b : Expr} {ta : TA} {p pos tp : Pos} {es : List Expr} {tk : Nat} (hg : Gl X "zip") (hm : X.mg "zip" = none) (ha : PA X [a, b] ta) (hs : starEach [a, b] X.env = [(false, eval a X.env), (false, eval b X.env)]) (hs2 : starEach [b] X.env = [(false, eval b X.env)]) :
  PI X (.Tuple es tk tp) (.Call (.Name "zip" p) [a, b] [] pos) (iZipB X.K ta) := by
 intro pins s σ H R I h
 refine Call_ (Qfc I hg hm (show bootBuiltins "zip" = some (.type "zip") by decide +kernel) (PyProof.Rows.callWith_type1 (thn (ha pos pins s σ H _ I h) fun us s1 ⟨vs, H1, I1, r1, q1⟩ => ?_) (by rw [hs, hs2]) (by rw [hs2]; rfl)))
 obtain ⟨a', b', e, q⟩ := q1
 subst e
 cases r1 with
 | cons r rr =>
  cases rr with
  | cons r' rr =>
   cases rr
   cases r
   cases r'
   have five : ∀ d ∈ [s1.heap.objs.size + 4, s1.heap.objs.size + 2, s1.heap.objs.size + 3, s1.heap.objs.size, s1.heap.objs.size + 1], FpOk X pins H1 d := fun d hd => by
    have hd' : s1.heap.objs.size<=d := by
     simp only [List.mem_cons, List.not_mem_nil, or_false] at hd
     rcases hd with rfl | rfl | rfl | rfl | rfl <;> omega
    exact I1.fpOk hd' (I1.hok.fresh hd')
   rcases q with ⟨xs, ys, hx, hy, q⟩ | ⟨xs, ys, hx, hy, q⟩
   ·obtain ⟨us, rx, px, _⟩ := I1.tuple hx
    obtain ⟨vs, ry, py, _⟩ := I1.tuple hy
    have la : a' < s1.heap.objs.size := by obtain ⟨o, e, _⟩ := (show s1.heap.IsTuple a' us.toArray from px); exact QnJ e
    have lb : b' < s1.heap.objs.size := by obtain ⟨o, e, _⟩ := (show s1.heap.IsTuple b' vs.toArray from py); exact QnJ e
    refine Qnl (show s1.heap.IsTuple a' us.toArray from px) (show s1.heap.IsTuple b' vs.toArray from py) fun h' g1 g2 g3 g4 g5 gk => ?_
    refine wpAny_pyIter_zip (s := { s1 with heap := h' }) g1 ?_
    exact ⟨_, _, _, _, H1, rfl, I1.kept (t' := s1.toks) gk, turn_zip (za_new la lb), ⟨g1, g2, ⟨_, _, g3⟩, g4, g5⟩, five, q⟩
   ·obtain ⟨us, rx, px, _⟩ := I1.list hx
    obtain ⟨vs, ry, py, _⟩ := I1.list hy
    have la : a' < s1.heap.objs.size := by obtain ⟨o, e, _⟩ := px.isList; exact QnJ e
    have lb : b' < s1.heap.objs.size := by obtain ⟨o, e, _⟩ := py.isList; exact QnJ e
    refine call_zip_2 px.isList py.isList fun h' g1 g2 g3 g4 g5 _ gk => ?_
    refine wpAny_pyIter_zip (s := { s1 with heap := h' }) g1 ?_
    exact ⟨_, _, _, _, H1, rfl, I1.kept (t' := s1.toks) gk, Qle (zl_new la lb), ⟨g1, g2, ⟨_, _, g3⟩, g4, g5⟩, five, q⟩
end
end L2
namespace DL
open PySem PySem.Spec PyProof.Rows L2
section
variable {X : Cx}
def ltD : Nat->W->W->Option Bool
 | 0, _, _ => none
 | n + 1, a, b => (match a, b with
  | .int i, .int j => some (decide (i < j))
  | .str i, .str j => some (decide (i.cps.toList < j.cps.toList))
  | .tup xs, .tup ys => lexK (eqD 12) (ltD n) xs ys
  | .lst xs, .lst ys => lexK (eqD 12) (ltD n) xs ys
  | _, _ => none)
theorem eqD_V {ι : Nat->Addr} {N : Nat} {H : Hp} {n : Nat} {w1 w2 : W} {b : Bool} {v1 v2 : V} (hn : 12<=n) (h : eqD 12 w1 w2 = some b) (r1 : RelW X.K ι N H v1 w1) (r2 : RelW X.K ι N H v2 w2) : EqV X H n v1 v2 b :=
 fun _ _ _ _ _ _ I ru rv hA => (QhT I 12 h r1 r2 ru rv (by omega)).1
theorem QhB {ι : Nat->Addr} {N : Nat} {H : Hp} {n : Nat} {lt : W->W->Option Bool} (hn : 12<=n) (hL : ∀ {w1 w2 : W} {b : Bool} {v1 v2 : V}, lt w1 w2 = some b->RelW X.K ι N H v1 w1->RelW X.K ι N H v2 w2->LtV X H n v1 v2 b) :
  ∀ {ws ws' : List W} {xs ys : List V} {b : Bool}, lexK (eqD 12) lt ws ws' = some b->RelWs X.K ι N H xs ws->RelWs X.K ι N H ys ws'->LtR (EqV X H n) (LtV X H n) xs ys b
 | [], [], _, _, _, h, .nil, .nil => by cases h; exact .nn
 | [], _ :: _, _, _, _, h, .nil, .cons _ _ => by cases h; exact .nc
 | _ :: _, [], _, _, _, h, .cons _ _, .nil => by cases h; exact .cn
 | w :: ws, w' :: ws', _, _, b, h, .cons r t, .cons r' t' => by
  unfold lexK at h
  cases e : eqD 12 w w' with
  | none => rw [e] at h; cases h
  | some c =>
   rw [e] at h
   cases c with
   | true => exact .eq (eqD_V hn e r r') (QhB hn hL h t t')
   | false => exact .ne (eqD_V hn e r r') (hL h r r')
theorem ltD_V {ι : Nat->Addr} {N : Nat} {H : Hp} : ∀ (n : Nat) {w1 w2 : W} {b : Bool} {v1 v2 : V}, ltD n w1 w2 = some b->RelW X.K ι N H v1 w1->RelW X.K ι N H v2 w2->LtV X H (12 + n) v1 v2 b
 | 0, _, _, _, _, _, h, _, _ => by cases h
 | n + 1, w1, w2, b, v1, v2, h, r1, r2 => by
  unfold ltD at h
  split at h
  ·cases r1; cases r2; cases h; exact LtV.flat (.inl ⟨_, _, rfl, rfl, rfl⟩)
  ·cases r1; cases r2; cases h; exact LtV.flat (.inr ⟨_, _, rfl, rfl, rfl⟩)
  ·cases r1 with
   | tup s1 c1 t1 => cases r2 with
    | tup s2 c2 t2 => exact LtV.tup s1 s2 (QhB (by omega) (fun e a b => ltD_V n e a b) h t1 t2)
  ·cases r1 with
   | lst s1 t1 => cases r2 with
    | lst s2 t2 => exact LtV.lst s1 s2 (QhB (by omega) (fun e a b => ltD_V n e a b) h t1 t2)
  ·cases h
def QdH (c : Bool) (a b : W) : Option Bool := match c, a, b with
 | true, .tup (.str x :: xs), .tup (.str y :: ys) => if xs.length = ys.length then (if x = y then lexK (eqD 12) (ltD 8) xs ys else some (decide (x.cps.toList < y.cps.toList))) else none
 | false, .tup (.tup k :: xs), .tup (.tup l :: ys) => if xs.length = ys.length then lexK (eqD 12) (ltD 8) (.tup k :: xs) (.tup l :: ys) else none
 | _, _, _ => none
def Qed (c : Bool) (ks : List W) : Bool := decide (ks.length < 2) || ks.all fun a => ks.all fun b => (QdH c a b).isSome
def keyB (c : Bool) (ks : List W) (i j : Nat) : Bool := (QdH c (ks.getD i .non) (ks.getD j .non)).getD false
theorem QhE {c : Bool} {a b : W} {r : Bool} (h : QdH c a b = some r) : ∃ z xs z' ys, a = .tup (z :: xs)/\b = .tup (z' :: ys)/\(if c = true then (∃ x, z = .str x)/\∃ y, z' = .str y else (∃ k, z = .tup k)/\∃ l, z' = .tup l) := by
 unfold QdH at h
 split at h
 ·exact ⟨_, _, _, _, rfl, rfl, ⟨_, rfl⟩, _, rfl⟩
 ·exact ⟨_, _, _, _, rfl, rfl, ⟨_, rfl⟩, _, rfl⟩
 ·cases h
theorem Qmp {ι : Nat->Addr} {N : Nat} {H : Hp} {c : Bool} {a b : W} {r : Bool} {p q : Addr} (h : QdH c a b = some r) (r1 : RelW X.K ι N H (.ref p) a) (r2 : RelW X.K ι N H (.ref q) b) : ∃ t t', SqT X.K H p t/\SqT X.K H q t'/\TupLt X H 20 c t t' r := by
 unfold QdH at h
 split at h
 ·rename_i x xs y ys
  cases r1 with
  | tup s1 c1 t1 => cases r2 with
   | tup s2 c2 t2 =>
    refine ⟨_, _, s1, s2, ?_⟩
    cases t1 with
    | cons h1 t1 => cases t2 with
     | cons h2 t2 =>
      cases h1; cases h2
      split at h
      ·rename_i hl
       refine ⟨by simp [t1.length, t2.length, hl], _, _, _, _, rfl, rfl, ?_⟩
       split at h
       ·rename_i e; exact .inl ⟨e, QhB (by omega) (fun e a b => ltD_V 8 e a b) h t1 t2⟩
       ·rename_i e; cases h; exact .inr ⟨e, rfl⟩
      ·cases h
 ·rename_i k xs l ys
  cases r1 with
  | tup s1 c1 t1 => cases r2 with
   | tup s2 c2 t2 =>
    refine ⟨_, _, s1, s2, ?_⟩
    split at h
    ·rename_i hl
     refine ⟨by rw [t1.length, t2.length]; simp [hl], ?_⟩
     exact QhB (by omega) (fun e a b => ltD_V 8 e a b) h t1 t2
    ·cases h
 ·cases h
theorem QeD {c : Bool} {ks : List W} (h : Qed c ks = true) (h2 : 2<=ks.length) {i j : Nat} {a b : W} (ha : ks[i]? = some a) (hb : ks[j]? = some b) : QdH c a b = some (keyB c ks i j) := by
 unfold Qed at h
 rw [Bool.or_eq_true, decide_eq_true_eq] at h
 rcases h with h | h
 ·omega
 ·have h' := List.all_eq_true.mp (List.all_eq_true.mp h a (List.mem_of_getElem? ha)) b (List.mem_of_getElem? hb)
  unfold keyB
  rw [QnQ, QnQ, ha, hb]
  cases e : QdH c a b with
  | none => rw [e] at h'; cases h'
  | some r => show some r = some ((QdH c a b).getD false); rw [e]; rfl
theorem RelWs.pick {K : PySem.W.Frag} {ι : Nat->Addr} {N : Nat} {G : Hp} {xs : List V} {ws : List W} (r : RelWs K ι N G xs ws) : ∀ (is : List Nat), (∀ i ∈ is, i < ws.length)->RelWs K ι N G (is.map fun i => xs.getD i .non) (is.map fun i => ws.getD i .non)
 | [], _ => .nil
 | i :: is, h => by
  have hi := h i QnI
  obtain ⟨v, hv, rv⟩ := r.get (QnF hi)
  refine .cons ?_ (RelWs.pick r is fun j hj => h j (QnN _ hj))
  show RelW K ι N G (xs.getD i .non) (ws.getD i .non)
  rw [QnQ, QnQ, hv, QnF hi]
  exact rv
theorem RelWs.sorted {K : PySem.W.Frag} {ι : Nat->Addr} {N : Nat} {G : Hp} {xs : List V} {ws : List W} (r : RelWs K ι N G xs ws) (lt : Nat->Nat->Bool) : RelWs K ι N G (QaE .non xs lt) (QaE .non ws lt) := by
 unfold QaE
 rw [r.length]
 split
 ·rename_i h; exact r.pick _ fun i hi => (QdZ (by omega) lt).2 i hi
 ·exact r
def Qcq (op : OpN) : List W->List W->S->R (List W)
 | [], acc, st => .ok acc st
 | x :: xs, acc, st => (op [x] st).calm.bind fun k st1 => Qcq op xs (acc ++ [k]) st1
def QcD (m : Bool) (xs ks : List W) (st : S) : R W := if Qed true ks then opL m (QaE .non xs (keyB true ks)) st else .stuck
def QkQ (r : R (List W)) (f : List W->S->R W) : R W := match r with
 | .ok a s => f a s
 | .ex c s => .ex c s
 | .stuck => .stuck
def QcK (m : Bool) (op : OpN) : W->S->R W := fun w st => match w with
 | .lst xs => if xs.length < 64 then QkQ (Qcq op xs [] st) (QcD m xs) else .stuck
 | _ => .stuck
theorem QkP (r : R W) (g : W->S->R (List W)) (f : List W->S->R W) : QkQ (r.calm.bind g) f = r.calm.bind fun k st => QkQ (g k st) f := by cases r <;> rfl
theorem QdC {ι : Nat->Addr} {G H : Hp} {st : S} {m : Bool} {xs : List V} {ws : List W} {Q : VK} (sr : SR X.K ι st G H) (r : RelWs X.K ι st.nxt G xs ws) (q : wpW X ι st.nxt G (opL m ws st) Q) : ∀ p, H p = none->Q (.ref p) (upd H p (.lst xs)) := by
 cases m with
 | true => exact (QcM sr r q).2
 | false => exact (QdE sr r q).2
theorem sortN_w {m : Bool} {k : Nat} {f : Addr} {fd : FuncData} {pn : Str} {op : OpN} (hh : X.A.units + 80 < cLine) (Fk : FnOk X.prog X.w X.K X.mg X.base CX0 k f fd [pn] (SpD X.K 1 op)) (hr : Room (k + 2) X.A) (hb : Qcs X.K fd [pn] []) :
  SortR X (fun x y H Q => y = .ref f/\∃ ι G st w, SR X.K ι st G H/\RelW X.K ι st.nxt G x w/\wpW X ι st.nxt G (QcK m op w st) Q) := by
 intro pins s σ H x y v u Q I rx ry h
 obtain ⟨rfl, ι, G, st, w, sr, r, q⟩ := h
 cases (show u = Value.ref f from ry)
 unfold QcK at q
 split at q
 ·rename_i ws
  cases r with
  | @lst a xs _ s1 t1 =>
   cases (show v = Value.ref a from rx)
   have lx := t1.length
   by_cases h64 : ws.length < 64
   ·rw [if_pos h64] at q
    refine sortNP (lt := keyB true (match Qcq op ws [] st with | .ok ks _ => ks | _ => [])) (Pk := fun ys H' => ys.length<=ws.length/\∃ ι' G' st' acc, Ext ι st.nxt G ι' st'.nxt G'/\SR X.K ι' st' G' H'/\RelWs X.K ι' st'.nxt G' ys acc/\Qcq op ws [] st = Qcq op (ws.drop ys.length) acc st'/\wpW X ι' st'.nxt G' (QkQ (Qcq op (ws.drop ys.length) acc st') (QcD m ws)) Q) hh Fk hr hb I (sr.sub.seq s1) (by omega)
     ⟨Nat.zero_le _, ι, G, st, [], Ext.refl _ _ _, sr, .nil, rfl, q⟩ (fun ys H' x hP hx R hR => ?_) (fun ys H' hP hy h2 => ?_) (fun ys H' D hP hy hD => ?_)
    ·obtain ⟨hle, ι', G', st', acc, ex, sr', ra, eq', q'⟩ := hP
     have hlt : ys.length < xs.length := (List.getElem?_eq_some_iff.mp hx).1
     have hltw : ys.length < ws.length := by omega
     obtain ⟨w, hw, rw'⟩ := t1.get' hx
     have hd : ws.drop ys.length = w :: ws.drop (ys.length + 1) := by
      rw [QnZ hltw]
      rw [QnF hltw] at hw
      cases hw; rfl
     rw [hd] at q' eq'
     refine ⟨rfl, ι', G', st', [w], sr', .cons (rw'.mono ex) .nil, ?_⟩
     have q2 : wpW X ι' st'.nxt G' ((op [w] st').calm.bind fun k st1 => QkQ (Qcq op (ws.drop (ys.length + 1)) (acc ++ [k]) st1) (QcD m ws)) Q := by rw [<-QkP]; exact q'
     cases eo : op [w] st' with
     | stuck => rw [eo] at q2; exact (show False from q2).elim
     | ex c z => rw [eo] at q2; exact (show False from q2).elim
     | ok kk st2 =>
      rw [eo] at q2
      intro v2 ι2 G2 H2 e2 sr2 rel2
      refine hR v2 H2 ⟨by rw [QnO]; exact hltw, ι2, G2, st2, acc ++ [kk], ex.trans e2, sr2, (ra.mono e2).append (.cons rel2 .nil), ?_, ?_⟩
      ·rw [eq', QnO]
       show (op [w] st').calm.bind (fun k st1 => Qcq op (ws.drop (ys.length + 1)) (acc ++ [k]) st1) = _
       rw [eo]; rfl
      ·rw [QnO]
       exact wpW.later e2 q2
    ·obtain ⟨hle, ι', G', st', acc, ex, sr', ra, eq', q'⟩ := hP
     rw [hy, lx, List.drop_length] at q' eq'
     have q2 : wpW X ι' st'.nxt G' (QcD m ws acc st') Q := q'
     unfold QcD at q2
     have la := ra.length
     cases hk : Qed true acc with
     | false => rw [hk] at q2; exact (show False from q2).elim
     | true =>
      have ek : (match Qcq op ws [] st with | .ok ks _ => ks | _ => []) = acc := by rw [eq']; rfl
      rw [ek]
      have h2' : 2<=acc.length := by omega
      have rH := ra.mono sr'.look
      refine ⟨fun y hy' => ?_, fun i j p q hi hj => ?_⟩
      ·obtain ⟨i, hi, ei⟩ := List.getElem_of_mem hy'
       obtain ⟨a, ha, rel⟩ := rH.get' (QnF hi)
       rw [ei] at rel
       obtain ⟨z, zs, z', zs', ea, _, hz⟩ := QhE (QeD hk h2' ha ha)
       rw [if_pos rfl] at hz
       obtain ⟨⟨x, rfl⟩, _⟩ := hz
       subst ea
       cases rel with
       | tup sq cq tq => cases tq with
        | cons h1 t1 => cases h1; exact ⟨_, x, _, rfl, sq⟩
      ·obtain ⟨a, ha, rela⟩ := rH.get' hi
       obtain ⟨b, hb', relb⟩ := rH.get' hj
       exact Qmp (QeD hk h2' ha hb') rela relb
    ·obtain ⟨hle, ι', G', st', acc, ex, sr', ra, eq', q'⟩ := hP
     rw [hy, lx, List.drop_length] at q' eq'
     have q2 : wpW X ι' st'.nxt G' (QcD m ws acc st') Q := q'
     unfold QcD at q2
     have ek : (match Qcq op ws [] st with | .ok ks _ => ks | _ => []) = acc := by rw [eq']; rfl
     rw [ek]
     cases hk : Qed true acc with
     | false => rw [hk] at q2; exact (show False from q2).elim
     | true =>
      rw [hk] at q2
      exact QdC sr' ((t1.mono ex).sorted _) q2 D hD
   ·rw [if_neg h64] at q; exact (show False from q).elim
 ·exact (show False from q).elim
theorem Qkp {m : Bool} {k : Nat} {f : Addr} {fd : FuncData} {pn : Str} {op : OpN} {e : Expr} {g : Str} {p pos kp gp : Pos} {ra : Run} (hh : X.A.units + 80 < cLine) (Fk : FnOk X.prog X.w X.K X.mg X.base CX0 k f fd [pn] (SpD X.K 1 op)) (hr : Room (k + 2) X.A) (hb : Qcs X.K fd [pn] [])
  (hg : Gl X "sorted") (hm : X.mg "sorted" = none) (hg2 : Gl X g) (hm2 : X.mg g = some (.ref f)) (hd : (g == ("__debug__" : Str)) = false) (ha : PD X e ra) (hs : QgC e = true) :
  PD X (.Call (.Name "sorted" p) [e] [⟨some (Str.ofString "key"), .Name g gp, kp⟩] pos) (run1 ra (QcK m op)) := by
 have hs1 : starEach [e] X.env = [(false, eval e X.env)] := by
  cases e <;> first | rfl | exact absurd (show false = true from hs) QnE
 refine PE.imp (QlJ (sortN_w (m := m) hh Fk hr hb) hg hm (QeA ha Qgy hs1) (QlF (QlK hg2 hm2 (v := .ref f) rfl hd) pk_nil) (by rw [hs1]; rfl) (by rw [hs1]; rfl)) fun σ H Q h => ?_
 obtain ⟨ι, G, st, Γ, en, sr, q⟩ := h
 refine ⟨ι, G, st, Γ, en, sr, ?_⟩
 unfold run1 at q
 unfold Qaa Qab
 cases e1 : ra Γ st with
 | stuck => rw [e1] at q; exact q
 | ex c s => rw [e1] at q; exact q
 | ok w st1 =>
  rw [e1] at q
  intro vs ι1 G1 H1 x1 sr1 r1
  obtain ⟨v, rfl, r2⟩ := rel1 r1
  exact ⟨v, .ref f, rfl, rfl, rfl, ι1, G1, st1, w, sr1, r2, wpW.later x1 (show wpW X ι st.nxt G (QcK m op w st1) Q from q)⟩
def Qea (m : Bool) : OpN := fun ws st => match ws with
 | [.lst xs] => if xs.length < 64 then (if Qed false xs then opL m (QaE .non xs (keyB false xs)) st else .stuck) else .stuck
 | _ => .stuck
theorem Qnf {m : Bool} (hu : X.A.units + 80 < cLine) : Qdf X (.builtin "sorted") (Qea m) := by
 intro pins s σ H ι G st xs ws us Q I sr rv t q
 unfold Qea at q
 split at q
 ·rename_i ys
  obtain ⟨v, rfl, r⟩ := rel1 t
  obtain ⟨u, rfl, ru⟩ := rv.one
  cases r with
  | @lst a vs _ s1 t1 =>
   cases (show u = Value.ref a from ru)
   have lx := t1.length
   by_cases h64 : ys.length < 64
   ·rw [if_pos h64] at q
    cases hk : Qed false ys with
    | false => rw [hk] at q; exact (show False from q).elim
    | true =>
     rw [hk, if_pos rfl] at q
     have rH := t1.mono sr.look
     refine sortTP (lt := keyB false ys) hu I (sr.sub.seq s1) (by omega) (fun h2 => ⟨fun x hx => ?_, fun i j p q hi hj => ?_⟩) fun D hD => QdC sr (t1.sorted _) q D hD
     ·obtain ⟨i, hi, ei⟩ := List.getElem_of_mem hx
      obtain ⟨a, ha, rel⟩ := rH.get' (QnF hi)
      rw [ei] at rel
      obtain ⟨z, zs, z', zs', ea, _, hz⟩ := QhE (QeD hk (by omega) ha ha)
      rw [if_neg QnE] at hz
      obtain ⟨⟨k, rfl⟩, _⟩ := hz
      subst ea
      cases rel with
      | tup sq cq tq => cases tq with
       | cons h1 t1 => cases h1 with
        | tup sk ck tk => exact ⟨_, _, _, rfl, sq, _, _, rfl, sk⟩
     ·obtain ⟨a, ha, rela⟩ := rH.get' hi
      obtain ⟨b, hb', relb⟩ := rH.get' hj
      exact Qmp (QeD hk (by omega) ha hb') rela relb
   ·rw [if_neg h64] at q; exact (show False from q).elim
 ·exact (show False from q).elim
end
end DL
namespace DL
open PySem PySem.Spec PyProof.Rows L2
section
variable {X : Cx}
def maxI (n : Int) (ns : List Int) : Int := ns.foldl (fun m x => if x > m then x else m) n
theorem QcS (ns : List Int) : ∀ k, k < ns.length->ns.getD (argBest (fun i j => decide (ns.getD i 0 > ns.getD j 0)) k) 0 = maxI (ns.getD 0 0) ((ns.drop 1).take k)
 | 0, _ => rfl
 | k + 1, h => by
  have ih := QcS ns k (by omega)
  have e : (ns.drop 1).take (k + 1) = (ns.drop 1).take k ++ [ns.getD (k + 1) 0] := by
   rw [List.take_succ]
   congr 1
   rw [List.getElem?_drop, QnQ, show 1 + k = k + 1 by omega, QnF h]
   rfl
  rw [e]
  unfold maxI at ih ⊢
  rw [List.foldl_append, <-ih]
  have eb : argBest (fun i j => decide (ns.getD i 0 > ns.getD j 0)) (k + 1) = if decide (ns.getD (k + 1) 0 > ns.getD (argBest (fun i j => decide (ns.getD i 0 > ns.getD j 0)) k) 0) = true then k + 1 else argBest (fun i j => decide (ns.getD i 0 > ns.getD j 0)) k := rfl
  rw [eb]
  by_cases hb : ns.getD (k + 1) 0 > ns.getD (argBest (fun i j => decide (ns.getD i 0 > ns.getD j 0)) k) 0
  ·rw [if_pos (decide_eq_true hb)]
   show _ = if _ then _ else _
   rw [if_pos hb]
  ·rw [if_neg (by simpa using hb)]
   show _ = if _ then _ else _
   rw [if_neg hb]
theorem Qly {K : PySem.W.Frag} {ι : Nat->Addr} {N : Nat} {G : Hp} : ∀ {ns : List Int} {vs : List V}, RelWs K ι N G vs (ns.map W.int)->vs = ns.map V.int
 | [], _, .nil => rfl
 | n :: ns, _, .cons r t => by cases r; rw [List.map_cons, Qly t]
theorem Qgm : ∀ {ns : List Int} {us : List Value}, Vals (ns.map V.int) us->us.length = ns.length/\∀ (i : Nat) (v : Value), us.toArray[i]? = some v->∃ t, v = .int (ns.getD i 0) t
 | [], _, .nil => ⟨rfl, fun i v h => by simp at h⟩
 | n :: ns, _, @Paired.cons _ _ _ _ u _ us r t => by
  obtain ⟨h1, h2⟩ := Qgm t
  refine ⟨by simp [h1], fun i v h => ?_⟩
  cases i with
  | zero =>
   simp at h; subst h
   obtain ⟨tk, e⟩ := r
   exact ⟨tk, e⟩
  | succ i => exact h2 i v (by simpa using h)
def maxO (d : Option Int) : List Int->Option Int
 | [] => d
 | n :: ns => some (maxI n ns)
theorem max_at {pins : List (Addr × Obj)} {σ : St} {H : Hp} {s : Shared} {a : Addr} {ns : List Int} {d : Int} {t0 : Tok} {Q : Value->Shared->Prop} (hc : X.calm = true) (I : Inv X pins σ H s) (hl : SqL X.K H a (ns.map V.int))
  (k : ∀ t s', Inv X pins σ H s'->Q (.int ((maxO (some d) ns).getD 0) t) s') : wpAny (model X.prog X.w) X.A (call (.builtin "max") [.ref a] [(Str.ofString "default", .int d t0)]) Q X.xe s := by
 obtain ⟨its, rv, pl, _⟩ := I.list hl
 obtain ⟨l1, l2⟩ := Qgm rv
 refine Qnm (bt := fun i j => decide (ns.getD i 0 > ns.getD j 0)) (I.ok.hd hc) pl.isList (CmpOf.ints_gt (fun i => ns.getD i 0) l2) fun v h' tk hv kp => ?_
 have I' : Inv X pins σ H { s with heap := h', toks := tk } := I.kept (t' := tk) kp
 rw [QnK, l1] at hv
 cases ns with
 | nil =>
  rw [if_pos (show ([] : List Int).length = 0 from rfl)] at hv
  rw [hv]; exact k _ _ I'
 | cons n ns =>
  rw [if_neg (by simp)] at hv
  obtain ⟨t, e⟩ := l2 _ _ hv
  rw [QcS (n :: ns) _ (by simp)] at e
  rw [e]
  have e2 : maxI ((n :: ns).getD 0 0) (((n :: ns).drop 1).take ((n :: ns).length - 1)) = maxI n ns := by simp
  rw [e2]
  exact k _ _ I'
theorem max_at1 {pins : List (Addr × Obj)} {σ : St} {H : Hp} {s : Shared} {a : Addr} {n : Int} {ns : List Int} {Q : Value->Shared->Prop} (hc : X.calm = true) (I : Inv X pins σ H s) (hl : SqL X.K H a ((n :: ns).map V.int))
  (k : ∀ t s', Inv X pins σ H s'->Q (.int (maxI n ns) t) s') : wpAny (model X.prog X.w) X.A (call (.builtin "max") [.ref a]) Q X.xe s := by
 obtain ⟨its, rv, pl, _⟩ := I.list hl
 obtain ⟨l1, l2⟩ := Qgm rv
 have hli := pl.isList
 have hlt : a < s.heap.objs.size := by obtain ⟨_, e, _⟩ := hli; exact QnJ e
 refine call_max_walk (wpAny_pyIter_list hli ?_)
 refine ⟨s.heap.objs.size, _, _, _, _, _, fun i j => decide ((n :: ns).getD i 0 > (n :: ns).getD j 0), rfl, Walks.list (A := X.A.in1) (I.ok.hd hc) _ a (QnS hlt) its.toArray, ⟨⟨_, QnR _ rfl, rfl, rfl⟩, hli.push _⟩, fun b hb => ?_, by rw [QnK, l1]; simp, CmpOf.ints_gt (fun i => (n :: ns).getD i 0) l2, fun v h' tk hv kp => ?_⟩
 ·have e1 : (s.heap.push { cls := .type "list_iterator", data := .fields #[.ref a, .int 0 0] }).objs.size = s.heap.objs.size + 1 := Heap.size_push ..
  show b < (s.heap.push { cls := .type "list_iterator", data := .fields #[.ref a, .int 0 0] }).objs.size
  rw [e1]
  simp only [List.mem_cons, List.not_mem_nil, or_false] at hb
  rcases hb with rfl | rfl
  ·exact Nat.lt_succ_self _
  ·exact Nat.lt_succ_of_lt hlt
 ·rw [QnK, l1] at hv
  obtain ⟨t, e⟩ := l2 _ _ hv
  rw [QcS (n :: ns) _ (by simp)] at e
  have e2 : maxI ((n :: ns).getD 0 0) (((n :: ns).drop 1).take ((n :: ns).length - 1)) = maxI n ns := by simp
  rw [e, e2]
  exact k t _ (I.kept (t' := tk) fun b o q => kp b o (fun z => by simp only [List.mem_cons, List.not_mem_nil, or_false] at z; rw [z] at q; exact absurd (QnJ q) (QnY _)) (QnG _ q))
def QeU : OpN := fun ws st => match ws with
 | [w] => (match (Qcp st w).bind Qet with
  | some (n :: ns) => .ok (.int (maxI n ns)) st
  | _ => .stuck)
 | _ => .stuck
def QbZ (d : Int) : W->S->R W := fun w st => match (Qcp st w).bind Qet with
 | some ns => .ok (.int ((maxO (some d) ns).getD 0)) st
 | none => .stuck
theorem Qmz {ι : Nat->Addr} {G H : Hp} {st : S} {v : V} {w : W} {ns : List Int} (sr : SR X.K ι st G H) (r : RelW X.K ι st.nxt G v w) (h : (Qcp st w).bind Qet = some ns) : ∃ a, v = .ref a/\SqL X.K H a (ns.map V.int) := by
 cases e : Qcp st w with
 | none => rw [e] at h; cases h
 | some zs =>
  rw [e] at h
  obtain ⟨a, xs, ea, hq, t⟩ := QbN sr r e
  have := QhI (show Qet zs = some ns from h)
  subst this
  rw [Qly t] at hq
  exact ⟨a, ea, hq⟩
theorem cw_maxL (hc : X.calm = true) : Qdf X (.builtin "max") QeU := by
 intro pins s σ H ι G st xs ws us Q I sr rv t q
 unfold QeU at q
 split at q
 ·rename_i w
  split at q
  ·rename_i n ns e
   obtain ⟨v, rfl, r⟩ := rel1 t
   obtain ⟨u, rfl, ru⟩ := rv.one
   obtain ⟨a, rfl, hq⟩ := Qmz sr r e
   cases (show u = Value.ref a from ru)
   exact max_at1 hc I hq fun tk s' I' => ⟨.int _, H, I', ⟨tk, rfl⟩, q _ ι G H (Ext.refl _ _ _) sr (.int _)⟩
  ·exact (show False from q).elim
 ·exact (show False from q).elim
theorem pd_maxD {e : Expr} {p pos kp vp : Pos} {kd : Nat} {d : Int} {ra : Run} (hc : X.calm = true) (hg : Gl X "max") (hm : X.mg "max" = none) (ha : PD X e ra) (hs : QgC e = true) :
  PD X (.Call (.Name "max" p) [e] [⟨some (Str.ofString "default"), .Constant (.int d) kd vp, kp⟩] pos) (run1 ra (QbZ d)) := by
 have hs1 : starEach [e] X.env = [(false, eval e X.env)] := by
  cases e <;> first | rfl | exact absurd (show false = true from hs) QnE
 intro pins s σ H Q I h
 obtain ⟨ι, G, st, Γ, en, sr, q⟩ := h
 refine wpAny_Call_Name_kw (Qfc I hg hm (show bootBuiltins "max" = some (.builtin "max") by decide +kernel) ?_)
 have pa : PDA X [e] (Qaa ra Qab) := QeA ha Qgy hs1
 have pk : PK X [⟨some (Str.ofString "default"), .Constant (.int d) kd vp, kp⟩] _ := QlF (pe_int (i := d)) pk_nil
 refine PyProof.Rows.callWith_kw (thn (pa pos pins s σ H (fun vs H1 => ∃ v w ι1 G1 st1, vs = [v]/\SR X.K ι1 st1 G1 H1/\RelW X.K ι1 st1.nxt G1 v w/\wpW X ι1 st1.nxt G1 (QbZ d w st1) Q) I ⟨ι, G, st, Γ, en, sr, ?_⟩) fun us s1 ⟨vs, H1, I1, r1, q1⟩ => ?_) (by rw [hs1]; rfl) (by rw [hs1]; rfl) rfl rfl
 ·unfold run1 at q
  unfold Qaa Qab
  cases e1 : ra Γ st with
  | stuck => rw [e1] at q; exact q
  | ex c s => rw [e1] at q; exact q
  | ok w st1 =>
   rw [e1] at q
   intro vs ι1 G1 H1 x1 sr1 r1
   obtain ⟨v, rfl, r2⟩ := rel1 r1
   exact ⟨v, w, ι1, G1, st1, rfl, sr1, r2, wpW.later x1 (show wpW X ι st.nxt G (QbZ d w st1) Q from q)⟩
 ·obtain ⟨v, w, ι1, G1, st1, rfl, sr1, rw1, q2⟩ := q1
  refine thn (pk pos pins s1 σ H1 (fun zs H2 => zs = [.int d]/\H2 = H1) I1 ⟨rfl, rfl⟩) fun ws s2 ⟨zs, H2, I2, rz, hz, e2⟩ => ?_
  subst hz e2
  obtain ⟨u, rfl, ru⟩ := r1.one
  obtain ⟨z, rfl, rz2⟩ := rz.one
  obtain ⟨tz, ez⟩ := (show ∃ t, z = Value.int d t from rz2)
  subst ez
  show wpAny (model X.prog X.w) X.A (call (.builtin "max") [u] [(Str.ofString "default", .int d tz)]) _ _ _
  unfold QbZ at q2
  split at q2
  ·rename_i ns e
   obtain ⟨a, rfl, hq⟩ := Qmz sr1 rw1 e
   cases (show u = Value.ref a from ru)
   exact max_at hc I2 hq fun tk s' I' => ⟨.int _, H2, I', ⟨tk, rfl⟩, q2 _ ι1 G1 H2 (Ext.refl _ _ _) sr1 (.int _)⟩
  ·exact (show False from q2).elim
end
end DL
namespace DL
open PySem PySem.Spec PyProof.Rows L2
section
variable {X : Cx}
theorem SR.holdT {K : PySem.W.Frag} {ι : Nat->Addr} {st : S} {G H : Hp} (sr : SR K ι st G H) {b : Addr} {vs : List V} (hb : H b = some (.tup vs)) : ∃ G', Ext ι st.nxt G ι st.nxt G'/\SR K ι st G' H/\G' b = some (.tup vs) := by
 cases e : G b with
 | some o =>
  have := sr.sub b o e
  rw [hb] at this
  cases this
  exact ⟨G, Ext.refl _ _ _, sr, e⟩
 | none =>
  have sm : Same G (upd G b (.tup vs)) := fun c u q => by rw [Qan (Qar q e)]; exact q
  have ex : Ext ι st.nxt G ι st.nxt (upd G b (.tup vs)) := ⟨QnL _, fun _ _ => rfl, sm⟩
  refine ⟨_, ex, ⟨fun c u q => ?_, fun n o q => ?_, sr.inj⟩, QaA⟩
  ·by_cases hc : c = b
   ·subst hc; rw [QaA] at q; rw [<-q]; exact hb
   ·rw [Qan hc] at q; exact sr.sub c u q
  ·obtain ⟨h1, h2, h3⟩ := sr.live n o q
   have hne : ι n ≠ b := fun z => by
    cases o with
    | lst ws => obtain ⟨xs, q2, _⟩ := h3; rw [z, hb] at q2; cases q2
    | dct ks ws => obtain ⟨xs, q2, _⟩ := h3; rw [z, hb] at q2; cases q2
   refine ⟨h1, by rw [Qan hne]; exact h2, ?_⟩
   cases o with
   | lst ws => obtain ⟨xs, q2, r⟩ := h3; exact ⟨xs, q2, r.mono ex⟩
   | dct ks ws => obtain ⟨xs, q2, l, r⟩ := h3; exact ⟨xs, q2, l, r.mono ex⟩
def keyVW : Key->W
 | .inl i => .int i
 | .inr x => .str x
def keyT (k : List Key) : W := .tup (k.map keyVW)
theorem Qfg {K : PySem.W.Frag} {ι : Nat->Addr} {N : Nat} {G : Hp} : ∀ k : List Key, RelWs K ι N G (k.map kV) (k.map keyVW)
 | [] => .nil
 | .inl i :: k => .cons (.int i) (Qfg k)
 | .inr x :: k => .cons (.str x) (Qfg k)
theorem SR.holdTs {K : PySem.W.Frag} {ι : Nat->Addr} {st : S} {H : Hp} : ∀ {bs : List Addr} {ks : List (List Key)} {G : Hp}, SR K ι st G H->bs.length = ks.length->(∀ (j : Nat) b k, bs[j]? = some b->ks[j]? = some k->H b = some (.tup (k.map kV))) ->
  ∃ G', Ext ι st.nxt G ι st.nxt G'/\SR K ι st G' H/\RelWs K ι st.nxt G' (bs.map V.ref) (ks.map keyT)
 | [], [], G, sr, _, _ => ⟨G, Ext.refl _ _ _, sr, .nil⟩
 | [], _ :: _, _, _, h, _ => by cases h
 | _ :: _, [], _, _, h, _ => by cases h
 | b :: bs, k :: ks, G, sr, hl, h => by
  obtain ⟨G1, e1, s1, g1⟩ := sr.holdT (h 0 b k rfl rfl)
  obtain ⟨G2, e2, s2, r2⟩ := SR.holdTs (bs := bs) (ks := ks) s1 (by simpa using hl) fun j b' k' hb hk => h (j + 1) b' k' (by simpa using hb) (by simpa using hk)
  have g2 := e2.sm _ _ g1
  exact ⟨G2, e1.trans e2, s2, .cons (.tup (.inl (.inl g2)) (fun _ => g2) (Qfg k)) r2⟩
def QbE (m : Bool) : OpN := fun ws st => match ws with
 | [w] => (match Qdt st w with
  | some (ks, _) => opL m (ks.map keyT) st
  | none => QjE m [w] st)
 | _ => .stuck
theorem cw_listD {m : Bool} (hh : X.A.handled = none) : Qdf X (.type "list") (QbE m) := by
 intro pins s σ H ι G st xs ws us Q I sr rv t q
 unfold QbE at q
 split at q
 ·rename_i w
  cases e : Qdt st w with
  | none => rw [e] at q; exact cw_list pins s σ H ι G st xs [w] us Q I sr rv t q
  | some p =>
   obtain ⟨ks, vs⟩ := p
   rw [e] at q
   obtain ⟨v, rfl, r⟩ := rel1 t
   obtain ⟨u, rfl, ru⟩ := rv.one
   obtain ⟨a, ys, rfl, hH, hl, t2⟩ := QcP sr r e
   cases (show u = Value.ref a from ru)
   have lz : (ks.zip ys).length = ks.length := by rw [List.length_zip]; omega
   refine d_list hh I hH fun p bs s' hp hb hk I' => ?_
   obtain ⟨G', ex, sr', rel⟩ := sr.holdTs (bs := bs) (ks := ks) (by rw [hb, lz]) fun j b k hb' hk' => by
    have hj : j < ks.length := (List.getElem?_eq_some_iff.mp hk').1
    have hz : (ks.zip ys)[j]? = some (k, ys[j]'(by omega)) := by
     rw [List.getElem?_zip_eq_some]
     exact ⟨hk', QnF (by omega)⟩
    exact hk j b _ hb' hz
   exact ⟨.ref p, _, I', rfl, QdC sr' rel (wpW.later ex (show wpW X ι st.nxt G (opL m (ks.map keyT) st) Q from q)) p hp⟩
 ·exact (show False from q).elim
end
end DL
namespace DL
open PySem PySem.Spec PyProof.Rows L2
section
variable {X : Cx}
def QdB : List W->Option (List (W × W))
 | [] => some []
 | w :: ws => (match w with
  | .tup [a, b] => (QdB ws).map ((a, b) :: ·)
  | _ => none)
def QiN : W->Option (List (W × W))
 | .lst xs => QdB xs
 | _ => none
theorem QfR : ∀ {ws : List W} {ps : List (W × W)}, QdB ws = some ps->ws = ps.map fun p => .tup [p.1, p.2]
 | [], _, h => by cases h; rfl
 | w :: ws, ps, h => by
  unfold QdB at h
  split at h
  ·cases e : QdB ws with
   | none => rw [e] at h; cases h
   | some r => rw [e] at h; cases h; rw [List.map_cons, QfR e]
  ·cases h
theorem QlB {ι : Nat->Addr} {N : Nat} {G : Hp} {v : V} {w : W} {ps : List (W × W)} (r : RelW X.K ι N G v w) (h : QiN w = some ps) : ∃ a xs, v = .ref a/\SqL X.K G a xs/\RelWs X.K ι N G xs (ps.map fun p => .tup [p.1, p.2]) := by
 cases r with
 | lst s t => have := QfR h; subst this; exact ⟨_, _, rfl, s, t⟩
 | _ => cases h
theorem QlO {ι : Nat->Addr} {N : Nat} {G : Hp} {v : V} {p : W × W} (r : RelW X.K ι N G v (.tup [p.1, p.2])) : ∃ b v1 v2, v = .ref b/\SqT X.K G b [v1, v2]/\RelW X.K ι N G v1 p.1/\RelW X.K ι N G v2 p.2 := by
 cases r with
 | tup s c t =>
  obtain ⟨v1, v2, e, r1, r2⟩ := rel2 t
  subst e
  exact ⟨_, v1, v2, rfl, s, r1, r2⟩
def Qkj (i j : Nat) (r : Run) (body : RunS) : RunS := fun Γ st => (r Γ st).bind fun w st1 => match QiN w with
 | some ps => Qdc i j body ps Γ st1
 | none => .stuck
theorem pds_forP {i j tk : Nat} {x y : Str} {px py pos tp : Pos} {iter : Expr} {body : List Stmt} {r : Run} {rb : RunS} (hp : PassesOwn (model X.prog X.w) X.A X.env X.xe) (hc : X.calm = true)
  (hi : PD X iter r) (h1 : PG X (.Name x px) (Qfl i)) (h2 : PG X (.Name y py) (Qfl j)) (hb : PDSs X body rb) (hs : ∀ z, foldedSetIterable iter X.env z = pure z) :
  PDS X (.For (.Tuple [.Name x px, .Name y py] tk tp) iter body [] pos) (Qkj i j r rb) := by
 refine PS.imp (ps_for hp hc (QlH hi) (pg_tup hc (Qey h1 (Qey h2 QlI))) hb hs) fun D σ H ⟨ι, G, st, Γ, en, sr, q⟩ => ⟨ι, G, st, Γ, en, sr, ?_⟩
 unfold Qkj at q
 cases e1 : r Γ st with
 | stuck => rw [e1] at q; exact q
 | ex c s => rw [e1] at q; exact q
 | ok w st1 =>
  rw [e1] at q
  intro v ι1 G1 H1 x1 sr1 r1
  have q : wpF X ι st.nxt G (match QiN w with
   | some ps => Qdc i j rb ps Γ st1
   | none => .stuck) D := q
  cases ep : QiN w with
  | none => rw [ep] at q; exact (show False from q).elim
  | some ps =>
   rw [ep] at q
   have q1 : wpF X ι1 st1.nxt G1 (Qdc i j rb ps Γ st1) D := wpF.later x1 q
   obtain ⟨a1, us, rfl, sa, ta⟩ := QlB r1 ep
   have la := ta.length
   rw [QnM] at la
   refine ⟨a1, rfl, ⟨us, sr1.sub.seq sa⟩, ?_⟩
   refine ⟨fun k m σ' H' => m = ps.length - k/\k<=ps.length/\∃ ι2 G2 st2 Γ2, Ext ι1 st1.nxt G1 ι2 st2.nxt G2/\SR X.K ι2 st2 G2 H'/\EnvR X.K ι2 st2.nxt G2 σ' Γ2/\wpF X ι2 st2.nxt G2 (Qdc i j rb (ps.drop k) Γ2 st2) D,
    ⟨ps.length, by simp, Nat.zero_le _, ι1, G1, st1, Γ, Ext.refl _ _ _, sr1, en.mono x1, by rw [List.drop_zero]; exact q1⟩, ?_⟩
   rintro k m σ' H' ⟨rfl, hk, ι2, G2, st2, Γ2, e2, sr2, en2, q2⟩
   have sa2 : SqL X.K H' a1 us := sr2.sub.seq (e2.sm.seq sa)
   by_cases hlt : k < ps.length
   ·obtain ⟨xv, hxv, rxv⟩ := (ta.mono e2).get (w := .tup [ps[k].1, ps[k].2]) (by rw [QnT, QnF hlt]; rfl)
    rw [QnZ hlt] at q2
    refine .inr ⟨⟨us, xv, sa2, hxv⟩, fun σ3 H3 => ∃ ι3 G3 st3 Γ3, Ext ι1 st1.nxt G1 ι3 st3.nxt G3/\SR X.K ι3 st3 G3 H3/\EnvR X.K ι3 st3.nxt G3 σ3 Γ3/\wpF X ι3 st3.nxt G3 (Qdc i j rb (ps.drop (k + 1)) Γ3 st3) D,
     fun σ3 H3 h3 => ⟨ps.length - (k + 1), by omega, rfl, hlt, h3⟩, fun v H'' hy => ?_⟩
    obtain ⟨rfl, gx⟩ := hy
    have ex := gx us sa2
    rw [hxv] at ex
    cases ex
    obtain ⟨b, v1, v2, rfl, sq, r1', r2'⟩ := QlO rxv
    refine ⟨b, [v1, v2], rfl, sqT_same sr2.sub sq, rfl, v1, [v2], rfl, v2, [], rfl, rfl, ?_⟩
    refine ⟨ι2, _, st2, (Γ2.set i (some ps[k].1)).set j (some ps[k].2), (en2.set i r1').set j r2', sr2, ?_⟩
    have q3 : wpF X ι2 st2.nxt G2 ((rb ((Γ2.set i (some ps[k].1)).set j (some ps[k].2)) st2).bind fun fl st' => match fl with
     | .nx Γ' => Qdc i j rb (ps.drop (k + 1)) Γ' st'
     | .ct Γ' => Qdc i j rb (ps.drop (k + 1)) Γ' st'
     | .bk Γ' => .ok (.nx Γ') st'
     | .rt w => .ok (.rt w) st') D := q2
    cases e3 : rb ((Γ2.set i (some ps[k].1)).set j (some ps[k].2)) st2 with
    | stuck => rw [e3] at q3; exact q3
    | ex c s => rw [e3] at q3; exact q3
    | ok fl st3 =>
     rw [e3] at q3
     intro ι3 G3 H3 x3 sr3
     cases fl with
     | nx Γ3 => exact fun σ3 en3 => ⟨ι3, G3, st3, Γ3, e2.trans x3, sr3, en3, wpF.later x3 q3⟩
     | ct Γ3 => exact fun σ3 en3 => ⟨ι3, G3, st3, Γ3, e2.trans x3, sr3, en3, wpF.later x3 q3⟩
     | bk Γ3 => exact q3 ι3 G3 H3 x3 sr3
     | rt w => exact q3 ι3 G3 H3 x3 sr3
   ·have ek : k = ps.length := by omega
    subst ek
    rw [List.drop_length] at q2
    exact .inl ⟨⟨us, sa2, by omega⟩, q2 ι2 G2 H' (Ext.refl _ _ _) sr2 σ' en2⟩
def Qbp (rt re : Run) (Γc : Ga) : List (W × W)->List W->S->R (List W)
 | [], acc, st => .ok acc st
 | x :: xs, acc, st => (rt (some x.1 :: some x.2 :: Γc) st).calm.bind fun b st1 => match b with
  | .bl true => (re (some x.1 :: some x.2 :: Γc) st1).calm.bind fun y st2 => Qbp rt re Γc xs (acc ++ [y]) st2
  | .bl false => Qbp rt re Γc xs acc st1
  | _ => .stuck
def QcW (m : Bool) (r : Run) (cap : List Nat) (rt re : Run) : Run := fun Γ st => (r Γ st).bind fun w st1 => match QiN w with
 | some ps => if ps.length < sizeLine then (Qbp rt re (capG cap Γ) ps [] st1).bind (opL m) else .stuck
 | none => .stuck
theorem pd_compP {scope : Scope} {x y : Str} {px py pos tp : Pos} {tk : Nat} {cl : List (Str × Addr)} {N : List Str} {cap : List Nat} {elt iter : Expr} {ifs : List Expr} {r rt re : Run} {m : Bool} (hc : X.calm = true) (hi : PD X iter r) (Sc : CompSc2 X scope x y cl N cap)
  (ht : ∀ C s H ex, PTs (Qao X scope cl C N s H ex) ifs (tT0 X.K rt)) (he : ∀ C s H ex, PE (Qao X scope cl C N s H ex) elt (tD0 X.K re)) (hs : ∀ z, foldedSetIterable iter X.env z = pure z) :
  PD X (.ListComp elt [⟨.Tuple [.Name x px, .Name y py] tk tp, iter, ifs, 0⟩] scope pos) (QcW m r cap rt re) := by
 refine PE.imp (QjB hc (QlH hi) Sc ht he hs) fun σ H Q h => ?_
 obtain ⟨ι, G, st, Γ, en, sr, q⟩ := h
 refine ⟨ι, G, st, Γ, en, sr, ?_⟩
 unfold QcW at q
 cases e1 : r Γ st with
 | stuck => rw [e1] at q; exact q
 | ex c s => rw [e1] at q; exact q
 | ok w st1 =>
  rw [e1] at q
  intro v ι1 G1 H1 x1 sr1 r1
  have q : wpW X ι st.nxt G (match QiN w with
   | some ps => if ps.length < sizeLine then (Qbp rt re (capG cap Γ) ps [] st1).bind (opL m) else .stuck
   | none => .stuck) Q := q
  cases ep : QiN w with
  | none => rw [ep] at q; exact (show False from q).elim
  | some ps =>
   rw [ep] at q
   have q : wpW X ι st.nxt G (if ps.length < sizeLine then (Qbp rt re (capG cap Γ) ps [] st1).bind (opL m) else .stuck) Q := q
   by_cases hl : ps.length < sizeLine
   ·rw [if_pos hl] at q
    have q1 := wpL.later x1 (Qgl q)
    have en1 := en.mono x1
    obtain ⟨a1, us, rfl, sa, ta⟩ := QlB r1 ep
    have la := ta.length
    rw [QnM] at la
    refine ⟨a1, rfl, ⟨us, sr1.sub.seq sa⟩, ?_⟩
    refine ⟨fun i k ys H' => k = ps.length - i/\i<=ps.length/\ys.length<=i/\∃ ι2 G2 st2 acc, Ext ι1 st1.nxt G1 ι2 st2.nxt G2/\SR X.K ι2 st2 G2 H'/\RelWs X.K ι2 st2.nxt G2 ys acc/\wpL X m ι2 st2.nxt G2 (Qbp rt re (capG cap Γ) (ps.drop i) acc st2) Q,
     ⟨ps.length, by simp, Nat.zero_le _, Nat.zero_le _, ι1, G1, st1, [], Ext.refl _ _ _, sr1, .nil, by rw [List.drop_zero]; exact q1⟩, ?_⟩
    rintro i k ys H' ⟨rfl, hi', hy, ι2, G2, st2, acc, e2, sr2, ra, q2⟩
    refine ⟨by omega, ?_⟩
    have sa2 : SqL X.K H' a1 us := sr2.sub.seq (e2.sm.seq sa)
    by_cases hlt : i < ps.length
    ·obtain ⟨xv, hxv, rxv⟩ := (ta.mono e2).get (w := .tup [ps[i].1, ps[i].2]) (by rw [QnT, QnF hlt]; rfl)
     rw [QnZ hlt] at q2
     refine .inr ⟨⟨us, xv, sa2, hxv⟩, fun v H'' hy' => ?_⟩
     obtain ⟨rfl, gx⟩ := hy'
     have ex := gx us sa2
     rw [hxv] at ex
     cases ex
     obtain ⟨b, v1, v2, rfl, sq, r1', r2'⟩ := QlO rxv
     refine ⟨b, v1, v2, rfl, sqT_same sr2.sub sq, ?_⟩
     have q2' : wpL X m ι2 st2.nxt G2 ((rt (some ps[i].1 :: some ps[i].2 :: capG cap Γ) st2).calm.bind fun b st3 => match b with
      | .bl true => (re (some ps[i].1 :: some ps[i].2 :: capG cap Γ) st3).calm.bind fun y st4 => Qbp rt re (capG cap Γ) (ps.drop (i + 1)) (acc ++ [y]) st4
      | .bl false => Qbp rt re (capG cap Γ) (ps.drop (i + 1)) acc st3
      | _ => .stuck) Q := q2
     have en2 := QjV cap (en1.mono e2) r1' r2'
     refine ⟨ι2, G2, st2, some ps[i].1 :: some ps[i].2 :: capG cap Γ, en2, sr2, Qdu rfl q2' fun b st3 vb ι3 G3 H3 e3 sr3 rb q3 => ?_⟩
     cases b with
     | bl b =>
      cases rb
      refine ⟨b, rfl, ?_⟩
      cases b with
      | true =>
       rw [if_pos rfl]
       refine ⟨ι3, G3, st3, some ps[i].1 :: some ps[i].2 :: capG cap Γ, en2.mono e3, sr3, Qdu rfl q3 fun y st4 vy ι4 G4 H4 e4 sr4 ry q4 => ?_⟩
       exact ⟨ps.length - (i + 1), by omega, rfl, hlt, by rw [QnO, QnW]; omega, ι4, G4, st4, acc ++ [y], (e2.trans e3).trans e4, sr4, ((ra.mono e3).mono e4).append (.cons ry .nil), q4⟩
      | false =>
       rw [if_neg QnE]
       exact ⟨ps.length - (i + 1), by omega, rfl, hlt, by omega, ι3, G3, st3, acc, e2.trans e3, sr3, ra.mono e3, q3⟩
     | _ => exact (show False from q3).elim
    ·have ei : i = ps.length := by omega
     subst ei
     rw [List.drop_length] at q2
     exact .inl ⟨⟨us, sa2, by omega⟩, QdC sr2 ra (show wpW X ι2 st2.nxt G2 (opL m acc st2) Q from q2)⟩
   ·rw [if_neg hl] at q; exact (show False from q).elim
def Qcf (w : W) (xs : List W) (st : S) : Prop := match w with
 | .ref n => st.mu n = some (.lst xs)
 | _ => True
noncomputable def Qbw (wa wb : W) (xs ys : List W) (re : Run) (Γc : Ga) : List (W × W)->List W->S->R (List W)
 | [], acc, st => @ite _ (Qcf wa xs st/\Qcf wb ys st) (Classical.propDecidable _) (.ok acc st) .stuck
 | p :: ps, acc, st => @ite _ (Qcf wa xs st/\Qcf wb ys st) (Classical.propDecidable _) ((re (some p.1 :: some p.2 :: Γc) st).calm.bind fun y st2 => Qbw wa wb xs ys re Γc ps (acc ++ [y]) st2) .stuck
def zipS (st : S) (ws : List W) : Option (W × W × List W × List W) := match ws with
 | [a, b] => (match a, b with
  | .tup xs, .tup ys => some (a, b, xs, ys)
  | _, _ => (match Qcp st a, Qcp st b with
   | some xs, some ys => some (a, b, xs, ys)
   | _, _ => none))
 | _ => none
theorem zipS_ok {st : S} {ws : List W} {a b : W} {xs ys : List W} (h : zipS st ws = some (a, b, xs, ys)) : ws = [a, b]/\((a = .tup xs/\b = .tup ys)\/(Qcp st a = some xs/\Qcp st b = some ys)) := by
 unfold zipS at h
 split at h
 ·split at h
  ·cases h; exact ⟨rfl, .inl ⟨rfl, rfl⟩⟩
  ·split at h
   ·rename_i h1 h2; cases h; exact ⟨rfl, .inr ⟨h1, h2⟩⟩
   ·cases h
 ·cases h
theorem QfM {st st2 : S} {w : W} {xs : List W} (h : Qcp st w = some xs) (hs : Qcf w xs st2) : Qcp st2 w = some xs := by
 cases w with
 | ref n => show MO.items (st2.mu n) = some xs; rw [show st2.mu n = some (.lst xs) from hs]; rfl
 | lst _ => exact h
 | _ => cases h
noncomputable def Qby (m : Bool) (rr : Runs) (cap : List Nat) (re : Run) : Run := fun Γ st => (rr Γ st).bind fun ws st1 => match zipS st1 ws with
 | some (a, b, xs, ys) => if (xs.zip ys).length < sizeLine then (Qbw a b xs ys re (capG cap Γ) (xs.zip ys) [] st1).bind (opL m) else .stuck
 | none => .stuck
theorem QfX {a b : W} {xs ys : List W} {re : Run} {cap : List Nat} {Γ : Ga} {σ : St} {ι1 : Nat->Addr} {G1 H1 : Hp} {st1 : S} {m : Bool} {Q : VK} (J : It) (hl : (xs.zip ys).length < sizeLine) (sr1 : SR X.K ι1 st1 G1 H1) (en1 : EnvR X.K ι1 st1.nxt G1 σ Γ)
  (q1 : wpL X m ι1 st1.nxt G1 (Qbw a b xs ys re (capG cap Γ) (xs.zip ys) [] st1) Q)
  (go : ∀ ι2 G2 st2 H' i, Ext ι1 st1.nxt G1 ι2 st2.nxt G2->SR X.K ι2 st2 G2 H'->Qcf a xs st2->Qcf b ys st2->(hx : i < xs.length)->(hy : i < ys.length)->J.go i H'/\∀ v H'', J.yld i H' v H''->∃ p xv yv, v = .ref p/\H' p = none/\H'' = upd H' p (.tup [xv, yv])/\RelW X.K ι2 st2.nxt G2 xv xs[i]/\RelW X.K ι2 st2.nxt G2 yv ys[i])
  (stop : ∀ ι2 G2 st2 H' i, Ext ι1 st1.nxt G1 ι2 st2.nxt G2->SR X.K ι2 st2 G2 H'->Qcf a xs st2->Qcf b ys st2->(xs.length<=i\/ys.length<=i)->J.stop i H') :
  QnD X.K cap tYes (tD0 X.K re) σ (fun ys H2 => ∀ p, H2 p = none->Q (.ref p) (upd H2 p (.lst ys))) J H1 := by
 have lz : (xs.zip ys).length = min xs.length ys.length := List.length_zip
 refine ⟨fun i k us H' => k = (xs.zip ys).length - i/\i<=(xs.zip ys).length/\us.length<=i/\∃ ι2 G2 st2 acc, Ext ι1 st1.nxt G1 ι2 st2.nxt G2/\SR X.K ι2 st2 G2 H'/\RelWs X.K ι2 st2.nxt G2 us acc/\wpL X m ι2 st2.nxt G2 (Qbw a b xs ys re (capG cap Γ) ((xs.zip ys).drop i) acc st2) Q,
  ⟨(xs.zip ys).length, by simp, Nat.zero_le _, Nat.zero_le _, ι1, G1, st1, [], Ext.refl _ _ _, sr1, .nil, by rw [List.drop_zero]; exact q1⟩, ?_⟩
 rintro i k us H' ⟨rfl, hi', hy, ι2, G2, st2, acc, e2, sr2, ra, q2⟩
 refine ⟨by omega, ?_⟩
 have hm : Qcf a xs st2/\Qcf b ys st2 := by
  refine Classical.byContradiction fun hm => ?_
  cases hx : (xs.zip ys).drop i with
  | nil =>
   rw [hx] at q2
   unfold Qbw at q2
   rw [if_neg hm] at q2
   exact q2
  | cons z zs =>
   rw [hx] at q2
   unfold Qbw at q2
   rw [if_neg hm] at q2
   exact q2
 by_cases hlt : i < (xs.zip ys).length
 ·have kx : i < xs.length := by omega
  have ky : i < ys.length := by omega
  have hd : (xs.zip ys).drop i = (xs[i], ys[i]) :: (xs.zip ys).drop (i + 1) := by rw [QnZ hlt, List.getElem_zip]
  rw [hd] at q2
  unfold Qbw at q2
  rw [if_pos hm] at q2
  obtain ⟨g1, g2⟩ := go ι2 G2 st2 H' i e2 sr2 hm.1 hm.2 kx ky
  refine .inr ⟨g1, fun v H'' hy' => ?_⟩
  obtain ⟨pn, xv, yv, rfl, hn, rfl, rxv, ryv⟩ := g2 v H'' hy'
  obtain ⟨sr2', x2⟩ := sr2.laid (o := .tup [xv, yv]) hn
  refine ⟨pn, xv, yv, rfl, .inl (.inl QaA), yes_of ?_⟩
  rw [if_pos rfl]
  have q2' := wpL.later x2 q2
  have en2 := QjV cap ((en1.mono e2).mono x2) (rxv.mono x2) (ryv.mono x2)
  refine ⟨ι2, _, st2, _, en2, sr2', Qdu rfl q2' fun y st4 vy ι4 G4 H4 e4 sr4 ry q4 => ?_⟩
  exact ⟨(xs.zip ys).length - (i + 1), by omega, rfl, hlt, by rw [QnO, QnW]; omega, ι4, G4, st4, acc ++ [y], (e2.trans x2).trans e4, sr4, ((ra.mono x2).mono e4).append (.cons ry .nil), q4⟩
 ·have ei : i = (xs.zip ys).length := by omega
  rw [ei, List.drop_length] at q2
  unfold Qbw at q2
  rw [if_pos hm] at q2
  exact .inl ⟨stop ι2 G2 st2 H' i e2 sr2 hm.1 hm.2 (by omega), QdC sr2 ra (show wpW X ι2 st2.nxt G2 (opL m acc st2) Q from q2)⟩
theorem pd_compZ {scope : Scope} {x y : Str} {px py pos tp p cp : Pos} {tk : Nat} {cl : List (Str × Addr)} {N : List Str} {cap : List Nat} {elt a b : Expr} {rr : Runs} {re : Run} {m : Bool} (hc : X.calm = true)
  (hi : PI X (.Tuple [.Name x px, .Name y py] tk tp) (.Call (.Name "zip" p) [a, b] [] cp) (iZipB X.K (tDA X rr))) (Sc : CompSc2 X scope x y cl N cap) (he : ∀ C s H ex, PE (Qao X scope cl C N s H ex) elt (tD0 X.K re)) :
  PD X (.ListComp elt [⟨.Tuple [.Name x px, .Name y py] tk tp, .Call (.Name "zip" p) [a, b] [] cp, [], 0⟩] scope pos) (Qby m rr cap re) := by
 refine PE.imp (QjB hc hi Sc (fun _ _ _ _ => QlA) he) fun σ H Q h => ?_
 obtain ⟨ι, G, st, Γ, en, sr, q⟩ := h
 refine ⟨ι, G, st, Γ, en, sr, ?_⟩
 unfold Qby at q
 cases e1 : rr Γ st with
 | stuck => rw [e1] at q; exact q
 | ex c s => rw [e1] at q; exact q
 | ok ws st1 =>
  rw [e1] at q
  intro vs ι1 G1 H1 x1 sr1 r1
  have q : wpW X ι st.nxt G (match zipS st1 ws with
   | some (a, b, xs, ys) => if (xs.zip ys).length < sizeLine then (Qbw a b xs ys re (capG cap Γ) (xs.zip ys) [] st1).bind (opL m) else .stuck
   | none => .stuck) Q := q
  cases ez : zipS st1 ws with
  | none => rw [ez] at q; exact (show False from q).elim
  | some z =>
   obtain ⟨wa, wb, xs, ys⟩ := z
   rw [ez] at q
   have q : wpW X ι st.nxt G (if (xs.zip ys).length < sizeLine then (Qbw wa wb xs ys re (capG cap Γ) (xs.zip ys) [] st1).bind (opL m) else .stuck) Q := q
   by_cases hl : (xs.zip ys).length < sizeLine
   ·rw [if_pos hl] at q
    have q1 := wpL.later x1 (Qgl q)
    have en1 := en.mono x1
    obtain ⟨rfl, hz⟩ := zipS_ok ez
    obtain ⟨u, v, rfl, ru, rv⟩ := rel2 r1
    rcases hz with ⟨rfl, rfl⟩ | ⟨ha, hb⟩
    ·cases ru with
     | @tup a1 us _ sa ca ta =>
      cases rv with
      | @tup b1 vs _ sb cb tb =>
       have la := ta.length
       have lb := tb.length
       refine ⟨a1, b1, rfl, .inl ⟨us, vs, sqT_same sr1.sub sa, sqT_same sr1.sub sb, QfX _ hl sr1 en1 q1 (fun ι2 G2 st2 H' i e2 sr2 _ _ hx hy => ?_) fun ι2 G2 st2 H' i e2 sr2 _ _ h => ?_⟩⟩
       ·have sa2 : SqT X.K H' a1 us := sqT_same sr2.sub (sqT_same e2.sm sa)
        have sb2 : SqT X.K H' b1 vs := sqT_same sr2.sub (sqT_same e2.sm sb)
        obtain ⟨xv, hxv, rxv⟩ := (ta.mono e2).get (QnF hx)
        obtain ⟨yv, hyv, ryv⟩ := (tb.mono e2).get (QnF hy)
        refine ⟨⟨us, vs, xv, yv, sa2, sb2, hxv, hyv⟩, fun v H'' hy => ?_⟩
        obtain ⟨pn, xw, yw, rfl, hn, rfl, gx, gy⟩ := hy
        have ex := gx us sa2
        have ey := gy vs sb2
        rw [hxv] at ex
        rw [hyv] at ey
        cases ex
        cases ey
        exact ⟨pn, xv, yv, rfl, hn, rfl, rxv, ryv⟩
       ·exact ⟨us, vs, sqT_same sr2.sub (sqT_same e2.sm sa), sqT_same sr2.sub (sqT_same e2.sm sb), by omega⟩
    ·obtain ⟨a1, us0, eu, sa, ta⟩ := QbN sr1 ru ha
     obtain ⟨b1, vs0, ev, sb, tb⟩ := QbN sr1 rv hb
     subst eu ev
     have at1 : ∀ ι2 G2 st2 H', Ext ι1 st1.nxt G1 ι2 st2.nxt G2->SR X.K ι2 st2 G2 H'->Qcf wa xs st2->∃ us, SqL X.K H' a1 us/\RelWs X.K ι2 st2.nxt G2 us xs := fun ι2 G2 st2 H' e2 sr2 hs => by
      obtain ⟨c1, us, e, h1, h2⟩ := QbN sr2 (ru.mono e2) (QfM ha hs)
      cases e
      exact ⟨us, h1, h2⟩
     have at2 : ∀ ι2 G2 st2 H', Ext ι1 st1.nxt G1 ι2 st2.nxt G2->SR X.K ι2 st2 G2 H'->Qcf wb ys st2->∃ us, SqL X.K H' b1 us/\RelWs X.K ι2 st2.nxt G2 us ys := fun ι2 G2 st2 H' e2 sr2 hs => by
      obtain ⟨c1, us, e, h1, h2⟩ := QbN sr2 (rv.mono e2) (QfM hb hs)
      cases e
      exact ⟨us, h1, h2⟩
     refine ⟨a1, b1, rfl, .inr ⟨us0, vs0, sa, sb, QfX _ hl sr1 en1 q1 (fun ι2 G2 st2 H' i e2 sr2 s1 s2 hx hy => ?_) fun ι2 G2 st2 H' i e2 sr2 s1 s2 h => ?_⟩⟩
     ·obtain ⟨us, sa2, ta2⟩ := at1 ι2 G2 st2 H' e2 sr2 s1
      obtain ⟨vs, sb2, tb2⟩ := at2 ι2 G2 st2 H' e2 sr2 s2
      obtain ⟨xv, hxv, rxv⟩ := ta2.get (QnF hx)
      obtain ⟨yv, hyv, ryv⟩ := tb2.get (QnF hy)
      refine ⟨⟨us, vs, xv, yv, sa2, sb2, hxv, hyv⟩, fun v H'' hy => ?_⟩
      obtain ⟨pn, xw, yw, rfl, hn, rfl, gx, gy⟩ := hy
      have ex := gx us sa2
      have ey := gy vs sb2
      rw [hxv] at ex
      rw [hyv] at ey
      cases ex
      cases ey
      exact ⟨pn, xv, yv, rfl, hn, rfl, rxv, ryv⟩
     ·obtain ⟨us, sa2, ta2⟩ := at1 ι2 G2 st2 H' e2 sr2 s1
      obtain ⟨vs, sb2, tb2⟩ := at2 ι2 G2 st2 H' e2 sr2 s2
      have la := ta2.length
      have lb := tb2.length
      exact ⟨us, vs, sa2, sb2, by omega⟩
   ·rw [if_neg hl] at q; exact (show False from q).elim
end
end DL
namespace DL
open PySem PySem.Spec PyProof.Rows L2
theorem QfG (l : Addr) (items : Array Value) (n : Nat) (b : Addr) (items2 : Array Value) (n2 : Nat) (od2 : Option Addr) (sl2 : Array (Option Value)) (hc0 : ¬(!items.isEmpty && Builtin.List.listTooLong (items.size + items2.size)) = true) (hc1 : items.size<=sizeLine) (hs2 : items.size + items2.size<=sizeLine + 1) :
  Meets (Builtin.«list.extend» ⟨[.ref l, .ref b], []⟩) (fun _ R s => s.heap.get? l = some { cls := .type "list", dict := none, data := .seq items n, slots := #[] }/\s.heap.get? b = some { cls := .type "tuple", dict := od2, data := .seq items2 n2, slots := sl2 } /\
   R (.ok (.ret Value.none)) { s with heap := s.heap.update l (Obj.mapSeq fun x => x ++ items2), toks := s.toks }) :=
 .of_wp fun prog w A R s h => by
  obtain ⟨hp, g, d, tk, os⟩ := s; obtain ⟨hl, hb, h⟩ := h; have f1 := AutoSeq1.idx_int; have f2 := AutoSeq1.sub_tuple_tuple; have f3 := AutoSeq1.sub_list_list; have f4 := AutoSeq1.sub_tuple_list; have f5 := AutoSeq1.sub_list_tuple
  have hz' : (items ++ items2).size<=sizeLine + 1 := by rw [Array.size_append]; exact hs2
  wp_walk using (wpAny_updateSeq hl rfl (hz := hc1) (_hz' := hz')), AutoSeq1.wpAny_loadPart' hl, AutoSeq1.wpAny_loadPart' hb
  exact ⟨_, rfl, h⟩
section
variable {X : Cx}
def QjP (n : Nat) (zs : List W) (st : S) : R W := match st.mu n with
 | some (.lst xs) => if xs.length + zs.length<=sizeLine then .ok .non (st.put n (.lst (xs ++ zs))) else .stuck
 | _ => .stuck
def QeX : OpM := fun w ws st => match w, ws with
 | .ref n, [.tup zs] => QjP n zs st
 | _, _ => .stuck
theorem mw_extT : MtR X "list.extend" (rMt X QeX) := by
 intro pins s σ H x xs v us Q I rx rv ⟨ι, G, st, w, ws, sr, r, t, q⟩
 unfold QeX at q
 split at q
 ·rename_i n zs
  cases t with
  | @cons x1 _ xs1 _ r1 t1 =>
   cases t1
   cases r with
   | ref hn =>
    unfold QjP at q
    cases e : st.mu n with
    | none => rw [e] at q; exact (show False from q).elim
    | some o =>
     cases o with
     | dct ks zs => rw [e] at q; exact (show False from q).elim
     | lst ys =>
      rw [e] at q
      have q : wpW X ι st.nxt G (if ys.length + zs.length<=sizeLine then .ok .non (st.put n (.lst (ys ++ zs))) else .stuck) Q := q
      by_cases hl : ys.length + zs.length<=sizeLine
      ·rw [if_pos hl] at q
       obtain ⟨_, _, xs2, hH, t2⟩ := sr.live n _ e
       cases r1 with
       | @tup b xs3 _ sq cq t3 =>
        cases (show v = Value.ref (ι n) from rx)
        obtain ⟨u, rfl, ru⟩ := rv.one
        cases (show u = Value.ref b from ru)
        obtain ⟨z, its, m, tv, hlen, ho⟩ := I.lstM hH
        obtain ⟨its2, tv2, pl, hz2⟩ := I.tuple (sqT_same sr.sub sq)
        obtain ⟨⟨oc, od, odt, osl⟩, ho2, hc, m2, hd⟩ := (show s.heap.IsTuple b its2.toArray from pl)
        dsimp only at hc hd
        subst hc hd
        have l1 : its.length = ys.length := by rw [<-tv.length, t2.length]
        have l2 : its2.length = zs.length := by rw [<-tv2.length, t3.length]
        have hsz : its.toArray.size + its2.toArray.size<=sizeLine := by rw [QnK, QnK]; omega
        have hlong : ¬ (!its.toArray.isEmpty && Builtin.List.listTooLong (its.toArray.size + its2.toArray.size)) = true := by
         rw [QjF hsz, Bool.and_false]
         exact QnE
        refine call_meets F.slot_list_extend ⟨_, ho, rfl⟩ F.entry_list_extend (F.args_list_extend_2 _ _) (QfG (ι n) its.toArray m b its2.toArray m2 od osl hlong (by omega) (by omega)) ⟨ho, ho2, ?_⟩
        refine ⟨.non, _, I.lset (its' := its ++ its2) hH ho (by simp) (tv.append tv2) ?_, rfl, ?_⟩
        ·rw [QnO, t2.length, t3.length]; exact hl
        ·exact q .non ι G _ (Ext.refl _ _ _) (sr.putL e (t2.append t3)) .non
      ·rw [if_neg hl] at q; exact q.elim
 ·exact (show False from q).elim
theorem mth_extT : Mth X "extend" "list" "list.extend" QeX := ⟨.inr (.inl rfl), F.plainAttrs_list, F.slot_list_extend, F.type_list_extend, mw_extT⟩
end
end DL
namespace DL
open PySem PySem.Spec PyProof.Rows L2
section
variable {X : Cx}
theorem Qmn (K : PySem.W.Frag) : ∀ k ∈ kinds, ∀ T ∈ kinds, PySem.W.kitOne K (.type k) (.type T) = some (QdI k T) := by
 intro k hk T hT
 simp only [kinds, List.mem_cons, List.not_mem_nil, or_false] at hk hT
 rcases hk with rfl | rfl | rfl | rfl | rfl | rfl | rfl <;> rcases hT with rfl | rfl | rfl | rfl | rfl | rfl | rfl <;> with_unfolding_all rfl
theorem cw_isi : Qdf X (.builtin "isinstance") Qax := by
 intro pins s σ H ι G st xs ws us Q I sr rv t q
 unfold Qax at q
 split at q
 ·rename_i w T
  by_cases hT : kinds.contains T = true
  ·rw [if_pos hT] at q
   have hT' : T ∈ kinds := by simpa using hT
   obtain ⟨v, v', rfl, r, r'⟩ := rel2 t
   cases r'
   cases rv with
   | cons ru rv =>
    cases rv with
    | cons rc rv =>
     cases rv
     rename_i u c
     cases (show c = Value.type T from rc)
     cases hk : Qdd st w with
     | none => rw [hk] at q; exact (show False from q).elim
     | some k =>
      rw [hk] at q
      have fin : ∀ tk, EP X pins σ Q (.bool (QdI k T)) { s with toks := tk } := fun tk => ⟨.bl (QdI k T), H, I.tok tk, rfl, q _ ι G H (Ext.refl _ _ _) sr (.bl _)⟩
      have kk : k ∈ kinds->PySem.W.kitOne X.K (.type k) (.type T) = some (QdI k T) := fun h => Qmn X.K k h T hT'
      cases r with
      | non => cases hk; cases (show u = Value.none from ru); exact PySem.W.kia_one PySem.W.kitx_none I.kIn True.intro (kk (by decide)) (fun z => nomatch z) fin
      | bl b => cases hk; cases (show u = Value.bool b from ru); exact PySem.W.kia_one PySem.W.kitx_bool I.kIn True.intro (kk (by decide)) (fun z => nomatch z) fin
      | int i => cases hk; obtain ⟨tk, e⟩ := (show ∃ t, u = Value.int i t from ru); cases e; exact PySem.W.kia_one PySem.W.kitx_int I.kIn True.intro (kk (by decide)) (fun z => nomatch z) fin
      | str x => cases hk; obtain ⟨tk, e⟩ := (show ∃ t, u = Value.str x t from ru); cases e; exact PySem.W.kia_one PySem.W.kitx_str I.kIn True.intro (kk (by decide)) (fun z => nomatch z) fin
      | @tup a xs _ s1 c1 t1 =>
       cases hk
       cases (show u = Value.ref a from ru)
       obtain ⟨its, _, pl, _⟩ := I.tuple (sqT_same sr.sub s1)
       obtain ⟨o, h1, h2, _⟩ := pl
       exact PySem.W.kia_one PySem.W.kitx_tuple I.kIn ⟨o, h1, h2⟩ (kk (by decide)) (fun z => nomatch z) fin
      | @lst a xs _ s1 t1 =>
       cases hk
       cases (show u = Value.ref a from ru)
       obtain ⟨its, _, pl, _⟩ := I.list (sr.sub.seq s1)
       obtain ⟨o, n, h1, h2, _⟩ := pl
       exact PySem.W.kia_one PySem.W.kitx_list I.kIn ⟨o, h1, h2⟩ (kk (by decide)) (fun z => nomatch z) fin
      | @dct a xs ks _ s1 l1 t1 =>
       cases hk
       cases (show u = Value.ref a from ru)
       obtain ⟨_, _, vs, _, p⟩ := (show Qbr X.prog X.w H s.heap a (dKo (ks.zip xs)) from I.hok a _ (sr.sub _ _ s1))
       obtain ⟨o, es, ep, h1, h2, _⟩ := p
       exact PySem.W.kia_one PySem.W.kitx_dict I.kIn ⟨o, h1, h2.1⟩ (kk (by decide)) (fun z => nomatch z) fin
      | ty n => cases hk
      | exn s1 s2 => cases hk
      | ref hn =>
       rename_i n
       cases (show u = Value.ref (ι n) from ru)
       have hk : MO.kind (st.mu n) = some k := hk
       cases e : st.mu n with
       | none => rw [e] at hk; cases hk
       | some o =>
        rw [e] at hk
        obtain ⟨_, _, h3⟩ := sr.live n o e
        cases o with
        | lst zs =>
         cases hk
         obtain ⟨vs, qv, _⟩ := h3
         obtain ⟨its, _, pl, _⟩ := I.list (SqL.of qv)
         obtain ⟨o, n, h1, h2, _⟩ := pl
         exact PySem.W.kia_one PySem.W.kitx_list I.kIn ⟨o, h1, h2⟩ (kk (by decide)) (fun z => nomatch z) fin
        | dct ks zs =>
         cases hk
         obtain ⟨xs, qv, _, _⟩ := h3
         obtain ⟨_, _, vs, _, p⟩ := (show Qbr X.prog X.w H s.heap _ (dKo (ks.zip xs)) from I.hok _ _ qv)
         obtain ⟨o, es, ep, h1, h2, _⟩ := p
         exact PySem.W.kia_one PySem.W.kitx_dict I.kIn ⟨o, h1, h2.1⟩ (kk (by decide)) (fun z => nomatch z) fin
  ·rw [if_neg hT] at q; exact (show False from q).elim
 ·exact (show False from q).elim
end
inductive GV where
 | con (w : W)
 | fn (n : Nat) (op : OpN)
 | blt
 | fx (n : Nat) (b : Bool) (op : OpN)
 | exc (own : Bool) (tab : List (Str × Bool))
 | dcon (ks : List DKey) (ws : List W)
structure FC where
 N : List Str
 sc : Scope
 gl : List (Str × GV)
 mts : List (Nat × Nat)
 cm : Bool
 cx : Bool
def FC.isMut (c : FC) (p : Pos) : Bool := c.mts.any fun q => q.1 == p.line && q.2 == p.col
structure ExcOk (K : PySem.W.Frag) (mg : Str->Option Value) (y : Str) (own : Bool) (tab : List (Str × Bool)) (cv : Value) (vc : V) : Prop where
 rel : RelV vc cv
 un : ∀ u, RelV vc u->u = cv
 glob : own = true->mg y = some cv/\∃ C, cv = .ref C/\ExCls K y C
 blt : own = false->mg y = none/\bootBuiltins y = some cv
 tab : ∀ x b, tab.lookup x = some b->∃ C, PySem.W.nsIn K mainGlobals x = some (some (.ref C))/\ExAt K C/\PySem.W.kitOne K (.ref C) cv = some b/\PySem.W.exmOne K (.ref C) cv = some b
structure XOK (c : FC) (X : Cx) : Prop where
 N : X.N = c.N
 nd : c.N.Nodup
 sc : X.env.scope = c.sc
 calm : c.cm = true->X.calm = true
 hnd : c.cm = true->X.A.handled = none
 units : X.A.units + 80 < cLine
 cells : ∀ y, (c.sc.names.lookup y = some .cell\/c.sc.names.lookup y = some .free)->(X.env.cells.lookup y).isSome = true
 con : ∀ x w, c.gl.lookup x = some (.con w)->∃ u v, X.mg x = some u/\RelV v u/\∀ ι N G, RelW X.K ι N G v w
 fn : c.cm = true->∀ x n op, c.gl.lookup x = some (.fn n op)->∃ k f fd ps, FnOk X.prog X.w X.K X.mg X.base CX0 k f fd ps (SpD X.K n op)/\Room (k + 2) X.A/\X.mg x = some (.ref f)/\PySem.W.keepIn X.K (.ref f) = true/\Qcs X.K fd ps []/\ps.length = n
 blt : ∀ x, c.gl.lookup x = some .blt->X.mg x = none
 fx : ∀ x n b op, c.gl.lookup x = some (.fx n b op)->∃ k f fd ps, FnX b X.prog X.w X.K X.mg X.base k f fd ps (SpX X.K n op)/\RoomB false (k + 2) X.A/\X.mg x = some (.ref f)/\PySem.W.keepIn X.K (.ref f) = true/\Qcs X.K fd ps []/\ps.length = n
 exc : ∀ y own tab, c.gl.lookup y = some (.exc own tab)->∃ cv vc, ExcOk X.K X.mg y own tab cv vc
 own : c.cx = true->OwnFr X
 dcon : ∀ x ks ws, c.gl.lookup x = some (.dcon ks ws)->KDs X.prog X.w X.K X.mg x ks ws
theorem XOK.gl {c : FC} {X : Cx} (h : XOK c X) {x : Str} (e : c.sc.names.lookup x = some .globalImplicit) : Gl X x := by
 show X.env.scope.names.lookup x = _
 rw [h.sc]; exact e
def dbg (x : Str) : Bool := (x == ("__debug__" : Str)) || (x == ("__classdict__" : Str)) || (x == ("__name__" : Str))
theorem dbg1 {x : Str} (h : dbg x = false) : (x == ("__debug__" : Str)) = false := by unfold dbg at h; simp only [Bool.or_eq_false_iff] at h; exact h.1.1
theorem dbg2 {x : Str} (h : dbg x = false) : (x == ("__classdict__" : Str)) = false := by unfold dbg at h; simp only [Bool.or_eq_false_iff] at h; exact h.1.2
theorem dbg3 {x : Str} (h : dbg x = false) : x ≠ "__name__" := by
 unfold dbg at h; simp only [Bool.or_eq_false_iff] at h
 intro e; rw [e] at h; simp at h
def slot (N : List Str) (x : Str) : Option Nat := match N with
 | [] => none
 | y :: ys => if y == x then some 0 else (slot ys x).map (· + 1)
theorem Qex {N : List Str} {x : Str} {i : Nat} (h : slot N x = some i) : N[i]? = some x := by
 induction N generalizing i with
 | nil => cases h
 | cons y ys ih =>
  unfold slot at h
  by_cases hy : (y == x) = true
  ·rw [if_pos hy] at h
   cases h
   have : y = x := by simpa using hy
   rw [this]; rfl
  ·rw [if_neg hy] at h
   cases e : slot ys x with
   | none => rw [e] at h; cases h
   | some j => rw [e] at h; cases h; rw [List.getElem?_cons_succ]; exact ih e
def binD : Operator->Option Op2
 | .Add => some Qau
 | .Sub => some QeT
 | .Mult => some Qbf
 | .FloorDiv => some Qay
 | .Mod => some Qap
 | _ => none
def cmpD : CmpOp->Option Op2
 | .Eq => some opEq
 | .NotEq => some opNe
 | .Lt => some opLt
 | .LtE => some opLe
 | .Gt => some opGt
 | .In => some opIn
 | .NotIn => some Qdo
 | _ => none
def tyD (x : Str) : Option String := if x == ("str" : Str) then some "str" else if x == ("int" : Str) then some "int" else if x == ("bool" : Str) then some "bool" else if x == ("tuple" : Str) then some "tuple" else if x == ("list" : Str) then some "list" else if x == ("dict" : Str) then some "dict" else none
theorem tyD_boot {x : Str} {T : String} (h : tyD x = some T) : bootBuiltins x = some (.type T) := by
 unfold tyD at h
 repeat' split at h
 all_goals first
  | (cases h; rename_i e; have e' := eq_of_beq e; subst e'; decide +kernel)
  | cases h
def bltD (m : Bool) (x : Str) : Option (Value × OpN) :=
 if x == ("len" : Str) then some (.builtin "len", QaX)
 else if x == ("all" : Str) then some (.builtin "all", QgA)
 else if x == ("max" : Str) then some (.builtin "max", QeU)
 else if x == ("sorted" : Str) then some (.builtin "sorted", Qea m)
 else if x == ("isinstance" : Str) then some (.builtin "isinstance", Qax)
 else none
def QiE (m : Bool) (x : Str) : Option (String × OpN) :=
 if x == ("tuple" : Str) then some ("tuple", Qbn)
 else if x == ("list" : Str) then some ("list", QbE m)
 else if x == ("int" : Str) then some ("int", QlT)
 else if x == ("str" : Str) then some ("str", Qkt)
 else none
def QbU : Expr->Bool
 | .Starred _ _ => false
 | _ => true
theorem Qbi {e : Expr} {es : List Expr} {env : Env} (h : QbU e = true) : starEach (e :: es) env = (false, eval e env) :: starEach es env := by
 cases e <;> first | rfl | exact absurd (show false = true from h) QnE
theorem Qdw {es : List Expr} {env : Env} {pos : Pos} (h : es.all QbU = true) : (backTo pos (starEach es env)).any (·.1) = false := by
 induction es with
 | nil => rfl
 | cons e es ih =>
  rw [List.all_cons, QnX] at h
  rw [Qbi h.1]
  show ((false : Bool) || (backTo pos (starEach es env)).any (·.1)) = false
  rw [ih h.2]; rfl
theorem star_few {e : Expr} {es : List Expr} {env : Env} {pos : Pos} (h : (e :: es).all QbU = true) (hl : (e :: es).length < 30) :
  ((backTo pos (starEach (e :: es) env)).all (fun x => !x.1) && (backToKw pos (keywordEach [] env)).all (fun x => x.1.isSome) && decide ((e :: es).length + ([] : List Keyword).length + (if ([] : List Keyword).isEmpty then 0 else 1) < 30)) = true := by
 have h1 : (backTo pos (starEach (e :: es) env)).all (fun x => !x.1) = true := by
  rw [<-List.not_any_eq_all_not, Qdw h]; rfl
 have h2 : (backToKw pos (keywordEach [] env)).all (fun x => x.1.isSome) = true := rfl
 have h3 : decide ((e :: es).length + ([] : List Keyword).length + (if ([] : List Keyword).isEmpty then 0 else 1) < 30) = true := decide_eq_true (by simpa using hl)
 rw [h1, h2, h3]; rfl
def mthD (m : Str) : Option (String × OpM) :=
 if m == ("append" : Str) then some ("list", QaV)
 else if m == ("join" : Str) then some ("str", QeV)
 else if m == ("index" : Str) then some ("list", QbH)
 else if m == ("extend" : Str) then some ("list", QeX)
 else if m == ("get" : Str) then some ("dict", Qgz)
 else none
theorem mthD_ok {X : Cx} {m : Str} {T : String} {op : OpM} (hu : X.A.units + 64 < cLine) (h : mthD m = some (T, op)) : ∃ id, Mth X m T id op := by
 unfold mthD at h
 repeat' split at h
 all_goals first
  | (cases h; done)
  | (cases h; rename_i e; have e' := eq_of_beq e; subst e'; first
   | exact ⟨_, Qkv⟩
   | exact ⟨_, mth_join⟩
   | exact ⟨_, Qku hu⟩
   | exact ⟨_, mth_extT⟩
   | exact ⟨_, mth_get (by omega)⟩
   )
def Qcu : Expr->Bool
 | .Slice _ _ _ _ => false
 | _ => true
theorem Qhy {e : Expr} (h : Qcu e = true) : NoSl e := by
 intro ov iv
 cases e <;> first | rfl | exact absurd (show false = true from h) QnE
theorem Qkl {e : Expr} (h : Qcu e = true) : Qjo e := by
 intro o i
 cases e <;> first | rfl | exact absurd (show false = true from h) QnE
def QiO : Expr->Bool
 | .Set _ _ _ => false
 | _ => true
theorem Qei {e : Expr} {op : CmpOp} (h : QiO e = true) : behindInMarks op e = false := by
 cases e <;> first | rfl | exact absurd (show false = true from h) QnE
theorem Qda {e : Expr} {env : Env} (h : QiO e = true) : ∀ z, foldedSetIterable e env z = pure z := by
 intro z
 cases e <;> first | rfl | exact absurd (show false = true from h) QnE
def QlE : Expr->Bool
 | .UnaryOp .Not _ _ => false
 | .BoolOp _ _ _ => false
 | .IfExp _ _ _ _ => false
 | .Compare _ _ _ _ => false
 | _ => true
theorem QlD {e : Expr} {env : Env} (h : QlE e = true) : ∀ whole, isTrue e env whole = (do let v <-whole; standAt e.pos; holding [v] (truthy v)) := by
 intro whole
 cases e with
 | UnaryOp op a p => cases op <;> first | rfl | exact absurd (show false = true from h) QnE
 | BoolOp _ _ _ => exact absurd (show false = true from h) QnE
 | IfExp _ _ _ _ => exact absurd (show false = true from h) QnE
 | Compare _ _ _ _ => exact absurd (show false = true from h) QnE
 | _ => rfl
def QaY (scope sc : Scope) : Scope := { scope with names := scope.names.map fun (n, k) => if (k == .free && sc.kind == .function && sc.names.lookup n == some .cell) then (n, .cell) else (n, k) }
def QaC (scope : Scope) : List Str := (scope.names.filter fun p => p.2 == .free).map (·.1)
def slots (N : List Str) : List Str->Option (List Nat)
 | [] => some []
 | y :: ys => match slot N y, slots N ys with
  | some i, some r => some (i :: r)
  | _, _ => none
def Qid (scope sc : Scope) (x : Str) : Bool :=
 scope.names.all (fun y => y.2 != .cell) && scope.names.all (fun y => y.2 != .free || (sc.names.lookup y.1 == some .cell || sc.names.lookup y.1 == some .free)) && (scope.kind == .function) &&
 scope.names.all (fun y => y.2 != .local || scope.names.lookup y.1 == some .local) && (scope.names.lookup x == some .local) && (QaC scope).all (fun y => scope.names.lookup y == some .free) && decide ((x :: QaC scope).Nodup)
theorem Qhp {N : List Str} : ∀ {ys : List Str} {js : List Nat}, slots N ys = some js->ys.length = js.length/\∀ (k j : Nat), js[k]? = some j->ys[k]? = N[j]?
 | [], js, h => by cases h; exact ⟨rfl, fun k j e => by simp at e⟩
 | y :: ys, js, h => by
  unfold slots at h
  cases e1 : slot N y with
  | none => rw [e1] at h; cases h
  | some i =>
   cases e2 : slots N ys with
   | none => rw [e1, e2] at h; cases h
   | some r =>
    rw [e1, e2] at h
    cases h
    obtain ⟨h1, h2⟩ := Qhp e2
    refine ⟨by simp [h1], fun k j e => ?_⟩
    cases k with
    | zero => simp at e; subst e; rw [Qex e1]; rfl
    | succ k => exact h2 k j (by simpa using e)
theorem Qjl {c : FC} {X : Cx} (h : XOK c X) {scope : Scope} {x : Str} {cap : List Nat} (hk : Qid scope c.sc x = true) (hc : slots c.N (QaC scope) = some cap) :
  CompSc X scope x (clOf X.env scope.names []) (x :: QaC scope) cap := by
 unfold Qid at hk
 simp only [QnX, List.all_eq_true, decide_eq_true_eq, beq_iff_eq] at hk
 obtain ⟨⟨⟨⟨⟨⟨h1, h2⟩, h3⟩, h4⟩, h5⟩, h6⟩, h7⟩ := hk
 have g1 : ∀ y ∈ scope.names, y.2 ≠ .cell := fun y hy e => by have := h1 y hy; rw [e] at this; cases this
 have g2 : ∀ y ∈ scope.names, y.2 = .free->c.sc.names.lookup y.1 = some .cell\/c.sc.names.lookup y.1 = some .free := fun y hy e => by
  have := h2 y hy
  rw [e] at this
  simpa using this
 have g4 : ∀ y ∈ scope.names, y.2 = .local->scope.names.lookup y.1 = some .local := fun y hy e => by
  have := h4 y hy
  rw [e] at this
  simpa using this
 have cells : ∀ y ∈ scope.names, y.2 = .free->(X.env.cells.lookup y.1).isSome = true := fun y hy e => h.cells y.1 (g2 y hy e)
 obtain ⟨sl1, sl2⟩ := Qhp hc
 have fr : ∀ (k : Nat) (y : Str), (x :: QaC scope)[k + 1]? = some y->scope.names.lookup y = some .free := fun k y e => by
  have e' : (QaC scope)[k]? = some y := by simpa using e
  exact h6 y (List.mem_of_getElem? e')
 have rl : ∀ (l : List (Str × NameKind)) (y : Str), l.lookup y = some .free ->
   (l.map fun (n, k) => if (k == NameKind.free && X.env.scope.kind == .function && X.env.kindOf n == some .cell) then (n, NameKind.cell) else (n, k)).lookup y = some .cell ∨
   (l.map fun (n, k) => if (k == NameKind.free && X.env.scope.kind == .function && X.env.kindOf n == some .cell) then (n, NameKind.cell) else (n, k)).lookup y = some .free := by
  intro l y
  induction l with
  | nil => intro h; simp at h
  | cons p r ih =>
   intro hl
   obtain ⟨n, k'⟩ := p
   rw [List.lookup_cons] at hl
   rw [List.map_cons]
   cases hy : y == n with
   | true =>
    rw [hy] at hl
    cases hl
    dsimp only
    split
    ·left; rw [List.lookup_cons, hy]
    ·right; rw [List.lookup_cons, hy]
   | false =>
    rw [hy] at hl
    dsimp only
    split
    ·rw [List.lookup_cons, hy]; exact ih hl
    ·rw [List.lookup_cons, hy]; exact ih hl
 refine ⟨clos_eq cells, g1, h3, g4, h5, h7, rfl, by rw [QnU, sl1], fun k j e => ?_, fun k y e => ?_, fun k y e => rl scope.names y (fr k y e), QgZ X.env scope.names [] cells (fun y c h => by simp at h), fun y hy => ?_⟩
 ·rw [List.getElem?_cons_succ, h.N]; exact sl2 k j e
 ·have m := PySem.mem_of_lookup (fr k y e)
  have := g2 _ m rfl
  show X.env.scope.names.lookup y = _\/X.env.scope.names.lookup y = _
  rw [h.sc]; exact this
 ·refine Qha X.env scope.names [] y (.inr ?_)
  rcases hy with hy | hy
  ·rcases relabel_mem hy with m | m
   ·exact absurd rfl (g1 _ m)
   ·exact m
  ·rcases relabel_mem hy with m | m
   ·exact m
   ·exact m
theorem QjT {c : FC} {X : Cx} (h : XOK c X) {scope : Scope} {x : Str} {cap : List Nat} (hk : Qid scope c.sc x = true) (hc : slots c.N (QaC scope) = some cap) (C : Addr) (s : Shared) (H : Hp) (ex : List Addr) :
  XOK { c with N := x :: QaC scope, sc := QaY scope c.sc, cx := false } (Qao X scope (clOf X.env scope.names []) C (x :: QaC scope) s H ex) := by
 have Sc := Qjl h hk hc
 have es : (Qao X scope (clOf X.env scope.names []) C (x :: QaC scope) s H ex).env.scope = QaY scope c.sc := by
  show relabel scope X.env = _
  unfold relabel QaY
  rw [<-h.sc]; rfl
 refine ⟨rfl, Sc.nd, es, h.calm, h.hnd, h.units, fun y hy => ?_, h.con, h.fn, h.blt, h.fx, h.exc, (fun z => Bool.noConfusion z), h.dcon⟩
 obtain ⟨cc, hcc⟩ := Sc.has y (by
  have e2 : relabel scope X.env = QaY scope c.sc := es
  rw [e2]; exact hy)
 show ((clOf X.env scope.names []).lookup y).isSome = true
 rw [hcc]; rfl
def twoN : List Expr->Option (Str × Pos × Str × Pos)
 | [.Name x p, .Name y q] => some (x, p, y, q)
 | _ => none
theorem Qld {es : List Expr} {x y : Str} {p q : Pos} (h : twoN es = some (x, p, y, q)) : es = [.Name x p, .Name y q] := by
 unfold twoN at h
 split at h
 ·cases h; rfl
 ·cases h
def QgY (scope sc : Scope) (x y : Str) : Bool := Qid scope sc x && (scope.names.lookup y == some .local) && decide ((x :: y :: QaC scope).Nodup)
theorem QgX {c : FC} {X : Cx} (h : XOK c X) {scope : Scope} {x y : Str} {cap : List Nat} (hk : QgY scope c.sc x y = true) (hc : slots c.N (QaC scope) = some cap) :
  CompSc2 X scope x y (clOf X.env scope.names []) (x :: y :: QaC scope) cap := by
 unfold QgY at hk
 simp only [QnX, decide_eq_true_eq, beq_iff_eq] at hk
 obtain ⟨⟨h1, h2⟩, h3⟩ := hk
 have S := Qjl h h1 hc
 have e : ∀ k : Nat, (x :: y :: QaC scope)[k + 2]? = (x :: QaC scope)[k + 1]? := fun k => by simp
 exact ⟨S.clos, S.cell, S.kind, S.names, S.loc, h2, h3, rfl, rfl, by have := S.len; simp only [QnU] at this ⊢; omega, fun k j q => by rw [e]; exact S.capN k j q, fun k z q => S.out k z (by rw [<-e]; exact q), fun k z q => S.inn k z (by rw [<-e]; exact q), S.sub, S.has⟩
theorem Qfr {c : FC} {X : Cx} (h : XOK c X) {scope : Scope} {x y : Str} {cap : List Nat} (hk : QgY scope c.sc x y = true) (hc : slots c.N (QaC scope) = some cap) (C : Addr) (s : Shared) (H : Hp) (ex : List Addr) :
  XOK { c with N := x :: y :: QaC scope, sc := QaY scope c.sc, cx := false } (Qao X scope (clOf X.env scope.names []) C (x :: y :: QaC scope) s H ex) := by
 have Sc := QgX h hk hc
 have es : relabel scope X.env = QaY scope c.sc := by
  unfold relabel QaY
  rw [<-h.sc]; rfl
 refine ⟨rfl, Sc.nd, es, h.calm, h.hnd, h.units, fun z hz => ?_, h.con, h.fn, h.blt, h.fx, h.exc, (fun z => Bool.noConfusion z), h.dcon⟩
 obtain ⟨cc, hcc⟩ := Sc.has z (by rw [es]; exact hz)
 show ((clOf X.env scope.names []).lookup z).isSome = true
 rw [hcc]; rfl
def nameD (c : FC) (x : Str) : Option Run := if dbg x then none else (match c.sc.names.lookup x with
 | some .globalImplicit => (match c.gl.lookup x with
  | some (.con w) => some (rCon w)
  | some .blt => (tyD x).map fun T => rCon (.ty T)
  | _ => none)
 | some .local => (slot c.N x).map rVar
 | some .cell => (slot c.N x).map rVar
 | some .free => (slot c.N x).map rVar
 | _ => none)
def conD : Const->Option Run
 | .int i => some (rCon (.int i))
 | .str x => some (rCon (.str x))
 | .bool b => some (rCon (.bl b))
 | .none => some (rCon .non)
 | _ => none
def unD (op : UnaryOp) (r : Run) : Option Run := match op with
 | .Not => some (QdA r)
 | .USub => some (run1 r QhA)
 | _ => none
def boolD (op : BoolOp) (ra rb : Run) : Run := match op with
 | .And => QaZ ra rb
 | .Or => Qch ra rb
def cmp0 (E : Expr->Option Run) (a : Expr) (op : CmpOp) (b : Expr) : Option Run := if QiO b then (E a).bind fun ra => (E b).bind fun rb => (cmpD op).map fun o => run2 ra rb o else none
def cmp1 (c : FC) (E : Expr->Option Run) (a : Expr) (op : CmpOp) (b : Expr) : Option Run := cmp0 E a op b
def cmpR (c : FC) (E : Expr->Option Run) (a : Expr) : List CmpOp->List Expr->Option Run
 | [op], [b] => cmp1 c E a op b
 | _, _ => none
theorem cmpR_ok {c : FC} {E : Expr->Option Run} {a : Expr} {ops : List CmpOp} {bs : List Expr} {r : Run} (h : cmpR c E a ops bs = some r) :
  (∃ op b, ops = [op]/\bs = [b]/\cmp1 c E a op b = some r)
  := by
 rcases ops with _ | ⟨op, _ | ⟨op', _⟩⟩ <;> rcases bs with _ | ⟨b, _ | ⟨d, _⟩⟩ <;> first | exact ⟨_, _, rfl, rfl, h⟩ | cases h
def blt0 (c : FC) (Es : List Expr->Option Runs) (x : Str) (es : List Expr) (pos : Pos) : Option Run := if !c.cm then none else match bltD (c.isMut pos) x with
 | some (_, op) => (Es es).map fun rr => runN rr op
 | none => (match QiE (c.isMut pos) x with
  | some (_, op) => (Es es).map fun rr => runN rr op
  | none => none)
def bltG (c : FC) (E : Expr->Option Run) (Es : List Expr->Option Runs) (x : Str) (e : Expr) (es : List Expr) (pos : Pos) : Option Run := blt0 c Es x (e :: es) pos
def callG (c : FC) (E : Expr->Option Run) (Es : List Expr->Option Runs) (x : Str) (e : Expr) (es : List Expr) (pos : Pos) : Option Run :=
 if dbg x then none else if (e :: es).all QbU then (match c.sc.names.lookup x with
  | some .globalImplicit => (match c.gl.lookup x with
   | some (.fn k op) => if (e :: es).length = k then (if c.cm then (Es (e :: es)).map fun rr => runN rr (Qak op) else none) else none
   | some .blt => bltG c E Es x e es pos
   | _ => none)
  | _ => none) else none
def mthG (E : Expr->Option Run) (Es : List Expr->Option Runs) (o : Expr) (m : Str) (apos : Pos) (es : List Expr) (pos : Pos) : Option Run :=
 if QgD o && apos.endLine == pos.line && es.all QbU && decide (es.length < 30) then (mthD m).bind fun (T, op) => (E o).bind fun ro => (Es es).map fun rr => runM T ro rr op else none
def sortN (a : Option NameKind) (b : Option GV) (c : Option NameKind) (d : Option GV) : Option OpN := match a, b, c, d with
 | some .globalImplicit, some .blt, some .globalImplicit, some (.fn 1 op) => some op
 | _, _, _, _ => none
theorem sortN_ok {a : Option NameKind} {b : Option GV} {c : Option NameKind} {d : Option GV} {op : OpN} (h : sortN a b c d = some op) : a = some .globalImplicit/\b = some .blt/\c = some .globalImplicit/\d = some (.fn 1 op) := by
 unfold sortN at h
 split at h
 ·cases h; exact ⟨rfl, rfl, rfl, rfl⟩
 ·cases h
def bltQ (a : Option NameKind) (b : Option GV) : Bool := match a, b with
 | some .globalImplicit, some .blt => true
 | _, _ => false
theorem bltQ_ok {a : Option NameKind} {b : Option GV} (h : bltQ a b = true) : a = some .globalImplicit/\b = some .blt := by
 unfold bltQ at h
 split at h
 ·exact ⟨rfl, rfl⟩
 ·cases h
def kwK (c : FC) (E : Expr->Option Run) (x kw g : Str) (e : Expr) (m : Bool) : Option Run :=
 if x == ("sorted" : Str) && kw == ("key" : Str) && QgC e && !dbg g then (sortN (c.sc.names.lookup x) (c.gl.lookup x) (c.sc.names.lookup g) (c.gl.lookup g)).bind fun op => (E e).map fun ra => run1 ra (QcK m op) else none
def kwM (c : FC) (E : Expr->Option Run) (x kw : Str) (d : Int) (e : Expr) : Option Run :=
 if x == ("max" : Str) && kw == ("default" : Str) && QgC e && bltQ (c.sc.names.lookup x) (c.gl.lookup x) then (E e).map fun ra => run1 ra (QbZ d) else none
def kwG (c : FC) (E : Expr->Option Run) (x : Str) (e : Expr) (pos : Pos) : List Keyword->Option Run
 | [⟨some kw, .Name g _, _⟩] => if !c.cm then none else kwK c E x kw g e (c.isMut pos)
 | [⟨some kw, .Constant (.int d) _ _, _⟩] => if !c.cm then none else kwM c E x kw d e
 | _ => none
theorem kwG_ok {c : FC} {E : Expr->Option Run} {x : Str} {e : Expr} {pos : Pos} {ks : List Keyword} {r : Run} (h : kwG c E x e pos ks = some r) :
  (∃ kw g gp kp, ks = [⟨some kw, .Name g gp, kp⟩]/\(if !c.cm then none else kwK c E x kw g e (c.isMut pos)) = some r)\/∃ kw d kd vp kp, ks = [⟨some kw, .Constant (.int d) kd vp, kp⟩]/\(if !c.cm then none else kwM c E x kw d e) = some r := by
 unfold kwG at h
 split at h
 ·exact .inl ⟨_, _, _, _, rfl, h⟩
 ·exact .inr ⟨_, _, _, _, _, rfl, h⟩
 ·cases h
def callR (c : FC) (E : Expr->Option Run) (Es : List Expr->Option Runs) (f : Expr) (es : List Expr) (ks : List Keyword) (pos : Pos) : Option Run := match f with
 | .Name x _ => (match es with
  | [] => none
  | e :: es => (match ks with
   | [] => callG c E Es x e es pos
   | k :: ks => (match es with
    | [] => kwG c E x e pos (k :: ks)
    | _ :: _ => none)
   ))
 | .Attribute o m apos => (match ks with
  | [] => mthG E Es o m apos es pos
  | _ :: _ => none)
 | _ => none
def slG (m : Bool) (E : Expr->Option Run) (a : Expr) (lo hi : Option Expr) : Option Run := match lo with
 | none => (match hi with
  | none => (E a).map fun ra => Qlu m ra
  | some h => (E a).bind fun ra => (E h).map fun rh => QcI m ra rh)
 | some l => (match hi with
  | none => (E a).bind fun ra => (E l).map fun rl => Qcg m ra rl
  | some h => (E a).bind fun ra => (E l).bind fun rl => (E h).map fun rh => QdU m ra rl rh)
def ixG (c : FC) (E : Expr->Option Run) (a b : Expr) : Option Run := (E a).bind fun ra => (E b).map fun rb => run2 ra rb Qah
def subG (c : FC) (E : Expr->Option Run) (a i : Expr) (pos : Pos) : Option Run := match i with
 | .Slice lo hi st _ => (match st with
  | none => slG (c.isMut pos) E a lo hi
  | some _ => none
  )
 | i => if Qcu i then ixG c E a i else none
def ifsD (T : Expr->Option Run) : List Expr->Option Run
 | [] => some (rCon (.bl true))
 | t :: ts => (match ts with
  | [] => T t
  | _ :: _ => none)
def compG (c : FC) (I : Expr->Option Src) (T E : FC->Expr->Option Run) (elt : Expr) (x : Str) (iter : Expr) (ifs : List Expr) (scope : Scope) (pos : Pos) : Option Run :=
 if !c.cm then none else if QiO iter && Qid scope c.sc x then (I iter).bind fun src => (slots c.N (QaC scope)).bind fun cap =>
  (ifsD (T { c with N := x :: QaC scope, sc := QaY scope c.sc, cx := false }) ifs).bind fun rt => (E { c with N := x :: QaC scope, sc := QaY scope c.sc, cx := false } elt).map fun re => Qav (c.isMut pos) src cap rt re else none
def compN (c : FC) (I : Expr->Option Src) (T E : FC->Expr->Option Run) (elt : Expr) (x : Str) (iter : Expr) (ifs : List Expr) (scope : Scope) (pos : Pos) : Option Run := compG c I T E elt x iter ifs scope pos
def zipP (c : FC) : Expr->Option (Expr × Expr × Pos × Pos)
 | .Call (.Name x p) [a, b] [] cp => if x == ("zip" : Str) && QbU a && QbU b then (match c.sc.names.lookup x, c.gl.lookup x with
  | some .globalImplicit, some .blt => some (a, b, p, cp)
  | _, _ => none) else none
 | _ => none
theorem zipP_ok {c : FC} {e a b : Expr} {p cp : Pos} (h : zipP c e = some (a, b, p, cp)) : e = .Call (.Name "zip" p) [a, b] [] cp/\QbU a = true/\QbU b = true/\c.sc.names.lookup ("zip" : Str) = some .globalImplicit/\c.gl.lookup ("zip" : Str) = some .blt := by
 unfold zipP at h
 split at h
 ·split at h
  ·rename_i hk
   simp only [QnX] at hk
   obtain ⟨⟨hx, ha⟩, hb⟩ := hk
   have hx' := eq_of_beq hx
   subst hx'
   split at h
   ·rename_i h1 h2
    cases h
    exact ⟨rfl, ha, hb, h1, h2⟩
   ·cases h
  ·cases h
 ·cases h
noncomputable def compT (c : FC) (T E : FC->Expr->Option Run) (Es : List Expr->Option Runs) (elt : Expr) (es : List Expr) (iter : Expr) (ifs : List Expr) (scope : Scope) (pos : Pos) : Option Run :=
 if !c.cm then none else (twoN es).bind fun (x, _, y, _) => if QgY scope c.sc x y then (slots c.N (QaC scope)).bind fun cap => (match zipP c iter with
  | some (a, b, _, _) => if ifs.isEmpty then (Es [a, b]).bind fun rr => (E { c with N := x :: y :: QaC scope, sc := QaY scope c.sc, cx := false } elt).map fun re => Qby (c.isMut pos) rr cap re else none
  | none => if QiO iter then (E c iter).bind fun r => (ifsD (T { c with N := x :: y :: QaC scope, sc := QaY scope c.sc, cx := false }) ifs).bind fun rt => (E { c with N := x :: y :: QaC scope, sc := QaY scope c.sc, cx := false } elt).map fun re => QcW (c.isMut pos) r cap rt re else none) else none
noncomputable def compR (c : FC) (I : Expr->Option Src) (T E : FC->Expr->Option Run) (Es : List Expr->Option Runs) (elt : Expr) (gens : List Comprehension) (scope : Scope) (pos : Pos) : Option Run := match gens with
 | [⟨.Name x _, iter, ifs, 0⟩] => compN c I T E elt x iter ifs scope pos
 | [⟨.Tuple es _ _, iter, ifs, 0⟩] => compT c T E Es elt es iter ifs scope pos
 | _ => none
theorem compR_ok {c : FC} {I : Expr->Option Src} {T E : FC->Expr->Option Run} {Es : List Expr->Option Runs} {elt : Expr} {gens : List Comprehension} {scope : Scope} {pos : Pos} {r : Run} (h : compR c I T E Es elt gens scope pos = some r) : (∃ x px iter ifs, gens = [⟨.Name x px, iter, ifs, 0⟩]/\compN c I T E elt x iter ifs scope pos = some r)
 \/(∃ es tk tp iter ifs, gens = [⟨.Tuple es tk tp, iter, ifs, 0⟩]/\compT c T E Es elt es iter ifs scope pos = some r)
  := by
 unfold compR at h
 split at h
 ·exact .inl ⟨_, _, _, _, rfl, h⟩
 ·exact .inr ⟨_, _, _, _, _, rfl, h⟩
 ·cases h
def oddC (c : FC) : Expr->Bool
 | .ListComp _ gens _ _ => (match gens with
  | [⟨.Name _ _, iter, _, 0⟩] => c.isMut iter.pos
  | _ => true)
 | _ => false
def rng2G (E : Expr->Option Run) (a b : Expr) : Option Src := none
def rng3G (Es : List Expr->Option Runs) (a : Expr) (es : List Expr) : Option Src := none
def rngR (c : FC) (E : Expr->Option Run) (Es : List Expr->Option Runs) (x : Str) (es : List Expr) : Option Src := match c.sc.names.lookup x, c.gl.lookup x with
 | some .globalImplicit, some .blt => (match es with
  | [] => none
  | a :: es => (match es with
   | [] => if QbU a then (E a).map QaG else none
   | b :: es => (match es with
    | [] => rng2G E a b
    | d :: es => rng3G Es a (b :: d :: es))))
 | _, _ => none
mutual
noncomputable def denE : Nat->FC->Expr->Option Run
 | 0, _, _ => none
 | n + 1, c, e => match e with
  | .Name x _ => nameD c x
  | .Constant v _ _ => conD v
  | .BinOp a op b _ => (denE n c a).bind fun ra => (denE n c b).bind fun rb => (binD op).map fun o => run2 ra rb o
  | .UnaryOp op a _ => (denE n c a).bind fun ra => unD op ra
  | .BoolOp op es pos => (match es with
   | [] => none
   | a :: es => (match es with
    | [] => denE n c a
    | b :: rest => (denE n c a).bind fun ra => (denE n c (.BoolOp op (b :: rest) pos)).map fun rb => boolD op ra rb))
  | .Compare a ops bs _ => cmpR c (denE n c) a ops bs
  | .IfExp t a b _ => (denT n c t).bind fun rt => (denE n c a).bind fun ra => (denE n c b).map fun rb => Qlw rt ra rb
  | .Tuple es _ _ => (QbX n c es).map fun rr => runN rr QaM
  | .List es pos => (QbX n c es).map fun rr => runN rr (opL (c.isMut pos))
  | .Call f es ks pos => callR c (denE n c) (QbX n c) f es ks pos
  | .Subscript a i pos => subG c (denE n c) a i pos
  | .ListComp elt gens scope pos => compR c (denI n c) (denT n) (denE n) (QbX n c) elt gens scope pos
  | .Dict ks vs pos => (match ks with
   | [] => (match vs with
    | [] => some (if c.isMut pos then QfO else rDict0)
    | _ :: _ => none)
   | _ :: _ => none)
  | _ => none
noncomputable def denT : Nat->FC->Expr->Option Run
 | 0, _, _ => none
 | n + 1, c, e => match e with
  | .UnaryOp op a pos => (match op with
   | .Not => (denT n c a).map QdA
   | _ => denE n c (.UnaryOp op a pos))
  | .BoolOp op es pos => (match es with
   | [] => none
   | a :: es => (match es with
    | [] => denT n c a
    | b :: rest => (denT n c a).bind fun ra => (denT n c (.BoolOp op (b :: rest) pos)).map fun rb => boolD op ra rb))
  | .Compare a ops bs _ => cmpR c (denE n c) a ops bs
  | e => if QlE e then denE n c e else none
noncomputable def QbX : Nat->FC->List Expr->Option Runs
 | 0, _, _ => none
 | n + 1, c, es => match es with
  | [] => some Qab
  | e :: es => if QbU e then (denE n c e).bind fun r => (QbX n c es).map fun rr => Qaa r rr else none
noncomputable def denJ : Nat->FC->List Expr->Option (List Run)
 | 0, _, _ => none
 | n + 1, c, es => match es with
  | [] => some []
  | e :: es => (denE n c e).bind fun r => (denJ n c es).map fun rs => r :: rs
noncomputable def denI : Nat->FC->Expr->Option Src
 | 0, _, _ => none
 | n + 1, c, e => match e with
  | .Call f es ks pos => (match f with
   | .Name x p => (match ks with
    | [] => if x == ("range" : Str) then rngR c (denE n c) (QbX n c) x es else (denE n c (.Call (.Name x p) es [] pos)).map Qaw
    | k :: ks => (denE n c (.Call (.Name x p) es (k :: ks) pos)).map Qaw)
   | f => (denE n c (.Call f es ks pos)).map Qaw)
  | e => (denE n c e).map Qaw
end
end DL
namespace DL
open PySem PySem.Spec PyProof.Rows L2
section
variable {X : Cx}
theorem binD_ok {op : Operator} {o : Op2} (h : binD op = some o) : OpW X (binaryOp op) o := by
 cases op <;> first
  | (cases h; done)
  | (cases h; exact opw_add)
  | (cases h; exact opw_sub)
  | (cases h; exact opw_mul)
  | (cases h; exact opw_div)
  | (cases h; exact opw_mod)
theorem cmpD_ok {op : CmpOp} {o : Op2} (hu : X.A.units + 64 < cLine) (h : cmpD op = some o) : OpW X (compareOp op) o := by
 cases op <;> first
  | (cases h; done)
  | (cases h; exact opw_eq hu)
  | (cases h; exact opw_ne hu)
  | (cases h; exact opw_lt)
  | (cases h; exact opw_le)
  | (cases h; exact opw_gt)
  | (cases h; exact opw_in hu)
  | (cases h; exact QlP hu)
theorem bltD_ok {m : Bool} {x : Str} {f : Value} {op : OpN} (hc : X.calm = true) (hu : X.A.units + 80 < cLine) (h : bltD m x = some (f, op)) : ∃ id, f = .builtin id/\bootBuiltins x = some (.builtin id)/\Qdf X (.builtin id) op := by
 unfold bltD at h
 repeat' split at h
 all_goals first
  | (cases h; done)
  | (cases h; rename_i e; have e' := eq_of_beq e; subst e'; first
   | exact ⟨_, rfl, by decide +kernel, cw_len⟩
   | exact ⟨_, rfl, by decide +kernel, cw_isi⟩
   | exact ⟨_, rfl, by decide +kernel, cw_all hc⟩
   | exact ⟨_, rfl, by decide +kernel, cw_maxL hc⟩
   | exact ⟨_, rfl, by decide +kernel, Qnf hu⟩
   )
theorem Qkb {m : Bool} {x : Str} {T : String} {op : OpN} (hh : X.A.handled = none) (h : QiE m x = some (T, op)) : bootBuiltins x = some (.type T)/\Qdf X (.type T) op := by
 unfold QiE at h
 repeat' split at h
 all_goals first
  | (cases h; done)
  | (cases h; rename_i e; have e' := eq_of_beq e; subst e'; first
   | exact ⟨by decide +kernel, cw_tuple⟩
   | exact ⟨by decide +kernel, cw_listD hh⟩
   | exact ⟨by decide +kernel, cw_int⟩
   | exact ⟨by decide +kernel, cw_str⟩
   )
theorem pd_callB {id : String} {op : OpN} {x : Str} {p pos : Pos} {e : Expr} {es : List Expr} {rr : Runs} (hc : Qdf X (.builtin id) op) (hg : Gl X x) (hm : X.mg x = none) (hv : bootBuiltins x = some (.builtin id)) (ha : PDA X (e :: es) rr) (hd : dbg x = false) (hs : (e :: es).all QbU = true) :
  PD X (.Call (.Name x p) (e :: es) [] pos) (runN rr op) := by
 rw [List.all_cons, QnX] at hs
 exact PE.imp (pe_callB hc.r hg hm hv ha (dbg3 hd) (dbg1 hd) (Qbi hs.1) (Qdw hs.2)) fun _ _ _ h => Qjw h
theorem pd_callT {T : String} {op : OpN} {x : Str} {p pos : Pos} {e : Expr} {es : List Expr} {rr : Runs} (hc : Qdf X (.type T) op) (hg : Gl X x) (hm : X.mg x = none) (hv : bootBuiltins x = some (.type T)) (ha : PDA X (e :: es) rr) (hd : dbg x = false) (hs : (e :: es).all QbU = true) :
  PD X (.Call (.Name x p) (e :: es) [] pos) (runN rr op) := by
 rw [List.all_cons, QnX] at hs
 exact PE.imp (QlL hc.r hg hm hv ha (dbg3 hd) (dbg1 hd) (Qbi hs.1) (Qdw hs.2)) fun _ _ _ h => Qjw h
end
theorem ob {α β : Type} {o : Option α} {f : α->Option β} {b : β} (h : o.bind f = some b) : ∃ a, o = some a/\f a = some b := by
 cases o with
 | none => cases h
 | some a => exact ⟨a, rfl, h⟩
theorem om {α β : Type} {o : Option α} {f : α->β} {b : β} (h : o.map f = some b) : ∃ a, o = some a/\f a = b := by
 cases o with
 | none => cases h
 | some a => exact ⟨a, rfl, Option.some.inj h⟩
theorem oite {α : Type} {c : Bool} {x : Option α} {b : α} (h : (if c then x else none) = some b) : c = true/\x = some b := by
 cases c with
 | true => exact ⟨rfl, h⟩
 | false => cases h
theorem oite3 {α : Type} {c : Bool} {x : Option α} {b : α} (h : (if c then none else x) = some b) : c = false/\x = some b := by
 cases c with
 | true => cases h
 | false => exact ⟨rfl, h⟩
theorem QgB {α : Type} {c : Bool} {x : Option α} {b : α} (h : (if !c then none else x) = some b) : c = true/\x = some b := by
 cases c with
 | true => exact ⟨rfl, h⟩
 | false => cases h
theorem Qjx : ∀ (n : Nat) (c : FC) (es : List Expr) (rr : Runs), QbX n c es = some rr->∀ Γ st ws st', rr Γ st = .ok ws st'->ws.length = es.length
 | 0, _, _, _, h => by cases h
 | n + 1, c, [], rr, h => by
  cases h
  intro Γ st ws st' e
  cases e; rfl
 | n + 1, c, e :: es, rr, h => by
  unfold QbX at h
  obtain ⟨_, h⟩ := oite h
  obtain ⟨r, hr, h⟩ := ob h
  obtain ⟨r2, hr2, h⟩ := om h
  subst h
  intro Γ st ws st' e
  unfold Qaa at e
  cases e1 : r Γ st with
  | stuck => rw [e1] at e; cases e
  | ex c s => rw [e1] at e; cases e
  | ok w st1 =>
   rw [e1] at e
   have e' : ((r2 Γ st1).bind fun ws st2 => R.ok (w :: ws) st2) = .ok ws st' := e
   cases e2 : r2 Γ st1 with
   | stuck => rw [e2] at e'; cases e'
   | ex c s => rw [e2] at e'; cases e'
   | ok ws2 st2 =>
    rw [e2] at e'
    cases e'
    rw [QnU, QnU, Qjx n c es r2 hr2 Γ st1 ws2 _ e2]
theorem XOK.u64 {c : FC} {X : Cx} (h : XOK c X) : X.A.units + 64 < cLine := by have := h.units; omega
structure Sound (n : Nat) : Prop where
 e : ∀ (c : FC) (X : Cx) (e : Expr) (r : Run), XOK c X->denE n c e = some r->PD X e r
 t : ∀ (c : FC) (X : Cx) (e : Expr) (r : Run), XOK c X->denT n c e = some r->PT X e (tDT X r)
 w : ∀ (c : FC) (X : Cx) (op : BoolOp) (es : List Expr) (pos : Pos) (r : Run), XOK c X->denT n c (.BoolOp op es pos) = some r->PW X (.BoolOp op es pos) (tDT X r)
 es : ∀ (c : FC) (X : Cx) (es : List Expr) (r : Runs), XOK c X->QbX n c es = some r->PDA X es r
 i : ∀ (c : FC) (X : Cx) (y : Str) (py : Pos) (e : Expr) (r : Src), XOK c X->denI n c e = some r->PDI X (.Name y py) e r
 j : ∀ (c : FC) (X : Cx) (es : List Expr) (rs : List Run), XOK c X->denJ n c es = some rs->Paired (fun e r => PD X e r) es rs
section
variable {c : FC} {X : Cx} {n : Nat}
theorem sd_name {x : Str} {pos : Pos} {r : Run} (xo : XOK c X) (h : nameD c x = some r) : PD X (.Name x pos) r := by
 unfold nameD at h
 by_cases hd : dbg x = true
 ·rw [if_pos hd] at h; cases h
 ·rw [if_neg hd] at h
  have hd' : dbg x = false := by simpa using hd
  have var : ∀ {r : Run}, (slot c.N x).map rVar = some r->Vis X.env.scope x->PD X (.Name x pos) r := by
   intro r h hv
   obtain ⟨i, hi, rfl⟩ := om h
   exact pd_var (by rw [xo.N]; exact Qex hi) hv (dbg1 hd') (dbg2 hd')
  split at h
  ·rename_i hl
   split at h
   ·rename_i w hw
    cases h
    obtain ⟨u, v, h1, h2, h3⟩ := xo.con x w hw
    exact QfQ (QlK (xo.gl hl) h1 h2 (dbg1 hd')) h3
   ·rename_i hw
    obtain ⟨T, hT, rfl⟩ := om h
    exact QfQ (v := .ty T) (pe_bltn (xo.gl hl) (xo.blt x hw) (tyD_boot hT) rfl (dbg3 hd') (dbg1 hd')) fun _ _ _ => .ty T
   ·cases h
  ·rename_i hl; exact var h (.inl (by rw [xo.sc]; exact hl))
  ·rename_i hl; exact var h (.inr (.inl (by rw [xo.sc]; exact hl)))
  ·rename_i hl; exact var h (.inr (.inr (by rw [xo.sc]; exact hl)))
  ·cases h
theorem sd_con {v : Const} {k : Nat} {pos : Pos} {r : Run} (h : conD v = some r) : PD X (.Constant v k pos) r := by
 cases v <;> first
  | (cases h; done)
  | (cases h; exact QfQ pe_int fun _ _ _ => .int _)
  | (cases h; exact QfQ pe_str fun _ _ _ => .str _)
  | (cases h; exact QfQ pe_bl fun _ _ _ => .bl _)
  | (cases h; exact QfQ pe_non fun _ _ _ => .non)
theorem sd_un {op : UnaryOp} {a : Expr} {pos : Pos} {ra r : Run} (ha : PD X a ra) (h : unD op ra = some r) : PD X (.UnaryOp op a pos) r := by
 cases op <;> first
  | (cases h; done)
  | (cases h; exact pd_not ha)
  | (cases h; exact pd_neg ha)
theorem sd_bool {op : BoolOp} {a b : Expr} {rest : List Expr} {pos : Pos} {ra rb : Run} (ha : PD X a ra) (hb : PD X (.BoolOp op (b :: rest) pos) rb) : PD X (.BoolOp op (a :: b :: rest) pos) (boolD op ra rb) := by
 cases op with
 | And => exact pd_and ha hb
 | Or => exact pd_or ha hb
theorem sd_cmp0 {a b : Expr} {op : CmpOp} {pos : Pos} {r : Run} (ih : Sound n) (xo : XOK c X) (h : cmp0 (denE n c) a op b = some r) : PD X (.Compare a [op] [b] pos) r/\PT X (.Compare a [op] [b] pos) (tDT X r) := by
 obtain ⟨hn, h⟩ := oite h
 obtain ⟨ra, ha, h⟩ := ob h
 obtain ⟨rb, hb, h⟩ := ob h
 obtain ⟨o, ho, rfl⟩ := om h
 have k := cmpD_ok (X := X) xo.u64 ho
 exact ⟨pd_cmp k (ih.e c X a ra xo ha) (ih.e c X b rb xo hb) (Qei hn), pdt_cmp k (ih.e c X a ra xo ha) (ih.e c X b rb xo hb) (Qei hn)⟩
theorem sd_cmp1 {a b : Expr} {op : CmpOp} {pos : Pos} {r : Run} (ih : Sound n) (xo : XOK c X) (h : cmp1 c (denE n c) a op b = some r) : PD X (.Compare a [op] [b] pos) r/\PT X (.Compare a [op] [b] pos) (tDT X r) := by
 unfold cmp1 at h
 exact sd_cmp0 ih xo h
theorem sd_cmp {a : Expr} {ops : List CmpOp} {bs : List Expr} {pos : Pos} {r : Run} (ih : Sound n) (xo : XOK c X) (h : cmpR c (denE n c) a ops bs = some r) : PD X (.Compare a ops bs pos) r/\PT X (.Compare a ops bs pos) (tDT X r) := by
 obtain ⟨op, b, rfl, rfl, h⟩ := cmpR_ok h
 exact sd_cmp1 ih xo h
theorem sd_blt0 {x : Str} {e : Expr} {es : List Expr} {p pos : Pos} {r : Run} (ih : Sound n) (xo : XOK c X) (hd : dbg x = false) (hs : (e :: es).all QbU = true) (hl : c.sc.names.lookup x = some .globalImplicit) (hw : c.gl.lookup x = some .blt) (h : blt0 c (QbX n c) x (e :: es) pos = some r) : PD X (.Call (.Name x p) (e :: es) [] pos) r := by
 obtain ⟨hcm, h⟩ := QgB h
 split at h
 ·rename_i f op hb
  obtain ⟨rr, hr, rfl⟩ := om h
  obtain ⟨id, rfl, h1, h2⟩ := bltD_ok (X := X) (xo.calm hcm) xo.units hb
  exact pd_callB h2 (xo.gl hl) (xo.blt x hw) h1 (ih.es c X _ rr xo hr) hd hs
 ·split at h
  ·rename_i T op hb
   obtain ⟨rr, hr, rfl⟩ := om h
   obtain ⟨h1, h2⟩ := Qkb (X := X) (xo.hnd hcm) hb
   exact pd_callT h2 (xo.gl hl) (xo.blt x hw) h1 (ih.es c X _ rr xo hr) hd hs
  ·cases h
theorem sd_bltG {x : Str} {e : Expr} {es : List Expr} {p pos : Pos} {r : Run} (ih : Sound n) (xo : XOK c X) (hd : dbg x = false) (hs : (e :: es).all QbU = true) (hl : c.sc.names.lookup x = some .globalImplicit) (hw : c.gl.lookup x = some .blt) (h : bltG c (denE n c) (QbX n c) x e es pos = some r) : PD X (.Call (.Name x p) (e :: es) [] pos) r := by
 unfold bltG at h
 exact sd_blt0 ih xo hd hs hl hw h
theorem sd_callG {x : Str} {e : Expr} {es : List Expr} {p pos : Pos} {r : Run} (ih : Sound n) (xo : XOK c X) (h : callG c (denE n c) (QbX n c) x e es pos = some r) : PD X (.Call (.Name x p) (e :: es) [] pos) r := by
 unfold callG at h
 by_cases hd : dbg x = true
 ·rw [if_pos hd] at h; cases h
 ·rw [if_neg hd] at h
  have hd' : dbg x = false := by simpa using hd
  obtain ⟨hs, h⟩ := oite h
  have hs' := hs
  rw [List.all_cons, QnX] at hs'
  split at h
  ·rename_i hl
   split at h
   ·rename_i k op hw
    split at h
    ·rename_i hk
     obtain ⟨hcm, h⟩ := oite h
     obtain ⟨rr, hr, rfl⟩ := om h
     obtain ⟨kk, f, fd, ps, F, R, h1, h2, h3, _⟩ := xo.fn hcm x k op hw
     exact pd_call F (R.mono (Nat.le_add_right kk 2)) (xo.gl hl) h1 h2 h3 (ih.es c X _ rr xo hr) (fun Γ st ws st' e => by rw [Qjx n c _ rr hr Γ st ws st' e]; exact hk) (dbg1 hd') (Qbi hs'.1) (Qdw hs'.2)
    ·cases h
   ·rename_i hw; exact sd_bltG ih xo hd' hs hl hw h
   ·cases h
  ·cases h
theorem sd_mthG {o : Expr} {m : Str} {apos pos : Pos} {es : List Expr} {r : Run} (ih : Sound n) (xo : XOK c X) (h : mthG (denE n c) (QbX n c) o m apos es pos = some r) : PD X (.Call (.Attribute o m apos) es [] pos) r := by
 obtain ⟨hk, h⟩ := oite h
 simp only [QnX, decide_eq_true_eq] at hk
 obtain ⟨⟨⟨h1, h2⟩, h3⟩, h4⟩ := hk
 obtain ⟨⟨T, op⟩, hm, h⟩ := ob h
 obtain ⟨ro, ho, h⟩ := ob h
 obtain ⟨rr, hr, rfl⟩ := om h
 obtain ⟨id, M⟩ := mthD_ok (X := X) xo.u64 hm
 cases es with
 | nil =>
  cases n with
  | zero => cases hr
  | succ n => cases hr; exact pd_mt0 M.hT M.pa M.slot M.hty M.hm (ih.e c X o ro xo ho) h1 h2
 | cons e es =>
  have h3' := h3
  rw [List.all_cons, QnX] at h3'
  exact pd_mt M.hT M.pa M.slot M.hty M.hm (ih.e c X o ro xo ho) (ih.es c X _ rr xo hr) h1 (star_few h3 h4) h2 (Qbi h3'.1) (Qdw h3'.2)
theorem sd_kw {e : Expr} {x : Str} {p pos : Pos} {ks : List Keyword} {r : Run} (ih : Sound n) (xo : XOK c X) (h : kwG c (denE n c) x e pos ks = some r) : PD X (.Call (.Name x p) [e] ks pos) r := by
 rcases kwG_ok h with ⟨kw, g, gp, kp, rfl, hA⟩ | ⟨kw, d, kd, vp, kp, rfl, hA⟩
 ·have hcm := (QgB hA).1
  have hB := (QgB hA).2
  unfold kwK at hB
  have hk := (oite hB).1
  have hC := (oite hB).2
  simp only [QnX, Bool.not_eq_true'] at hk
  obtain ⟨⟨⟨hx, hkw⟩, hs⟩, hg⟩ := hk
  have hx' := eq_of_beq hx
  have hk' := eq_of_beq hkw
  subst hx' hk'
  obtain ⟨op, ho, hD⟩ := ob hC
  obtain ⟨ra, ha, rfl⟩ := om hD
  obtain ⟨l1, l2, l3, l4⟩ := sortN_ok ho
  obtain ⟨kk, f, fd, ps, F, R, h1, h2, h3, h4⟩ := xo.fn hcm _ 1 op l4
  match ps, h4, F, h3 with
  | [pn], _, F, h3 => exact Qkp xo.units F R h3 (xo.gl l1) (xo.blt _ l2) (xo.gl l3) h1 (dbg1 hg) (ih.e c X e ra xo ha) hs
 ·have hcm := (QgB hA).1
  have hB := (QgB hA).2
  unfold kwM at hB
  have hk := (oite hB).1
  have hC := (oite hB).2
  simp only [QnX] at hk
  obtain ⟨⟨⟨hx, hkw⟩, hs⟩, hb⟩ := hk
  have hx' := eq_of_beq hx
  have hk' := eq_of_beq hkw
  subst hx' hk'
  obtain ⟨ra, ha, rfl⟩ := om hC
  obtain ⟨l1, l2⟩ := bltQ_ok hb
  exact pd_maxD (xo.calm hcm) (xo.gl l1) (xo.blt _ l2) (ih.e c X e ra xo ha) hs
theorem sd_call {f : Expr} {es : List Expr} {ks : List Keyword} {pos : Pos} {r : Run} (ih : Sound n) (xo : XOK c X) (h : callR c (denE n c) (QbX n c) f es ks pos = some r) : PD X (.Call f es ks pos) r := by
 cases f <;> first | (cases h; done) | skip
 ·cases ks with
  | nil => exact sd_mthG ih xo h
  | cons k ks => cases h
 ·cases es with
  | nil => cases h
  | cons e es =>
   cases ks with
   | nil => exact sd_callG ih xo h
   | cons k ks =>
    cases es with
    | nil => exact sd_kw ih xo h
    | cons _ _ => cases h
theorem sd_sl {m : Bool} {a : Expr} {lo hi : Option Expr} {p2 pos : Pos} {r : Run} (ih : Sound n) (xo : XOK c X) (h : slG m (denE n c) a lo hi = some r) : PD X (.Subscript a (.Slice lo hi none p2) pos) r := by
 cases lo with
 | none =>
  cases hi with
  | none => obtain ⟨ra, ha, rfl⟩ := om h; exact pd_slNN (ih.e c X a ra xo ha)
  | some u => obtain ⟨ra, ha, h⟩ := ob h; obtain ⟨rl, hl, rfl⟩ := om h; exact pd_slNS (ih.e c X a ra xo ha) (ih.e c X u rl xo hl)
 | some l =>
  cases hi with
  | none => obtain ⟨ra, ha, h⟩ := ob h; obtain ⟨rl, hl, rfl⟩ := om h; exact pd_slSN (ih.e c X a ra xo ha) (ih.e c X l rl xo hl)
  | some u => obtain ⟨ra, ha, h⟩ := ob h; obtain ⟨rl, hl, h⟩ := ob h; obtain ⟨rh, hr, rfl⟩ := om h; exact pd_slSS (ih.e c X a ra xo ha) (ih.e c X l rl xo hl) (ih.e c X u rh xo hr)
theorem sd_ix {a b : Expr} {pos : Pos} {r : Run} (ih : Sound n) (xo : XOK c X) (hp : Qcu b = true) (h : ixG c (denE n c) a b = some r) : PD X (.Subscript a b pos) r := by
 unfold ixG at h
 obtain ⟨ra, ha, h3⟩ := ob h
 obtain ⟨rb, hb, rfl⟩ := om h3
 exact pd_ixX (by have := xo.units; omega) (ih.e c X a ra xo ha) (ih.e c X b rb xo hb) (Qhy hp) (pd_ix0 (ih.e c X a ra xo ha) (ih.e c X b rb xo hb) (Qkl hp))
theorem sd_sub {a i : Expr} {pos : Pos} {r : Run} (ih : Sound n) (xo : XOK c X) (h : subG c (denE n c) a i pos = some r) : PD X (.Subscript a i pos) r := by
 by_cases hp : Qcu i = true
 ·have h' : (if Qcu i then ixG c (denE n c) a i else none) = some r := by
   rw [<-h]
   cases i <;> first | rfl | exact absurd (show false = true from hp) QnE
  exact sd_ix ih xo hp (oite h').2
 ·cases i <;> first | exact absurd rfl hp | skip
  rename_i lo hi st p2
  cases st with
  | none => exact sd_sl ih xo h
  | some st => cases h
theorem sd_ifs {ifs : List Expr} {rt : Run} {X' : Cx} (hK : X'.K = X.K) (h : ifsD (denT n c) ifs = some rt) (k : ∀ t r, denT n c t = some r->PT X' t (tDT X' r)) : PTs X' ifs (tT0 X.K rt) := by
 cases ifs with
 | nil =>
  cases h
  intro pins s' σ H' Q I q
  refine QlA pins s' σ H' Q I ?_
  obtain ⟨ι, G, st, Γ, en, sr, q⟩ := q
  obtain ⟨b, e, q'⟩ := q (.bl true) ι G H' (Ext.refl _ _ _) sr (.bl true)
  cases e; exact q'
 | cons t ts =>
  cases ts with
  | nil => rw [<-hK]; exact pts_one (PT.calm (k t rt h))
  | cons _ _ => cases h
theorem sd_compG {elt iter : Expr} {x : Str} {px : Pos} {ifs : List Expr} {scope : Scope} {pos : Pos} {r : Run} (ih : Sound n) (xo : XOK c X) (h : compG c (denI n c) (denT n) (denE n) elt x iter ifs scope pos = some r) :
  PD X (.ListComp elt [⟨.Name x px, iter, ifs, 0⟩] scope pos) r/\(∀ {i : Nat} {y : Str} {py spos : Pos}, X.N.Nodup->X.N[i]? = some y->X.env.scope.names.lookup y = some .local->swapsWith (.ListComp elt [⟨.Name x px, iter, ifs, 0⟩] scope pos) (some (.Name y py)) spos.line X.env = pure true ->
   PS X (.Assign [.Name y py] (.ListComp elt [⟨.Name x px, iter, ifs, 0⟩] scope pos) spos) (tAsg (tD X r) (Qfl i))) := by
 obtain ⟨hcm, h⟩ := QgB h
 obtain ⟨hk, h⟩ := oite h
 rw [QnX] at hk
 obtain ⟨src, hsrc, h⟩ := ob h
 obtain ⟨cap, hcap, h⟩ := ob h
 obtain ⟨rt, hrt, h⟩ := ob h
 obtain ⟨re, hre, rfl⟩ := om h
 exact pd_comp (xo.calm hcm) (ih.i c X x px iter src xo hsrc) (Qjl xo hk.2 hcap) (fun C s H ex => sd_ifs (X := X) rfl hrt fun t r ht => ih.t _ _ t r (QjT xo hk.2 hcap C s H ex) ht) (fun C s H ex => PD.calm (ih.e _ _ elt re (QjT xo hk.2 hcap C s H ex) hre)) (Qda hk.1)
theorem Qlq {elt : Expr} {gens : List Comprehension} {scope : Scope} {pos : Pos} {r : Run} (ih : Sound n) (xo : XOK c X) (h : compR c (denI n c) (denT n) (denE n) (QbX n c) elt gens scope pos = some r) :
  PD X (.ListComp elt gens scope pos) r/\(oddC c (.ListComp elt gens scope pos) = false->∀ {i : Nat} {y : Str} {py spos : Pos}, X.N.Nodup->X.N[i]? = some y->X.env.scope.names.lookup y = some .local->swapsWith (.ListComp elt gens scope pos) (some (.Name y py)) spos.line X.env = pure true ->
   PS X (.Assign [.Name y py] (.ListComp elt gens scope pos) spos) (tAsg (tD X r) (Qfl i))) := by
 have h0 := compR_ok h
 clear h
 rcases h0 with ⟨x, px, iter, ifs, rfl, h⟩ | ⟨es, tk, tp, iter, ifs, rfl, hA⟩
 rotate_left
 ·have hcm := (QgB hA).1
  have hB := (QgB hA).2
  obtain ⟨⟨x, p, y, q⟩, he, hC⟩ := ob hB
  have hk := (oite hC).1
  have hD := (oite hC).2
  obtain ⟨cap, hcap, hE⟩ := ob hD
  have he := Qld he
  subst he
  refine ⟨?_, fun z => nomatch z⟩
  cases hz : zipP c iter with
  | some q4 =>
   obtain ⟨a, b, zp, cp⟩ := q4
   rw [hz] at hE
   have hi := (oite hE).1
   have hG := (oite hE).2
   obtain ⟨rr, hr, hH⟩ := ob hG
   obtain ⟨re, hre, hI⟩ := om hH
   have hi : ifs = [] := by simpa using hi
   obtain ⟨hz, ha, hb', hl, hw⟩ := zipP_ok hz
   subst hi hz hI
   have s2 : starEach [b] X.env = [(false, eval b X.env)] := Qbi hb'
   exact pd_compZ (xo.calm hcm) (pi_zipB (xo.gl hl) (xo.blt _ hw) (ih.es c X _ rr xo hr) (by rw [Qbi ha, s2]) s2) (QgX xo hk hcap) (fun C s H ex => PD.calm (ih.e _ _ elt re (Qfr xo hk hcap C s H ex) hre))
  | none =>
   rw [hz] at hE
   have hs := (oite hE).1
   have hG := (oite hE).2
   obtain ⟨r1, hr, hH⟩ := ob hG
   obtain ⟨rt, hrt, hI⟩ := ob hH
   obtain ⟨re, hre, hJ⟩ := om hI
   subst hJ
   exact pd_compP (xo.calm hcm) (ih.e c X iter r1 xo hr) (QgX xo hk hcap) (fun C s H ex => sd_ifs (X := X) rfl hrt fun t r ht => ih.t _ _ t r (Qfr xo hk hcap C s H ex) ht) (fun C s H ex => PD.calm (ih.e _ _ elt re (Qfr xo hk hcap C s H ex) hre)) (Qda hs)
 unfold compN at h
 obtain ⟨g1, g2⟩ := sd_compG (px := px) ih xo h
 exact ⟨g1, fun _ => g2⟩
theorem sd_rng {es : List Expr} {y : Str} {py p pos : Pos} {r : Src} (ih : Sound n) (xo : XOK c X) (h : rngR c (denE n c) (QbX n c) "range" es = some r) : PDI X (.Name y py) (.Call (.Name "range" p) es [] pos) r := by
 unfold rngR at h
 split at h
 ·rename_i hl hw
  cases es with
  | nil => cases h
  | cons a es =>
   cases es with
   | nil =>
    obtain ⟨hs, h⟩ := oite h
    obtain ⟨ra, ha, rfl⟩ := om h
    exact Qko (xo.gl hl) (xo.blt _ hw) (ih.e c X a ra xo ha) (Qbi hs)
   | cons b es =>
    cases es with
    | nil =>
     cases h
    | cons d es =>
     cases h
 ·cases h
theorem sd_E {e : Expr} {r : Run} (ih : Sound n) (xo : XOK c X) (h : denE (n + 1) c e = some r) : PD X e r := by
 unfold denE at h
 cases e with
 | Name x pos => exact sd_name xo h
 | Constant v k pos => exact sd_con h
 | BinOp a op b pos =>
  obtain ⟨ra, ha, h⟩ := ob h
  obtain ⟨rb, hb, h⟩ := ob h
  obtain ⟨o, ho, rfl⟩ := om h
  exact pd_op (binD_ok ho) (ih.e c X a ra xo ha) (ih.e c X b rb xo hb)
 | UnaryOp op a pos => obtain ⟨ra, ha, h⟩ := ob h; exact sd_un (ih.e c X a ra xo ha) h
 | BoolOp op es pos =>
  cases es with
  | nil => cases h
  | cons a es =>
   cases es with
   | nil => exact pd_one (ih.e c X a r xo h)
   | cons b rest => obtain ⟨ra, ha, h⟩ := ob h; obtain ⟨rb, hb, rfl⟩ := om h; exact sd_bool (ih.e c X a ra xo ha) (ih.e c X _ rb xo hb)
 | Compare a ops bs pos => exact (sd_cmp ih xo h).1
 | IfExp t a b pos =>
  obtain ⟨rt, ht, h⟩ := ob h
  obtain ⟨ra, ha, h⟩ := ob h
  obtain ⟨rb, hb, rfl⟩ := om h
  exact pd_if (ih.t c X t rt xo ht) (ih.e c X a ra xo ha) (ih.e c X b rb xo hb)
 | Tuple es k pos => obtain ⟨rr, hr, rfl⟩ := om h; exact pd_tup (ih.es c X es rr xo hr)
 | List es pos =>
  obtain ⟨rr, hr, rfl⟩ := om h
  cases c.isMut pos with
  | true => exact pd_newL (ih.es c X es rr xo hr)
  | false => exact pd_lst (ih.es c X es rr xo hr)
 | Call f es ks pos => exact sd_call ih xo h
 | Subscript a i pos => exact sd_sub ih xo h
 | ListComp elt gens scope pos => exact (Qlq ih xo h).1
 | Dict ks vs pos =>
  cases ks with
  | cons _ _ => cases h
  | nil =>
   cases vs with
   | cons _ _ => cases h
   | nil =>
    cases h
    cases c.isMut pos with
    | true => exact pd_dictN
    | false => exact pd_dict0
 | _ => cases h
theorem sd_W {op : BoolOp} {es : List Expr} {pos : Pos} {r : Run} (ih : Sound n) (xo : XOK c X) (h : denT (n + 1) c (.BoolOp op es pos) = some r) : PW X (.BoolOp op es pos) (tDT X r) := by
 unfold denT at h
 cases es with
 | nil => cases h
 | cons a es =>
  cases es with
  | nil => exact pwt_one (ih.t c X a r xo h)
  | cons b rest =>
   obtain ⟨ra, ha, h⟩ := ob h
   obtain ⟨rb, hb, rfl⟩ := om h
   cases op with
   | And => exact pwt_and (ih.t c X a ra xo ha) (ih.w c X .And (b :: rest) pos rb xo hb)
   | Or => exact pwt_or (ih.t c X a ra xo ha) (ih.w c X .Or (b :: rest) pos rb xo hb)
theorem sd_T {e : Expr} {r : Run} (ih : Sound n) (xo : XOK c X) (h : denT (n + 1) c e = some r) : PT X e (tDT X r) := by
 have pl : QlE e = true->denE n c e = some r->PT X e (tDT X r) := fun hp h => pdt_val (ih.e c X e r xo h) (QlD hp)
 cases e with
 | BoolOp op es pos => exact (sd_W ih xo h).pt
 | UnaryOp op a pos =>
  unfold denT at h
  cases op with
  | Not => obtain ⟨ra, ha, rfl⟩ := om h; exact pdt_not (ih.t c X a ra xo ha)
  | _ => exact pl rfl h
 | Compare a ops bs pos => unfold denT at h; exact (sd_cmp ih xo h).2
 | _ => unfold denT at h; obtain ⟨hp, h⟩ := oite h; exact pl hp h
theorem sd_I {y : Str} {py : Pos} {e : Expr} {r : Src} (ih : Sound n) (xo : XOK c X) (h : denI (n + 1) c e = some r) : PDI X (.Name y py) e r := by
 have val : ∀ {r : Src}, (denE n c e).map Qaw = some r->PDI X (.Name y py) e r := fun {r} h => by
  obtain ⟨ra, ha, rfl⟩ := om h
  exact pdi_val (ih.e c X e ra xo ha)
 unfold denI at h
 cases e with
 | Call f es ks pos =>
  cases f with
  | Name x p =>
   cases ks with
   | nil =>
    by_cases hx : (x == ("range" : Str)) = true
    ·have h : (if x == ("range" : Str) then rngR c (denE n c) (QbX n c) x es else (denE n c (.Call (.Name x p) es [] pos)).map Qaw) = some r := h
     rw [if_pos hx] at h
     have hx' := eq_of_beq hx
     subst hx'
     exact sd_rng ih xo h
    ·have h : (if x == ("range" : Str) then rngR c (denE n c) (QbX n c) x es else (denE n c (.Call (.Name x p) es [] pos)).map Qaw) = some r := h
     rw [if_neg hx] at h
     exact val h
   | cons k ks => exact val h
  | _ => exact val h
 | _ => exact val h
end
theorem QeN : ∀ n, Sound n
 | 0 => ⟨fun _ _ _ _ _ h => by (unfold denE at h; cases h), fun _ _ _ _ _ h => by (unfold denT at h; cases h), fun _ _ _ _ _ _ _ h => by (unfold denT at h; cases h), fun _ _ _ _ _ h => by (unfold QbX at h; cases h), fun _ _ _ _ _ _ _ h => by (unfold denI at h; cases h), fun _ _ _ _ _ h => by (unfold denJ at h; cases h)⟩
 | n + 1 => by
  have ih := QeN n
  refine ⟨fun _ _ _ _ xo h => sd_E ih xo h, fun _ _ _ _ xo h => sd_T ih xo h, fun _ _ _ _ _ _ xo h => sd_W ih xo h, fun c X es r xo h => ?_, fun _ _ _ _ _ _ xo h => sd_I ih xo h, fun c X es rs xo h => ?_⟩
  ·unfold QbX at h
   cases es with
   | nil => cases h; exact Qgy
   | cons e es =>
    obtain ⟨hs, h⟩ := oite h
    obtain ⟨ra, ha, h⟩ := ob h
    obtain ⟨rr, hr, rfl⟩ := om h
    exact QeA (ih.e c X e ra xo ha) (ih.es c X es rr xo hr) (Qbi hs)
  ·unfold denJ at h
   cases es with
   | nil => cases h; exact .nil
   | cons e es =>
    obtain ⟨ra, ha, h⟩ := ob h
    obtain ⟨rr, hr, rfl⟩ := om h
    exact .cons (ih.e c X e ra xo ha) (ih.j c X es rr xo hr)
end DL
namespace DL
open PySem PySem.Spec PyProof.Rows L2
def Qfh : Expr->Bool
 | .ListComp _ _ _ _ => true
 | .SetComp _ _ _ _ => true
 | .DictComp _ _ _ _ _ => true
 | _ => false
theorem QcL {e : Expr} {t : Option Expr} {l : Nat} {env : Env} (h : Qfh e = false) : swapsWith e t l env = pure false := by
 cases e <;> first | rfl | exact absurd (show true = false from h) (by decide)
def isTup : Expr->Bool
 | .Tuple _ _ _ => true
 | _ => false
def locD (c : FC) (x : Str) : Option Nat := match c.sc.names.lookup x with
 | some .local => slot c.N x
 | some .cell => slot c.N x
 | _ => none
theorem Qmg {c : FC} {x : Str} {i : Nat} (h : locD c x = some i) : (c.sc.names.lookup x = some .local\/c.sc.names.lookup x = some .cell)/\slot c.N x = some i := by
 unfold locD at h
 split at h
 ·rename_i e; exact ⟨.inl e, h⟩
 ·rename_i e; exact ⟨.inr e, h⟩
 ·cases h
def asgD (c : FC) (E : Expr->Option Run) (e : Expr) : List Expr->Option RunS
 | [] => none
 | t :: ts => (match ts with
  | _ :: _ => none
  | [] => (match t with
   | .Name x _ => if oddC c e then none else (locD c x).bind fun i => (E e).map fun r => sSet i r
   | .Subscript o i _ => if Qfh e || isTup e || !Qcu i then none else (E o).bind fun ro => (E i).bind fun ri => (E e).map fun rv => QcH ro ri rv
   | _ => none))
def forD (c : FC) (I : Expr->Option Src) (E : Expr->Option Run) (Es : List Expr->Option Runs) (rb : RunS) (tg iter : Expr) : Option RunS := match tg with
 | .Name x _ => if QiO iter then (locD c x).bind fun i => (I iter).map fun src => sFor i src rb else none
 | .Tuple es _ _ => if QiO iter then (twoN es).bind fun (x, _, y, _) => (locD c x).bind fun i => (locD c y).bind fun j => (E iter).map fun r => Qkj i j r rb else none
 | _ => none
mutual
noncomputable def denS : Nat->FC->Stmt->Option RunS
 | 0, _, _ => none
 | n + 1, c, s => match s with
  | .Return v _ => (match v with
   | none => some sRetN
   | some e => (denE n c e).map sRet)
  | .Pass _ => some Qal
  | .Break _ => some sBrk
  | .Continue _ => some sCnt
  | .Assign ts e _ => asgD c (denE n c) e ts
  | .If t a b _ => (denT n c t).bind fun rt => (Qbh n c a).bind fun ra => (Qbh n c b).map fun rb => sIf rt ra rb
  | .For tg iter body orelse _ => (match orelse with
   | [] => if !c.cm then none else (Qbh n c body).bind fun rb => forD c (denI n c) (denE n c) (QbX n c) rb tg iter
   | _ :: _ => none)
  | .Expr e _ => if Qfh e then none else (denE n c e).map QdT
  | _ => none
noncomputable def Qbh : Nat->FC->List Stmt->Option RunS
 | 0, _, _ => none
 | n + 1, c, ss => match ss with
  | [] => some Qal
  | s :: ss => (denS n c s).bind fun a => (Qbh n c ss).map fun b => sSeq a b
end
structure XS (c : FC) (X : Cx) : Prop extends XOK c X where
 fnx : ∀ x, X.fn x = true
 own' : PassesOwn (model X.prog X.w) X.A X.env X.xe
structure SoundS (n : Nat) : Prop where
 s : ∀ (c : FC) (X : Cx) (s : Stmt) (r : RunS), XS c X->denS n c s = some r->PDS X s r
 ss : ∀ (c : FC) (X : Cx) (s : List Stmt) (r : RunS), XS c X->Qbh n c s = some r->PDSs X s r
theorem Qmf {c : FC} {X : Cx} {x : Str} {i : Nat} {p : Pos} (xo : XS c X) (h : locD c x = some i) : PG X (.Name x p) (Qfl i) := by
 obtain ⟨hl, hi⟩ := Qmg h
 exact Qgx (by rw [xo.N]; exact xo.nd) (by rw [xo.N]; exact Qex hi) (by show X.env.scope.names.lookup x = _\/_; rw [xo.sc]; exact hl) (.inl (xo.fnx x))
theorem Qlp {n : Nat} {c : FC} {X : Cx} {x : Str} {i : Nat} {e : Expr} {r : Run} {p pos : Pos} (xo : XS c X) (hl : locD c x = some i) (hodd : oddC c e = false) (he : denE n c e = some r) : PDS X (.Assign [.Name x p] e pos) (sSet i r) := by
 obtain ⟨hl, hi⟩ := Qmg hl
 have hN : X.N.Nodup := by rw [xo.N]; exact xo.nd
 have hx : X.N[i]? = some x := by rw [xo.N]; exact Qex hi
 have hL : Loc X.env.scope x := by show X.env.scope.names.lookup x = _\/_; rw [xo.sc]; exact hl
 have hp := (QeN n).e c X e r xo.toXOK he
 have plain : swapsWith e (some (.Name x p)) pos.line X.env = pure false->PDS X (.Assign [.Name x p] e pos) (sSet i r) := fun h => pds_set hN hx hL hp h (.inl (xo.fnx x))
 cases e with
 | ListComp elt gens scope cpos =>
  cases hb : X.env.blockKind == .function && X.env.kindOf x == some .local && p.line == cpos.line && !(scope.names.any fun (n, k) => n == x && (k == .local || k == .cell)) with
  | false => exact plain (congrArg pure hb)
  | true =>
   have hloc : X.env.scope.names.lookup x = some .local := by
    simp only [QnX] at hb
    exact eq_of_beq hb.1.1.2
   cases n with
   | zero => unfold denE at he; cases he
   | succ n => unfold denE at he; exact PS.imp ((Qlq (QeN n) xo.toXOK he).2 hodd hN hx hloc (congrArg pure hb)) fun D σ H h => Qns h
 | SetComp _ _ _ _ => cases n <;> (unfold denE at he; cases he)
 | DictComp _ _ _ _ _ => cases n <;> (unfold denE at he; cases he)
 | _ => exact plain rfl
theorem ss_asg {n : Nat} {c : FC} {X : Cx} {e : Expr} {ts : List Expr} {r : RunS} {pos : Pos} (xo : XS c X) (h : asgD c (denE n c) e ts = some r) : PDS X (.Assign ts e pos) r := by
 cases ts with
 | nil => cases h
 | cons t ts =>
  cases ts with
  | cons _ _ => cases h
  | nil =>
   cases t <;> first | (cases h; done) | skip
   ·rename_i o i p
    have h : (if Qfh e || isTup e || !Qcu i then none else (denE n c o).bind fun ro => (denE n c i).bind fun ri => (denE n c e).map fun rv => QcH ro ri rv) = some r := h
    cases hc1 : Qfh e with
    | true => rw [hc1] at h; cases h
    | false =>
     cases hc2 : isTup e with
     | true => rw [hc1, hc2] at h; cases h
     | false =>
      cases hc3 : Qcu i with
      | false => rw [hc1, hc2, hc3] at h; cases h
      | true =>
       rw [hc1, hc2, hc3] at h
       obtain ⟨ro, ho, h⟩ := ob h
       obtain ⟨ri, hi, h⟩ := ob h
       obtain ⟨rv, hv, rfl⟩ := om h
       have po := (QeN n).e c X o ro xo.toXOK ho
       have pi := (QeN n).e c X i ri xo.toXOK hi
       refine QlN (by have := xo.units; omega) po pi ((QeN n).e c X e rv xo.toXOK hv) (fun hs => pg_sub po pi hs (by intro v; cases i <;> first | rfl | exact absurd (show false = true from hc3) QnE)) (show swapsWith e (some (.Subscript o i p)) pos.line X.env = pure false from QcL hc1) ?_ (QcL hc1)
       cases e <;> first | rfl | exact absurd (show true = false from hc2) (by decide)
   ·obtain ⟨ho, h⟩ := oite3 h
    obtain ⟨i, hi, h⟩ := ob h
    obtain ⟨ra, ha, rfl⟩ := om h
    exact Qlp xo hi ho ha
theorem ss_for {n : Nat} {c : FC} {X : Cx} {tg iter : Expr} {body : List Stmt} {rb r : RunS} {pos : Pos} (ih : SoundS n) (xo : XS c X) (hcm : c.cm = true) (hb : Qbh n c body = some rb) (h : forD c (denI n c) (denE n c) (QbX n c) rb tg iter = some r) : PDS X (.For tg iter body [] pos) r := by
 cases tg <;> first | (cases h; done) | skip
 ·rename_i x p
  obtain ⟨hs, h⟩ := oite h
  obtain ⟨i, hi, h⟩ := ob h
  obtain ⟨src, hsrc, rfl⟩ := om h
  exact pds_for xo.own' (xo.calm hcm) ((QeN n).i c X x p iter src xo.toXOK hsrc) (Qmf xo hi) (ih.ss c X body rb xo hb) (Qda hs)
 ·obtain ⟨hs, h⟩ := oite h
  obtain ⟨⟨x, p, y, q⟩, he, h⟩ := ob h
  obtain ⟨i, hi, h⟩ := ob h
  obtain ⟨j, hj, h⟩ := ob h
  obtain ⟨ri, hr, rfl⟩ := om h
  have he := Qld he
  subst he
  exact pds_forP xo.own' (xo.calm hcm) ((QeN n).e c X iter ri xo.toXOK hr) (Qmf xo hi) (Qmf xo hj) (ih.ss c X body rb xo hb) (Qda hs)
theorem soundS : ∀ n, SoundS n
 | 0 => ⟨fun _ _ _ _ _ h => by (unfold denS at h; cases h), fun _ _ _ _ _ h => by (unfold Qbh at h; cases h)⟩
 | n + 1 => by
  have ih := soundS n
  refine ⟨fun c X s r xo h => ?_, fun c X ss r xo h => ?_⟩
  ·unfold denS at h
   cases s with
   | Return v pos =>
    cases v with
    | none => cases h; exact pds_retN
    | some e => obtain ⟨ra, ha, rfl⟩ := om h; exact pds_ret ((QeN n).e c X e ra xo.toXOK ha)
   | Pass _ => cases h; exact pds_pass
   | Break _ => cases h; exact pds_brk
   | Continue _ => cases h; exact pds_cnt
   | Assign ts e pos => exact ss_asg xo h
   | If t a b pos =>
    obtain ⟨rt, ht, h⟩ := ob h
    obtain ⟨ra, ha, h⟩ := ob h
    obtain ⟨rb, hb, rfl⟩ := om h
    exact pds_if ((QeN n).t c X t rt xo.toXOK ht) (ih.ss c X a ra xo ha) (ih.ss c X b rb xo hb)
   | For tg iter body orelse pos =>
    cases orelse with
    | cons _ _ => cases h
    | nil =>
     obtain ⟨hcm, h⟩ := QgB h
     obtain ⟨rb, hb, h⟩ := ob h
     exact ss_for ih xo hcm hb h
   | Expr e pos =>
    have h : (if Qfh e then none else (denE n c e).map QdT) = some r := h
    cases hc : Qfh e with
    | true => rw [hc] at h; cases h
    | false =>
     rw [hc] at h
     obtain ⟨ra, ha, rfl⟩ := om h
     exact pds_drop ((QeN n).e c X e ra xo.toXOK ha) (QcL hc)
   | _ => cases h
  ·unfold Qbh at h
   cases ss with
   | nil => cases h; exact pdss_nil
   | cons s ss =>
    obtain ⟨ra, ha, h⟩ := ob h
    obtain ⟨rb, hb, rfl⟩ := om h
    exact QlM (ih.s c X s ra xo ha) (ih.ss c X ss rb xo hb)
def QaF (N ps : List Str) (sc : Scope) : Bool :=
 (sc.kind == .function) && !sc.isCoroutine && !sc.isGenerator && decide N.Nodup && decide (N.take ps.length = ps) && ps.all (fun x => sc.names.lookup x == some .local || sc.names.lookup x == some .cell) && sc.names.all (fun y => y.2 != .free)
theorem Qke {N ps : List Str} {sc : Scope} (h : QaF N ps sc = true) : FnScope N ps sc := by
 unfold QaF at h
 simp only [QnX, List.all_eq_true, decide_eq_true_eq, beq_iff_eq, Bool.not_eq_true', Bool.or_eq_true] at h
 obtain ⟨⟨⟨⟨⟨⟨h1, h2⟩, h3⟩, h4⟩, h5⟩, h6⟩, h7⟩ := h
 exact ⟨h1, h2, h3, h4, h5, fun x hx => h6 x hx, fun y hy e => by have := h7 y hy; rw [e] at this; cases this⟩
structure TX (P : Program) (w : World) (K : PySem.W.Frag) (mg : Str->Option Value) (base : Heap) (gl : List (Str × GV)) (k : Nat) : Prop where
 con : ∀ x w', gl.lookup x = some (.con w')->∃ u v, mg x = some u/\RelV v u/\∀ ι N G, RelW K ι N G v w'
 fn : ∀ x n op, gl.lookup x = some (.fn n op)->∃ f fd ps, FnOk P w K mg base CX0 k f fd ps (SpD K n op)/\mg x = some (.ref f)/\PySem.W.keepIn K (.ref f) = true/\Qcs K fd ps []/\ps.length = n
 blt : ∀ x, gl.lookup x = some .blt->mg x = none
 fx : ∀ x n b op, gl.lookup x = some (.fx n b op)->∃ f fd ps, FnX b P w K mg base k f fd ps (SpX K n op)/\mg x = some (.ref f)/\PySem.W.keepIn K (.ref f) = true/\Qcs K fd ps []/\ps.length = n
 exc : ∀ y own tab, gl.lookup y = some (.exc own tab)->∃ cv vc, ExcOk K mg y own tab cv vc
 dcon : ∀ x ks ws, gl.lookup x = some (.dcon ks ws)->KDs P w K mg x ks ws
theorem def_ok {P : Program} {w : World} {K : PySem.W.Frag} {mg : Str->Option Value} {base : Heap} {gl : List (Str × GV)} {k n : Nat} {x qual : Str} {st : Stmt} {f : Addr} {fd : FuncData} {N ps : List Str} {mts : List (Nat × Nat)} {fz : Nat} {run : RunS} (T : TX P w K mg base gl k) (F : Fun K x qual st f fd) (hs : QaF N ps (Qad st) = true)
  (hd : Qbh n ⟨N, Qad st, gl, mts, true, false⟩ (Qat st) = some run) : FnOk P w K mg base CX0 (k + 3) f fd ps (SpD K ps.length (QaI ps.length N.length fz run)) := by
 have Sc := Qke hs
 refine fn_body (k := k + 2) F Sc fun cdv A outer s H E hr => (soundS n).ss ⟨N, Qad st, gl, mts, true, false⟩ _ _ run ⟨⟨rfl, Sc.nd, rfl, fun _ => rfl, fun _ => hr.hd, (by have h := hr.un; show (A.deeper (envOfC qual (Qad st) s.heap.objs.size f cdv)).units + 80 < cLine; omega), fun y hy => ?_, T.con, fun _ x n op h => ?_, T.blt, fun x n b op h => ?_, T.exc, (fun z => Bool.noConfusion z), T.dcon⟩, fun _ => rfl, PassesOwn.never⟩ hd
 ·rcases hy with hy | hy
  ·exact PySem.W.cellsFrom_some _ _ _ (.inl hy)
  ·exact absurd rfl (Sc.nofree _ (PySem.mem_of_lookup hy))
 ·obtain ⟨f, fd, ps, h1, h2, h3, h4, h5⟩ := T.fn x n op h
  exact ⟨k, f, fd, ps, h1, hr, h2, h3, h4, h5⟩
 ·obtain ⟨f, fd, ps, h1, h2, h3, h4, h5⟩ := T.fx x n b op h
  exact ⟨k, f, fd, ps, h1, ⟨(fun z => Bool.noConfusion z), hr.dp, hr.un⟩, h2, h3, h4, h5⟩
end DL
namespace DL
open PySem PySem.Spec PyProof.Rows L2
structure DefAt (K : PySem.W.Frag) (mg : Str->Option Value) (x : Str) (st : Stmt) (ps : List Str) : Prop where
 ex : ∃ f fd, Fun K x x st f fd/\mg x = some (.ref f)/\Qcs K fd ps []
theorem defAt_mk {K : PySem.W.Frag} {h : Heap} {mg : Str->Option Value} {x : Str} {st : Stmt} {ps : List Str} {f : Addr} {oc : Value} {od an : Option Addr} {osl : Array (Option Value)} {kV doc pm cdv ct : Value} (X : K.In h) (G : h.Ns mainGlobals mg)
  (a : PySem.W.nsIn K mainGlobals x = some (some (.ref f))) (l : K.lookup f = some ⟨oc, od, .func (PySem.W.fnOf x x (Qci st) (Qat st) (Qad st) .none kV doc pm an cdv ct), osl⟩)
  (c : PySem.W.codeIn K cdv x = true) (k : PySem.W.keepIn K (.ref f) = true)
  (hb : ∀ (kV doc pm : Value) (an : Option Addr) (cdv ct : Value) (us : List Value), us.length = ps.length->bindArgs (PySem.W.fnOf x x (Qci st) (Qat st) (Qad st) .none kV doc pm an cdv ct) ⟨us, []⟩ = pure (ps.zip us)) : DefAt K mg x st ps :=
 have F := fun_mk (st := st) l c k
 ⟨_, _, F, PySem.W.mg_of X G a, F.binds hb⟩
section
variable {P : Program} {w : World} {K : PySem.W.Frag} {mg : Str->Option Value} {base : Heap} {gl : List (Str × GV)} {k : Nat}
theorem TX.mono {k' : Nat} (h : TX P w K mg base gl k) (hk : k<=k') : TX P w K mg base gl k' :=
 ⟨h.con, fun x n op e => let ⟨f, fd, ps, h1, h2⟩ := h.fn x n op e; ⟨f, fd, ps, h1.mono hk, h2⟩, h.blt, fun x n b op e => let ⟨f, fd, ps, h1, h2⟩ := h.fx x n b op e; ⟨f, fd, ps, h1.mono hk, h2⟩, h.exc, h.dcon⟩
def GOk (P : Program) (w : World) (K : PySem.W.Frag) (mg : Str->Option Value) (base : Heap) (k : Nat) (x : Str) : GV->Prop
 | .con w' => ∃ u v, mg x = some u/\RelV v u/\∀ ι N G, RelW K ι N G v w'
 | .fn n op => ∃ f fd ps, FnOk P w K mg base CX0 k f fd ps (SpD K n op)/\mg x = some (.ref f)/\PySem.W.keepIn K (.ref f) = true/\Qcs K fd ps []/\ps.length = n
 | .blt => mg x = none
 | .fx n b op => ∃ f fd ps, FnX b P w K mg base k f fd ps (SpX K n op)/\mg x = some (.ref f)/\PySem.W.keepIn K (.ref f) = true/\Qcs K fd ps []/\ps.length = n
 | .exc own tab => ∃ cv vc, ExcOk K mg x own tab cv vc
 | .dcon ks ws => KDs P w K mg x ks ws
theorem TX.get (h : TX P w K mg base gl k) {x : Str} {g : GV} (q : gl.lookup x = some g) : GOk P w K mg base k x g := by
 cases g with
 | con w' => exact h.con x w' q
 | fn n op => exact h.fn x n op q
 | blt => exact h.blt x q
 | fx n b op => exact h.fx x n b op q
 | exc own tab => exact h.exc x own tab q
 | dcon ks ws => exact h.dcon x ks ws q
theorem TX.of (h : ∀ x g, gl.lookup x = some g->GOk P w K mg base k x g) : TX P w K mg base gl k :=
 ⟨fun x w' q => h x _ q, fun x n op q => h x _ q, fun x q => h x _ q, fun x n b op q => h x _ q, fun x own tab q => h x _ q, fun x ks ws q => h x _ q⟩
theorem TX.add {x : Str} {g : GV} (h : TX P w K mg base gl k) (e : GOk P w K mg base k x g) : TX P w K mg base ((x, g) :: gl) k := TX.of fun y g' q => by
 rw [List.lookup_cons] at q
 cases hy : y == x with
 | true =>
  rw [hy] at q
  cases q
  have := eq_of_beq hy
  subst this
  exact e
 | false => rw [hy] at q; exact h.get q
theorem TX.cons {x : Str} {n : Nat} {op : OpN} (h : TX P w K mg base gl k) (e : ∃ f fd ps, FnOk P w K mg base CX0 k f fd ps (SpD K n op)/\mg x = some (.ref f)/\PySem.W.keepIn K (.ref f) = true/\Qcs K fd ps []/\ps.length = n) : TX P w K mg base ((x, .fn n op) :: gl) k := h.add e
theorem TX.fnOf {x : Str} {st : Stmt} {N ps : List Str} {mts : List (Nat × Nat)} {fz : Nat} {run : RunS} {n : Nat} (T : TX P w K mg base gl k) (D : DefAt K mg x st ps) (hs : QaF N ps (Qad st) = true) (hd : Qbh n ⟨N, Qad st, gl, mts, true, false⟩ (Qat st) = some run) :
  ∃ f fd ps', FnOk P w K mg base CX0 (k + 3) f fd ps' (SpD K ps.length (QaI ps.length N.length fz run))/\mg x = some (.ref f)/\PySem.W.keepIn K (.ref f) = true/\Qcs K fd ps' []/\ps'.length = ps.length := by
 obtain ⟨f, fd, F, hm, hb⟩ := D.ex
 exact ⟨f, fd, ps, def_ok T F hs hd, hm, F.kp, hb, rfl⟩
theorem TX.fn0 {x : Str} {st : Stmt} {ps : List Str} (D : DefAt K mg x st ps) : ∃ f fd ps', FnOk P w K mg base CX0 k f fd ps' (SpD K ps.length (fun _ _ => .stuck))/\mg x = some (.ref f)/\PySem.W.keepIn K (.ref f) = true/\Qcs K fd ps' []/\ps'.length = ps.length := by
 obtain ⟨f, fd, F, hm, hb⟩ := D.ex
 exact ⟨f, fd, ps, ⟨fun _ _ _ _ h => h.1, fun _ _ _ _ _ _ _ _ _ _ _ _ _ ⟨_, _, _, _, _, _, _, h⟩ => (show False from h).elim⟩, hm, F.kp, hb, rfl⟩
theorem TX.nil {w0 : Nat} : TX P w K mg base [] w0 := TX.of fun _ _ h => by cases h
theorem TX.blt1 {x : Str} (h : TX P w K mg base gl k) (hm : mg x = none) : TX P w K mg base ((x, .blt) :: gl) k := h.add hm
end
def st0 : S := ⟨0, fun _ => none⟩
theorem sp_start {K : PySem.W.Frag} {H : Hp} {a : Addr} {ns : List Int} {op : OpN} (hS : SqL K H a (ns.map V.int)) (h : ∃ st', op [.lst (ns.map W.int)] st0 = .ok (.bl true) st') : SpD K 1 op [.ref a] H (fun v _ => v = .bl true) fun _ _ _ => False := by
 obtain ⟨st', e⟩ := h
 refine ⟨rfl, fun _ => 0, H, st0, [.lst (ns.map W.int)], ⟨Same.refl H, fun n o q => (by cases q), fun n m o o' q => (by cases q)⟩, .cons (.lst hS (RelWs.ofInts ns)) .nil, ?_⟩
 rw [e]
 intro v ι' G' H' _ _ r
 cases r; rfl
theorem walkD {l : PySem.W.OpenLaw} {q : Program} {loose : List Str} {XP : (Str->Option Value)->Heap->Prop} {YP : World->Heap->Prop} {d : DefRec} {K : Params->PySem.W.Frag} {op : OpN} {k : Nat} {x : Str} (hn : l.most = some 63) (hdf : d.params.defaults = []) (hr : Room k callerA)
  (hY : ∀ (w : World) (h : Heap), YP w h->(K w.params).In h) (hop : ∀ ns : List Int, ns.length<=63->∃ st', op [.lst (ns.map W.int)] st0 = .ok (.bl true) st')
  (F : ∀ (w : World) (mg : Str->Option Value) (fa : Addr) (h : Heap), (K w.params).In h->h.Ns mainGlobals mg->mg d.name = some (.ref fa) ->
   ∃ fd : FuncData, (∀ (s : Shared) (u : Value), BindsTo s fd ⟨[u], []⟩ [(x, u)])/\∀ base : Heap, (K w.params).In base->base.Ns mainGlobals mg->FnOk l.prog w (K w.params) mg base CX0 k fa fd [x] (SpD (K w.params) 1 op)) :
  PySem.W.WalkO q loose XP YP l.row.toRowW d [] (fun f vs => PySem.call f vs) :=
 L2.walk_of (n := 63) (k := k) (x := x) (CX := fun _ => CX0) (sp := fun w => SpD (K w.params) 1 op) hn (by decide) hdf hr hY F (fun _ _ a ns hl _ hS => sp_start hS (hop ns hl)) fun _ _ _ _ _ z => z
end DL
namespace DL
open PySem PySem.Spec PyProof.Rows L2
section
variable {α β : Type} {st : S} {Γ : Ga}
theorem Qac (a : α) (s : S) (f : α->S->R β) : (R.ok a s).bind f = f a s := Eq.trans rfl rfl
theorem Qcw (a : α) (s : S) : (R.ok a s).calm = R.ok a s := Eq.trans rfl rfl
def kIf (A B : S->R α) (w : W) (s : S) : R α := match w with
 | .bl true => A s
 | .bl false => B s
 | _ => .stuck
theorem Qaz (A B : S->R α) (b : Bool) (s : S) : kIf A B (.bl b) s = if b = true then A s else B s := by cases b <;> rfl
def kSeq (b : RunS) (fl : Fl) (s : S) : R Fl := match fl with
 | .nx Γ' => b Γ' s
 | fl => .ok fl s
theorem Qae (b : RunS) (Γ : Ga) (s : S) : kSeq b (.nx Γ) s = b Γ s := Eq.trans rfl rfl
theorem Qdp (b : RunS) (w : W) (s : S) : kSeq b (.rt w) s = .ok (.rt w) s := Eq.trans rfl rfl
theorem Qai (a b : RunS) : sSeq a b Γ st = (a Γ st).bind (kSeq b) := Eq.trans rfl rfl
theorem QbC (rc : Run) (a b : RunS) : sIf rc a b Γ st = (rc Γ st).bind (kIf (a Γ) (b Γ)) := Eq.trans rfl rfl
theorem ev_ret (r : Run) : sRet r Γ st = (r Γ st).bind fun w s => .ok (.rt w) s := Eq.trans rfl rfl
theorem Qas : Qal Γ st = .ok (.nx Γ) st := Eq.trans rfl rfl
theorem Qfn (r : Run) : QdT r Γ st = (r Γ st).bind fun _ s => .ok (.nx Γ) s := Eq.trans rfl rfl
theorem QaD (w : W) : rVar 0 (some w :: Γ) st = .ok w st := Eq.trans rfl rfl
theorem QaO (a : Option W) (w : W) : rVar 1 (a :: some w :: Γ) st = .ok w st := Eq.trans rfl rfl
theorem QbF (a b : Option W) (w : W) : rVar 2 (a :: b :: some w :: Γ) st = .ok w st := Eq.trans rfl rfl
theorem Qbg (a b c : Option W) (w : W) : rVar 3 (a :: b :: c :: some w :: Γ) st = .ok w st := Eq.trans rfl rfl
theorem QfH (a b c d : Option W) (w : W) : rVar 4 (a :: b :: c :: d :: some w :: Γ) st = .ok w st := Eq.trans rfl rfl
theorem ev_v5 (a b c d e : Option W) (w : W) : rVar 5 (a :: b :: c :: d :: e :: some w :: Γ) st = .ok w st := Eq.trans rfl rfl
theorem ev_v6 (a b c d e f : Option W) (w : W) : rVar 6 (a :: b :: c :: d :: e :: f :: some w :: Γ) st = .ok w st := Eq.trans rfl rfl
theorem ev_v7 (a b c d e f g : Option W) (w : W) : rVar 7 (a :: b :: c :: d :: e :: f :: g :: some w :: Γ) st = .ok w st := Eq.trans rfl rfl
theorem ev_v8 (a b c d e f g h : Option W) (w : W) : rVar 8 (a :: b :: c :: d :: e :: f :: g :: h :: some w :: Γ) st = .ok w st := Eq.trans rfl rfl
theorem QfV (i : Nat) (src : Src) (body : RunS) : sFor i src body Γ st = (src Γ st).bind fun items s => QbI i body items Γ s := Eq.trans rfl rfl
theorem ev_rng1 (r : Run) (i : Int) (h : r Γ st = .ok (.int i) st) (h0 : -4611686018427387904<=i) (h1 : i < 4611686018427387904) : QaG r Γ st = .ok (QaQ 0 i.toNat) st := by
 unfold QaG
 rw [h]
 exact if_pos ⟨h0, h1⟩
def kLo (m : Bool) (w l : W) (s : S) : R W := match l with
 | .int i => opSl m (some i) none w s
 | _ => .stuck
def kHi (m : Bool) (w l : W) (s : S) : R W := match l with
 | .int i => opSl m none (some i) w s
 | _ => .stuck
theorem kLo_int (m : Bool) (w : W) (i : Int) (s : S) : kLo m w (.int i) s = opSl m (some i) none w s := Eq.trans rfl rfl
theorem kHi_int (m : Bool) (w : W) (i : Int) (s : S) : kHi m w (.int i) s = opSl m none (some i) w s := Eq.trans rfl rfl
theorem QmN (m : Bool) (a b : Run) : Qcg m a b Γ st = (a Γ st).bind fun w s => (b Γ s).bind fun l s => kLo m w l s := Eq.trans rfl rfl
theorem QmO (m : Bool) (a b : Run) : QcI m a b Γ st = (a Γ st).bind fun w s => (b Γ s).bind fun l s => kHi m w l s := Eq.trans rfl rfl
theorem ev_slT (ws : List W) (lo hi : Option Int) : opSl false lo hi (.tup ws) st = .ok (.tup (cutW ws lo hi)) st := Eq.trans rfl rfl
theorem Qaf (w : W) : rCon w Γ st = .ok w st := Eq.trans rfl rfl
theorem QgQ (r : Run) (o : W->S->R W) : run1 r o Γ st = (r Γ st).bind o := Eq.trans rfl rfl
theorem Qag (a b : Run) (o : Op2) : run2 a b o Γ st = (a Γ st).bind fun x s => (b Γ s).bind fun y s => o x y s := Eq.trans rfl rfl
theorem QbW (rr : Runs) (o : OpN) : DL.runN rr o Γ st = (rr Γ st).bind o := Eq.trans rfl rfl
theorem QdM (o : OpN) (ws : List W) : Qak o ws st = (o ws st).calm := Eq.trans rfl rfl
theorem QbB : Qab Γ st = .ok [] st := Eq.trans rfl rfl
theorem Qaq (r : Run) (rr : Runs) : Qaa r rr Γ st = (r Γ st).bind fun w s => (rr Γ s).bind fun ws s => .ok (w :: ws) s := Eq.trans rfl rfl
theorem QfW (a b : Run) : QaZ a b Γ st = (a Γ st).bind (kIf (b Γ) (fun s => .ok (.bl false) s)) := Eq.trans rfl rfl
theorem QkH (a b : Run) : Qch a b Γ st = (a Γ st).bind (kIf (fun s => .ok (.bl true) s) (b Γ)) := Eq.trans rfl rfl
def kNot (w : W) (s : S) : R W := match w with
 | .bl b => .ok (.bl (!b)) s
 | _ => .stuck
theorem Qmu (b : Bool) (s : S) : kNot (.bl b) s = .ok (.bl (!b)) s := Eq.trans rfl rfl
theorem ev_not (a : Run) : QdA a Γ st = (a Γ st).bind kNot := Eq.trans rfl rfl
theorem ev_runIf (c a b : Run) : Qlw c a b Γ st = (c Γ st).bind (kIf (a Γ) (b Γ)) := Eq.trans rfl rfl
theorem ev_rtL (s0 s : S) (w : W) : QiU 2 s0 (.ok (.rt w) s) = QkB s0 s w := Eq.trans rfl rfl
theorem Qel (s0 s : S) (w : W) : QiU 1 s0 (.ok (.rt w) s) = keep s0 s w := Eq.trans rfl rfl
theorem QcO (nl fz : Nat) (run : RunS) (w : W) : QaI 1 nl fz run [w] st = QiU fz st (run (some w :: List.replicate (nl - 1) none) st) := Eq.trans rfl rfl
theorem QfU (nl fz : Nat) (run : RunS) (w w' : W) : QaI 2 nl fz run [w, w'] st = QiU fz st (run (some w :: some w' :: List.replicate (nl - 2) none) st) := Eq.trans rfl rfl
theorem QmP (nl fz : Nat) (run : RunS) (w w' w2 : W) : QaI 3 nl fz run [w, w', w2] st = QiU fz st (run (some w :: some w' :: some w2 :: List.replicate (nl - 3) none) st) := Eq.trans rfl rfl
theorem Qfo (i j : Int) : Qau (.int i) (.int j) st = .ok (.int (i + j)) st := Eq.trans rfl rfl
theorem ev_subI (i j : Int) : QeT (.int i) (.int j) st = .ok (.int (i - j)) st := Eq.trans rfl rfl
theorem QmR (i j : Int) (h : CMul i j) : Qbf (.int i) (.int j) st = .ok (.int (i * j)) st := if_pos h
theorem ev_mulR (i j : Int) (h0 : -1000000<=j) (h1 : j<=1000000) : Qbf (.int i) (.int j) st = .ok (.int (i * j)) st := QmR i j (.inr ⟨by omega, by omega⟩)
theorem ev_mulL (i j : Int) (h0 : -1000000<=i) (h1 : i<=1000000) : Qbf (.int i) (.int j) st = .ok (.int (i * j)) st := QmR i j (.inl ⟨by omega, by omega⟩)
theorem ev_divI (i j : Int) (h : 0 < j) (h' : j < 1073741824) : Qay (.int i) (.int j) st = .ok (.int (i / j)) st := if_pos ⟨h, h'⟩
theorem ev_modI (i j : Int) (h : 0 < j) : Qap (.int i) (.int j) st = .ok (.int (i % j)) st := if_pos h
theorem QmQ (i : Int) : QhA (.int i) st = .ok (.int (-i)) st := Eq.trans rfl rfl
theorem QmS (i j : Int) : opLt (.int i) (.int j) st = .ok (.bl (decide (i < j))) st := Eq.trans rfl rfl
theorem ev_gtI (i j : Int) : opGt (.int i) (.int j) st = .ok (.bl (decide (j < i))) st := Eq.trans rfl rfl
theorem QjR (i j : Int) : opEq (.int i) (.int j) st = .ok (.bl (i == j)) st := Eq.trans rfl rfl
theorem ev_neI (i j : Int) : opNe (.int i) (.int j) st = .ok (.bl (!(i == j))) st := Eq.trans rfl rfl
theorem ev_eqB (i j : Bool) : opEq (.bl i) (.bl j) st = .ok (.bl (i == j)) st := Eq.trans rfl rfl
theorem ev_neB (i j : Bool) : opNe (.bl i) (.bl j) st = .ok (.bl (!(i == j))) st := Eq.trans rfl rfl
theorem QhS (i j : Str) : opEq (.str i) (.str j) st = .ok (.bl (i == j)) st := Eq.trans rfl rfl
theorem ev_addS (x y : Str) (h : x.length + y.length<=sizeLine) : Qau (.str x) (.str y) st = .ok (.str (x ++ y)) st := if_pos h
theorem QgR (xs : List W) : QaX [.lst xs] st = .ok (.int xs.length) st := Eq.trans rfl rfl
theorem Qja (xs : List W) : QaX [.tup xs] st = .ok (.int xs.length) st := Eq.trans rfl rfl
theorem ev_lenS (x : Str) (h : x.length<=sizeLine) : QaX [.str x] st = .ok (.int x.length) st := if_pos h
theorem Qcz (ws : List W) (h : ws.length<=sizeLine) : opL false ws st = .ok (.lst ws) st := if_pos h
theorem Qek (ws : List W) (h : ws.length<=sizeLine) : QaM ws st = .ok (.tup ws) st := if_pos h
theorem Qdr (ws : List W) (i : Int) (w : W) (h : atI ws i = some w) : Qah (.lst ws) (.int i) st = .ok w st := by
 show (match atI ws i with | some w => R.ok w st | none => .stuck) = _
 rw [h]
theorem Qjb (ws : List W) (i : Int) (w : W) (h : atI ws i = some w) : Qah (.tup ws) (.int i) st = .ok w st := by
 show (match atI ws i with | some w => R.ok w st | none => .stuck) = _
 rw [h]
theorem ev_idxS (z : Str) (i : Int) (c : Nat) (hz : z.length<=sizeLine) (h : atI z.cps.toList i = some c) : Qah (.str z) (.int i) st = .ok (.str ⟨#[c]⟩) st := by
 show (if z.length<=sizeLine then (match atI z.cps.toList i with | some c => R.ok (W.str ⟨#[c]⟩) st | none => .stuck) else .stuck) = _
 rw [if_pos hz, h]
theorem Qam {n : Nat} (h : n<=1000) : n<=sizeLine := Nat.le_of_lt (Qdx h)
theorem at_in {γ : Type} (xs : List γ) (i : Int) (h0 : 0<=i) (h1 : i < xs.length) : ∃ x, atI xs i = some x/\x ∈ xs := by
 have hj : i.toNat < xs.length := by omega
 refine ⟨xs[i.toNat], ?_, List.getElem_mem hj⟩
 have e : ((i.toNat : Nat) : Int) = i := by omega
 have h := Qnp (xs := xs) (j := i.toNat) (QnF hj)
 rw [e] at h
 exact h
theorem QdP {γ : Type} (xs : List γ) (k : Nat) (x : γ) (h : xs[k]? = some x) : atI xs (k : Int) = some x := Qnp h
theorem QmD (x : W) (xs : List W) : Qah (.tup (x :: xs)) (.int 0) st = .ok x st := Qjb _ 0 x (QdP (x :: xs) 0 x rfl)
theorem idx1T (x y : W) (xs : List W) : Qah (.tup (x :: y :: xs)) (.int 1) st = .ok y st := Qjb _ 1 y (QdP (x :: y :: xs) 1 y rfl)
theorem ev_isi (w : W) (T : String) : Qax [w, .ty T] st = if kinds.contains T then (match Qdd st w with | some k => .ok (.bl (QdI k T)) st | none => .stuck) else .stuck := Eq.trans rfl rfl
end
section
variable {st : S} {Γ : Ga}
def kSet (i : Nat) (Γ : Ga) (w : W) (s : S) : R Fl := .ok (.nx (Γ.set i (some w))) s
theorem ks1 (a z : Option W) (Γ : Ga) (w : W) (s : S) : kSet 1 (a :: z :: Γ) w s = .ok (.nx (a :: some w :: Γ)) s := Eq.trans rfl rfl
theorem ks2 (a b z : Option W) (Γ : Ga) (w : W) (s : S) : kSet 2 (a :: b :: z :: Γ) w s = .ok (.nx (a :: b :: some w :: Γ)) s := Eq.trans rfl rfl
theorem ks3 (a b c z : Option W) (Γ : Ga) (w : W) (s : S) : kSet 3 (a :: b :: c :: z :: Γ) w s = .ok (.nx (a :: b :: c :: some w :: Γ)) s := Eq.trans rfl rfl
theorem ks4 (a b c d z : Option W) (Γ : Ga) (w : W) (s : S) : kSet 4 (a :: b :: c :: d :: z :: Γ) w s = .ok (.nx (a :: b :: c :: d :: some w :: Γ)) s := Eq.trans rfl rfl
theorem ks5 (a b c d e z : Option W) (Γ : Ga) (w : W) (s : S) : kSet 5 (a :: b :: c :: d :: e :: z :: Γ) w s = .ok (.nx (a :: b :: c :: d :: e :: some w :: Γ)) s := Eq.trans rfl rfl
theorem ks6 (a b c d e f z : Option W) (Γ : Ga) (w : W) (s : S) : kSet 6 (a :: b :: c :: d :: e :: f :: z :: Γ) w s = .ok (.nx (a :: b :: c :: d :: e :: f :: some w :: Γ)) s := Eq.trans rfl rfl
theorem ks7 (a b c d e f g z : Option W) (Γ : Ga) (w : W) (s : S) : kSet 7 (a :: b :: c :: d :: e :: f :: g :: z :: Γ) w s = .ok (.nx (a :: b :: c :: d :: e :: f :: g :: some w :: Γ)) s := Eq.trans rfl rfl
theorem ks8 (a b c d e f g h z : Option W) (Γ : Ga) (w : W) (s : S) : kSet 8 (a :: b :: c :: d :: e :: f :: g :: h :: z :: Γ) w s = .ok (.nx (a :: b :: c :: d :: e :: f :: g :: h :: some w :: Γ)) s := Eq.trans rfl rfl
theorem Qbq (i : Nat) (r : Run) : sSet i r Γ st = (r Γ st).bind (kSet i Γ) := Eq.trans rfl rfl
end
end DL
namespace DL
open PySem PySem.Spec PyProof.Rows L2
section
variable {K : PySem.W.Frag}
structure DIn (K : PySem.W.Frag) (x : Str) (st : Stmt) : Prop where
 ex : ∃ (f : Addr) (oc : Value) (od : Option Addr) (kV doc pm : Value) (an : Option Addr) (cdv ct : Value) (osl : Array (Option Value)), PySem.W.nsIn K mainGlobals x = some (some (.ref f)) /\
  K.lookup f = some ⟨oc, od, .func (PySem.W.fnOf x x (Qci st) (Qat st) (Qad st) .none kV doc pm an cdv ct), osl⟩/\PySem.W.codeIn K cdv x = true/\PySem.W.keepIn K (.ref f) = true
theorem DIn.mk' {x : Str} {st : Stmt} {f : Addr} {oc : Value} {od : Option Addr} {kV doc pm : Value} {an : Option Addr} {cdv ct : Value} {osl : Array (Option Value)} (a : PySem.W.nsIn K mainGlobals x = some (some (.ref f)))
  (l : K.lookup f = some ⟨oc, od, .func (PySem.W.fnOf x x (Qci st) (Qat st) (Qad st) .none kV doc pm an cdv ct), osl⟩) (c : PySem.W.codeIn K cdv x = true) (p : PySem.W.keepIn K (.ref f) = true) : DIn K x st := ⟨_, _, _, _, _, _, _, _, _, _, a, l, c, p⟩
theorem DIn.at_ {x : Str} {st : Stmt} {ps : List Str} {h : Heap} {mg : Str->Option Value} (X : K.In h) (G : h.Ns mainGlobals mg) (d : DIn K x st)
  (hb : ∀ (kV doc pm : Value) (an : Option Addr) (cdv ct : Value) (us : List Value), us.length = ps.length->bindArgs (PySem.W.fnOf x x (Qci st) (Qat st) (Qad st) .none kV doc pm an cdv ct) ⟨us, []⟩ = pure (ps.zip us)) : DefAt K mg x st ps := by
 obtain ⟨_, _, _, _, _, _, _, _, _, _, a, l, c, p⟩ := d.ex
 exact defAt_mk X G a l c p hb
theorem DIn.law {x : Str} {st : Stmt} {y : Str} {h : Heap} {mg : Str->Option Value} {fa : Addr} {R : FuncData->Prop} (X : K.In h) (G : h.Ns mainGlobals mg) (d : DIn K x st) (hfa : mg x = some (.ref fa))
  (hb : ∀ (kV doc pm : Value) (an : Option Addr) (cdv ct : Value) (s : Shared) (u : Value), BindsTo s (PySem.W.fnOf x x (Qci st) (Qat st) (Qad st) .none kV doc pm an cdv ct) ⟨[u], []⟩ [(y, u)]) (hR : ∀ fd, Fun K x x st fa fd->R fd) :
  ∃ fd : FuncData, (∀ (s : Shared) (u : Value), BindsTo s fd ⟨[u], []⟩ [(y, u)])/\R fd := by
 obtain ⟨_, _, _, _, _, _, _, _, _, _, a, l, c, p⟩ := d.ex
 have e := hfa.symm.trans (PySem.W.mg_of X G a)
 cases e
 exact ⟨_, fun s u => hb _ _ _ _ _ _ s u, hR _ (fun_mk (st := st) l c p)⟩
end
end DL
namespace DL
open PySem PySem.Spec PyProof.Rows L2
def cp (z : Str) : List Nat := z.cps.toList
theorem Qia (z : Str) : (cp z).length = z.length := by unfold cp; rw [Array.length_toList]; rfl
theorem Qng (x y : Str) : cp (x ++ y) = cp x ++ cp y := by
 show (x.cps ++ y.cps).toList = _
 rw [Array.toList_append]; rfl
theorem cp_ext {x y : Str} (h : cp x = cp y) : x = y := by
 obtain ⟨a⟩ := x
 obtain ⟨b⟩ := y
 have : a = b := Array.toList_inj.mp h
 rw [this]
theorem cp_join0 : ∀ ys : List Str, cp (Txt.join "" ys) = (ys.map cp).flatten := by
 have e : ∀ ys : List Str, cp (Str.join "" ys) = (ys.map cp).flatten := by
  intro ys
  induction ys with
  | nil => rfl
  | cons x r ih =>
   cases r with
   | nil => show cp x = _; simp
   | cons y r =>
    show cp (x ++ ("" : Str) ++ Str.join "" (y :: r)) = _
    rw [Qng, Qng, ih]
    show cp x ++ [] ++ _ = _
    simp
 intro ys
 show cp (Builtin.Str.glued "" ys) = _
 rw [StrLaws.glued_eq_join]
 exact e ys
end DL
namespace DL.My
open PySem L2
def top (i : Nat) : Stmt := PySem.Challenge.pw_whyfacts_k18_heights_and_leaves.main.body.getD i (.Pass ⟨0, 0, 0, 0⟩)
def gl0 : List (Str × GV) := [("all", .blt), ("bool", .blt), ("int", .blt), ("isinstance", .blt), ("len", .blt), ("list", .blt), ("max", .blt), ("range", .blt), ("sorted", .blt), ("str", .blt), ("tuple", .blt), ("zip", .blt)]
abbrev Qbz : Stmt := top 4
def Qeq : List Str := ["reason", "found", "grounds"]
def Qep : List Str := ["reason"]
def QiA : List (Nat × Nat) := [(12, 12)]
noncomputable def QcJ : RunS :=
 (sSeq (sIf (run2 (run2 (rVar 0) (rCon (W.int 0)) Qah) (rCon (W.str "by")) opEq)
  (sSeq (sRet (runN (Qaa (run2 (rVar 0) (rCon (W.int 2)) Qah) Qab) (QbE false)))
 Qal)
  Qal)
 (sSeq (sSet 1 (runN Qab (opL true)))
 (sSeq (sIf (run2 (run2 (rVar 0) (rCon (W.int 0)) Qah) (rCon (W.str "of")) opEq)
  (sSeq (sFor 2 (Qaw (run2 (rVar 0) (rCon (W.int 3)) Qah)) (sSeq (QdT (runM "list" (rVar 1) (Qaa (rVar 2) Qab) QeX))
 Qal))
 Qal)
  Qal)
 (sSeq (sRet (rVar 1))
 Qal))))
noncomputable def Qbm : OpN := QaI 1 3 1 QcJ
abbrev QaP : Stmt := top 1
def QcU : List Str := ["value"]
def QcT : List Str := ["value"]
def QfC : List (Nat × Nat) := []
noncomputable def QbR : RunS :=
 (sSeq (sIf (runN (Qaa (rVar 0) (Qaa (rCon (.ty "str")) Qab)) Qax)
  (sSeq (sRet (runN (Qaa (rCon (W.int 1)) (Qaa (rVar 0) Qab)) QaM))
 Qal)
  Qal)
 (sSeq (sRet (runN (Qaa (rCon (W.int 0)) (Qaa (rVar 0) Qab)) QaM))
 Qal))
noncomputable def QaK : OpN := QaI 1 1 0 QbR
abbrev Qdz : Stmt := top 10
def Qka : List Str := ["_law_script", "_law_k"]
def QjY : List Str := ["_law_script", "_law_k"]
def M_l_cell : List (Nat × Nat) := []
noncomputable def Qgu : RunS :=
 (sSeq (sRet (run2 (run2 (QdU false (rVar 0) (rVar 1) (run2 (rVar 1) (rCon (W.int 1)) Qau)) (runN (Qaa (rCon (W.int 0)) Qab) (opL false)) Qau) (rCon (W.int 0)) Qah))
 Qal)
noncomputable def QaL : OpN := QaI 2 2 0 Qgu
abbrev Qdy : Stmt := top 11
def QjZ : List Str := ["_law_seed", "_law_k", "_law_tail", "_law_at"]
def QjX : List Str := ["_law_seed", "_law_k"]
def M_l_word : List (Nat × Nat) := []
noncomputable def Qgt : RunS :=
 (sSeq (sSet 2 (runM "str" (rCon (W.str "")) (Qaa (Qav false (QaG (run2 (rVar 0) (rCon (W.int 8)) Qap)) [0] (rCon (.bl true)) (run2 (rCon (W.str "abcdefghijklmnopqrstuvwxyz")) (run2 (run2 (run2 (rVar 1) (rCon (W.int 3)) Qay) (run2 (rCon (W.int 5)) (rVar 0) Qbf) Qau) (rCon (W.int 26)) Qap) Qah)) Qab) QeV))
 (sSeq (sSet 3 (run2 (run2 (rVar 0) (rCon (W.int 78)) Qay) (run2 (runN (Qaa (rVar 2) Qab) QaX) (rCon (W.int 1)) Qau) Qap))
 (sSeq (sRet (run2 (run2 (QcI false (rVar 2) (rVar 3)) (run2 (rCon (W.str "dgjkqrvxz")) (run2 (run2 (rVar 1) (run2 (rVar 0) (rCon (W.int 624)) Qay) Qau) (rCon (W.int 9)) Qap) Qah) Qau) (Qcg false (rVar 2) (rVar 3)) Qau))
 Qal)))
noncomputable def Qbl : OpN := QaI 2 4 0 Qgt
abbrev Qcm : Stmt := top 13
def Qgj : List Str := ["_law_cell_here", "_law_facts_here", "_law_k", "_law_way"]
def Qgf : List Str := ["_law_cell_here", "_law_facts_here", "_law_k"]
def QkW : List (Nat × Nat) := []
noncomputable def QdY : RunS :=
 (sSeq (sSet 3 (run2 (rVar 0) (rCon (W.int 6)) Qap))
 (sSeq (sIf (QaZ (run2 (rVar 3) (rCon (W.int 3)) opLt) (run2 (rVar 2) (rCon (W.int 0)) opGt))
  (sSeq (sRet (runN (Qaa (rCon (W.str "has")) (Qaa (run2 (rVar 1) (run2 (run2 (rVar 0) (rCon (W.int 6)) Qay) (rVar 2) Qap) Qah) Qab)) QaM))
 Qal)
  Qal)
 (sSeq (sIf (run2 (rVar 3) (rCon (W.int 4)) opLt)
  (sSeq (sRet (runN (Qaa (rCon (W.str "not")) (Qaa (run2 (rVar 1) (run2 (run2 (rVar 0) (rCon (W.int 6)) Qay) (runN (Qaa (rVar 1) Qab) QaX) Qap) Qah) Qab)) QaM))
 Qal)
  Qal)
 (sSeq (sIf (run2 (rVar 3) (rCon (W.int 4)) opEq)
  (sSeq (sRet (runN (Qaa (rCon (W.str "less")) (Qaa (run2 (run2 (run2 (rVar 0) (rCon (W.int 6)) Qay) (rCon (W.int 9)) Qap) (rCon (W.int 4)) QeT) (Qaa (run2 (rCon (W.int 5)) (run2 (run2 (rVar 0) (rCon (W.int 54)) Qay) (rCon (W.int 9)) Qap) Qau) Qab))) QaM))
 Qal)
  Qal)
 (sSeq (sRet (runN (Qaa (rCon (W.str "plus")) (Qaa (run2 (run2 (rVar 0) (rCon (W.int 6)) Qay) (rCon (W.int 9)) Qap) (Qaa (run2 (run2 (rVar 0) (rCon (W.int 54)) Qay) (rCon (W.int 9)) Qap) (Qaa (run2 (run2 (run2 (rVar 0) (rCon (W.int 6)) Qay) (rCon (W.int 9)) Qap) (run2 (run2 (rVar 0) (rCon (W.int 54)) Qay) (rCon (W.int 9)) Qap) Qau) Qab)))) QaM))
 Qal)))))
noncomputable def QbT : OpN := QaI 3 4 0 QdY
abbrev QcF : Stmt := top 16
def Qiy : List Str := ["_law_reason_here", "_law_grounds_here", "_law_row", "_law_found", "_law_ground_here"]
def Qiu : List Str := ["_law_reason_here"]
def QnA : List (Nat × Nat) := [(75, 17)]
noncomputable def QeQ : RunS :=
 (sSeq (sSet 1 (runN Qab (opL false)))
 (sSeq (sIf (run2 (run2 (rVar 0) (rCon (W.int 0)) Qah) (rCon (W.str "by")) opEq)
  (sSeq (sSet 1 (runN (Qaa (run2 (rVar 0) (rCon (W.int 2)) Qah) Qab) (QbE false)))
 Qal)
  Qal)
 (sSeq (sIf (run2 (run2 (rVar 0) (rCon (W.int 0)) Qah) (rCon (W.str "of")) opEq)
  (sSeq (sFor 2 (Qaw (run2 (rVar 0) (rCon (W.int 3)) Qah)) (sSeq (sSet 1 (run2 (rVar 1) (runN (Qaa (rVar 2) Qab) (QbE false)) Qau))
 Qal))
 Qal)
  Qal)
 (sSeq (sSet 3 (runN Qab (opL true)))
 (sSeq (sFor 4 (Qaw (rVar 1)) (sSeq (sIf (QaZ (run2 (run2 (rVar 4) (rCon (W.int 0)) Qah) (rCon (W.str "has")) opEq) (run2 (run2 (rVar 4) (rCon (W.int 1)) Qah) (rVar 3) Qdo))
  (sSeq (QdT (runM "list" (rVar 3) (Qaa (run2 (rVar 4) (rCon (W.int 1)) Qah) Qab) QaV))
 Qal)
  Qal)
 Qal))
 (sSeq (sRet (rVar 3))
 Qal))))))
noncomputable def QbK : OpN := QaI 1 5 1 QeQ
abbrev Qbj : Stmt := top 17
def QdQ : List Str := ["_law_found", "_law_due"]
def Qiw : List Str := ["_law_found", "_law_due"]
def QfD : List (Nat × Nat) := []
def QbY : OpN := fun _ _ => .stuck
noncomputable def Qdm : RunS :=
 (sSeq (sIf (Qch (runN (Qaa (rVar 1) (Qaa (rCon (.ty "tuple")) Qab)) Qax) (runN (Qaa (rVar 1) (Qaa (rCon (.ty "list")) Qab)) Qax))
  (sSeq (sIf (Qch (run2 (runN (Qaa (rVar 0) (Qaa (rCon (.ty "list")) Qab)) Qax) (runN (Qaa (rVar 1) (Qaa (rCon (.ty "list")) Qab)) Qax) opNe) (run2 (runN (Qaa (rVar 0) (Qaa (rCon (.ty "tuple")) Qab)) Qax) (runN (Qaa (rVar 1) (Qaa (rCon (.ty "tuple")) Qab)) Qax) opNe))
  (sSeq (sRet (rCon (W.bl false)))
 Qal)
  Qal)
 (sSeq (sRet (QaZ (run2 (runN (Qaa (rVar 0) Qab) QaX) (runN (Qaa (rVar 1) Qab) QaX) opEq) (runN (Qaa (Qby false (Qaa (rVar 0) (Qaa (rVar 1) Qab)) [] (runN (Qaa (rVar 0) (Qaa (rVar 1) Qab)) (Qak QbY))) Qab) QgA)))
 Qal))
  Qal)
 (sSeq (sRet (QaZ (run2 (runN (Qaa (rVar 0) (Qaa (rCon (.ty "bool")) Qab)) Qax) (runN (Qaa (rVar 1) (Qaa (rCon (.ty "bool")) Qab)) Qax) opEq) (run2 (rVar 0) (rVar 1) opEq)))
 Qal))
noncomputable def Qbd : OpN := QaI 2 2 0 Qdm
noncomputable def Qdl : RunS :=
 (sSeq (sIf (Qch (runN (Qaa (rVar 1) (Qaa (rCon (.ty "tuple")) Qab)) Qax) (runN (Qaa (rVar 1) (Qaa (rCon (.ty "list")) Qab)) Qax))
  (sSeq (sIf (Qch (run2 (runN (Qaa (rVar 0) (Qaa (rCon (.ty "list")) Qab)) Qax) (runN (Qaa (rVar 1) (Qaa (rCon (.ty "list")) Qab)) Qax) opNe) (run2 (runN (Qaa (rVar 0) (Qaa (rCon (.ty "tuple")) Qab)) Qax) (runN (Qaa (rVar 1) (Qaa (rCon (.ty "tuple")) Qab)) Qax) opNe))
  (sSeq (sRet (rCon (W.bl false)))
 Qal)
  Qal)
 (sSeq (sRet (QaZ (run2 (runN (Qaa (rVar 0) Qab) QaX) (runN (Qaa (rVar 1) Qab) QaX) opEq) (runN (Qaa (Qby false (Qaa (rVar 0) (Qaa (rVar 1) Qab)) [] (runN (Qaa (rVar 0) (Qaa (rVar 1) Qab)) (Qak Qbd))) Qab) QgA)))
 Qal))
  Qal)
 (sSeq (sRet (QaZ (run2 (runN (Qaa (rVar 0) (Qaa (rCon (.ty "bool")) Qab)) Qax) (runN (Qaa (rVar 1) (Qaa (rCon (.ty "bool")) Qab)) Qax) opEq) (run2 (rVar 0) (rVar 1) opEq)))
 Qal))
noncomputable def Qbc : OpN := QaI 2 2 0 Qdl
noncomputable def Qdk : RunS :=
 (sSeq (sIf (Qch (runN (Qaa (rVar 1) (Qaa (rCon (.ty "tuple")) Qab)) Qax) (runN (Qaa (rVar 1) (Qaa (rCon (.ty "list")) Qab)) Qax))
  (sSeq (sIf (Qch (run2 (runN (Qaa (rVar 0) (Qaa (rCon (.ty "list")) Qab)) Qax) (runN (Qaa (rVar 1) (Qaa (rCon (.ty "list")) Qab)) Qax) opNe) (run2 (runN (Qaa (rVar 0) (Qaa (rCon (.ty "tuple")) Qab)) Qax) (runN (Qaa (rVar 1) (Qaa (rCon (.ty "tuple")) Qab)) Qax) opNe))
  (sSeq (sRet (rCon (W.bl false)))
 Qal)
  Qal)
 (sSeq (sRet (QaZ (run2 (runN (Qaa (rVar 0) Qab) QaX) (runN (Qaa (rVar 1) Qab) QaX) opEq) (runN (Qaa (Qby false (Qaa (rVar 0) (Qaa (rVar 1) Qab)) [] (runN (Qaa (rVar 0) (Qaa (rVar 1) Qab)) (Qak Qbc))) Qab) QgA)))
 Qal))
  Qal)
 (sSeq (sRet (QaZ (run2 (runN (Qaa (rVar 0) (Qaa (rCon (.ty "bool")) Qab)) Qax) (runN (Qaa (rVar 1) (Qaa (rCon (.ty "bool")) Qab)) Qax) opEq) (run2 (rVar 0) (rVar 1) opEq)))
 Qal))
noncomputable def QaS : OpN := QaI 2 2 0 Qdk
abbrev QeO : Stmt := top 18
def Qny : List Str := ["_law_fact", "_law_values"]
def Qnx : List Str := ["_law_fact"]
def M_l_key : List (Nat × Nat) := []
noncomputable def QiL : RunS :=
 (sSeq (sSet 1 (Qav false (Qaw (Qcg false (rVar 0) (rCon (W.int 1)))) [] (rCon (.bl true)) (runN (Qaa (runN (Qaa (runN (Qaa (rVar 0) (Qaa (rCon (.ty "str")) Qab)) Qax) Qab) QlT) (Qaa (Qlw (runN (Qaa (rVar 0) (Qaa (rCon (.ty "str")) Qab)) Qax) (rCon (W.int 0)) (rVar 0)) (Qaa (runN (Qaa (rVar 0) Qab) Qkt) Qab))) QaM)))
 (sSeq (sRet (runN (Qaa (run2 (rVar 0) (rCon (W.int 0)) Qah) (Qaa (runN (Qaa (rVar 0) Qab) QaX) (Qaa (rVar 1) Qab))) QaM))
 Qal))
noncomputable def QcX : OpN := QaI 1 2 0 QiL
noncomputable def gl1 : List (Str × GV) := ("_law_key", .fn 1 QcX) :: ("_law_alike", .fn 2 QaS) :: ("_law_named", .fn 1 QbK) :: ("_law_ground", .fn 3 QbT) :: ("_law_word", .fn 2 Qbl) :: ("_law_cell", .fn 2 QaL) :: ("rank_of_value", .fn 1 QaK) :: ("grounds_in", .fn 1 Qbm) :: gl0
abbrev QaH : Stmt := top 5
def Qce : List Str := ["reason", "word", "found", "ground"]
def Qcd : List Str := ["reason", "word"]
def QdR : List (Nat × Nat) := [(18, 12)]
noncomputable def Qbk : RunS :=
 (sSeq (sSet 2 QfO)
 (sSeq (sFor 3 (Qaw (runN (Qaa (rVar 0) Qab) (Qak Qbm))) (sSeq (sIf (run2 (run2 (rVar 3) (rCon (W.int 0)) Qah) (rVar 1) opEq)
  (sSeq (QcH (rVar 2) (run2 (rVar 3) (rCon (W.int 1)) Qah) (rCon (W.bl true)))
 Qal)
  Qal)
 Qal))
 (sSeq (sRet (runN (Qaa (rVar 2) Qab) (QbE false)))
 Qal)))
noncomputable def QaJ : OpN := QaI 2 4 1 Qbk
abbrev QcE : Stmt := top 2
def Qix : List Str := ["fact"]
def Qit : List Str := ["fact"]
def Qnz : List (Nat × Nat) := []
noncomputable def QeP : RunS :=
 (sSeq (sRet (runN (Qaa (run2 (rVar 0) (rCon (W.int 0)) Qah) (Qaa (runN (Qaa (rVar 0) Qab) QaX) (Qaa (runN (Qaa (Qav false (Qaw (Qcg false (rVar 0) (rCon (W.int 1)))) [] (rCon (.bl true)) (runN (Qaa (rVar 0) Qab) (Qak QaK))) Qab) Qbn) Qab))) QaM))
 Qal)
noncomputable def QaN : OpN := QaI 1 1 0 QeP
abbrev QcG : Stmt := top 12
def Qiz : List Str := ["_law_script", "_law_seed", "_law_found", "_law_k", "_law_cell_here", "_law_some", "_law_values"]
def Qiv : List Str := ["_law_script"]
def QnB : List (Nat × Nat) := [(41, 17)]
noncomputable def QeR : RunS :=
 (sSeq (sSet 1 (runN (Qaa (rVar 0) (Qaa (rCon (W.int 0)) Qab)) (Qak QaL)))
 (sSeq (sSet 2 (runN Qab (opL true)))
 (sSeq (sFor 3 (QaG (run2 (rCon (W.int 1)) (run2 (runN (Qaa (rVar 0) (Qaa (rCon (W.int 1)) Qab)) (Qak QaL)) (rCon (W.int 12)) Qap) Qau)) (sSeq (sSet 4 (run2 (run2 (run2 (runN (Qaa (rVar 0) (Qaa (rCon (W.int 2)) Qab)) (Qak QaL)) (run2 (rCon (W.int 7919)) (rVar 3) Qbf) Qau) (rCon (W.int 48271)) Qbf) (rCon (W.int 2147483647)) Qap))
 (sSeq (sSet 5 (runN (Qaa (run2 (rVar 3) (rCon (W.int 3)) QeT) (Qaa (runN (Qaa (rVar 1) (Qaa (run2 (run2 (rVar 4) (rCon (W.int 9)) Qay) (rCon (W.int 9)) Qap) Qab)) (Qak Qbl)) (Qaa (run2 (run2 (run2 (rVar 4) (rCon (W.int 3)) Qay) (rCon (W.int 1999999999)) Qap) (rCon (W.int 999999999)) QeT) (Qaa (run2 (rVar 3) (rCon (W.int 3)) Qay) Qab)))) (opL false)))
 (sSeq (sSet 6 (Qav false (QaG (run2 (run2 (rVar 4) (rCon (W.int 5)) Qay) (rCon (W.int 4)) Qap)) [4, 5] (rCon (.bl true)) (run2 (rVar 2) (run2 (run2 (run2 (rVar 1) (rCon (W.int 7)) Qay) (rVar 0) Qau) (rCon (W.int 4)) Qap) Qah)))
 (sSeq (QdT (runM "list" (rVar 2) (Qaa (runN (Qaa (run2 (run2 (runN (Qaa (runN (Qaa (rVar 1) (Qaa (run2 (rVar 4) (rCon (W.int 3)) Qap) Qab)) (Qak Qbl)) Qab) (opL false)) (rVar 6) Qau) (runN (Qaa (rVar 3) Qab) (opL false)) Qau) Qab) Qbn) Qab) QaV))
 Qal)))))
 (sSeq (sRet (rVar 2))
 Qal))))
noncomputable def QcY : OpN := QaI 1 7 1 QeR
abbrev QbP : Stmt := top 14
def QfA : List Str := ["_law_cell_here", "_law_facts_here", "_law_k", "_law_mixed"]
def Qfx : List Str := ["_law_cell_here", "_law_facts_here", "_law_k"]
def Qjq : List (Nat × Nat) := []
noncomputable def Qdj : RunS :=
 (sSeq (sSet 3 (Qav false (QaG (run2 (rCon (W.int 1)) (run2 (rVar 0) (rCon (W.int 4)) Qap) Qau)) [0] (rCon (.bl true)) (run2 (run2 (run2 (rVar 1) (run2 (rCon (W.int 31)) (rVar 0) Qbf) Qau) (rCon (W.int 16807)) Qbf) (rCon (W.int 2147483647)) Qap)))
 (sSeq (sRet (runN (Qaa (Qav false (Qaw (rVar 3)) [1, 2] (rCon (.bl true)) (runN (Qaa (run2 (rVar 0) (rCon (W.int 7)) Qay) (Qaa (rVar 1) (Qaa (rVar 2) Qab))) (Qak QbT))) Qab) Qbn))
 Qal))
noncomputable def Qbb : OpN := QaI 3 4 0 Qdj
abbrev Qck : Stmt := top 19
def Qgh : List Str := ["_law_facts_here"]
def Qgd : List Str := ["_law_facts_here"]
def QkU : List (Nat × Nat) := []
noncomputable def QdW : RunS :=
 (sSeq (sRet (Qav false (Qaw (runN (Qaa (Qav false (Qaw (rVar 0)) [] (rCon (.bl true)) (runN (Qaa (runN (Qaa (rVar 0) Qab) (Qak QcX)) (Qaa (rVar 0) Qab)) QaM)) Qab) (Qea false))) [] (rCon (.bl true)) (run2 (rVar 0) (rCon (W.int 1)) Qah)))
 Qal)
noncomputable def QbS : OpN := QaI 1 1 0 QdW
noncomputable def gl2 : List (Str × GV) := ("_law_sorted", .fn 1 QbS) :: ("_law_grounds", .fn 3 Qbb) :: ("_law_facts", .fn 1 QcY) :: ("rank_of", .fn 1 QaN) :: ("facts_of_grounds", .fn 2 QaJ) :: gl1
abbrev Qcj : Stmt := top 6
def Qgg : List Str := ["reason"]
def Qgc : List Str := ["reason"]
def QkT : List (Nat × Nat) := []
noncomputable def QdV : RunS :=
 (sSeq (sRet (runN (Qaa (rVar 0) (Qaa (rCon (W.str "has")) Qab)) (Qak QaJ)))
 Qal)
noncomputable def Qbu : OpN := QaI 1 1 0 QdV
abbrev QbO : Stmt := top 8
def Qfz : List Str := ["row"]
def Qfw : List Str := ["row"]
def Qjp : List (Nat × Nat) := [(31, 11)]
noncomputable def Qdi : RunS :=
 (sSeq (sRet (run1 (QcW false (rVar 0) [] (run2 (run2 (rVar 1) (rCon (W.int 0)) Qah) (rCon (W.str "told")) opEq) (rVar 0)) (QcK true QaN)))
 Qal)
noncomputable def Qba : OpN := QaI 1 1 2 Qdi
abbrev Qcl : Stmt := top 15
def Qgi : List Str := ["_law_script", "_law_facts_here", "_law_k", "_law_cell_here", "_law_rows"]
def Qge : List Str := ["_law_script", "_law_facts_here", "_law_k"]
def QkV : List (Nat × Nat) := []
noncomputable def QdX : RunS :=
 (sSeq (sSet 3 (run2 (run2 (run2 (runN (Qaa (rVar 0) (Qaa (run2 (rCon (W.int 4)) (rVar 2) Qau) Qab)) (Qak QaL)) (run2 (rCon (W.int 101)) (rVar 2) Qbf) Qau) (rCon (W.int 48271)) Qbf) (rCon (W.int 2147483647)) Qap))
 (sSeq (sIf (run2 (run2 (rVar 3) (rCon (W.int 4)) Qap) (rCon (W.int 0)) opEq)
  (sSeq (sRet (runN (Qaa (rCon (W.str "told")) Qab) QaM))
 Qal)
  Qal)
 (sSeq (sIf (run2 (run2 (rVar 3) (rCon (W.int 4)) Qap) (rCon (W.int 3)) opLt)
  (sSeq (sRet (runN (Qaa (rCon (W.str "by")) (Qaa (run2 (run2 (rVar 3) (rCon (W.int 4)) Qay) (rCon (W.int 20)) Qap) (Qaa (runN (Qaa (run2 (rVar 3) (rCon (W.int 80)) Qay) (Qaa (rVar 1) (Qaa (rVar 2) Qab))) (Qak Qbb)) Qab))) QaM))
 Qal)
  Qal)
 (sSeq (sSet 4 (Qav false (QaG (run2 (rCon (W.int 1)) (run2 (run2 (rVar 3) (rCon (W.int 4)) Qay) (rCon (W.int 3)) Qap) Qau)) [3, 1, 2] (rCon (.bl true)) (runN (Qaa (run2 (run2 (run2 (rVar 1) (rCon (W.int 80)) Qay) (run2 (rCon (W.int 977)) (rVar 0) Qbf) Qau) (rCon (W.int 2147483647)) Qap) (Qaa (rVar 2) (Qaa (rVar 3) Qab))) (Qak Qbb))))
 (sSeq (sRet (runN (Qaa (rCon (W.str "of")) (Qaa (run2 (run2 (rVar 3) (rCon (W.int 12)) Qay) (rCon (W.int 20)) Qap) (Qaa (runN (Qaa (run2 (runN (Qaa (run2 (run2 (rVar 3) (rCon (W.int 7)) Qay) (rCon (W.int 5)) Qap) Qab) (opL false)) (run2 (run2 (rVar 3) (rCon (W.int 35)) Qay) (rCon (W.int 3)) Qap) Qbf) Qab) Qbn) (Qaa (runN (Qaa (rVar 4) Qab) Qbn) Qab)))) QaM))
 Qal)))))
noncomputable def QaR : OpN := QaI 3 5 0 QdX
noncomputable def gl3 : List (Str × GV) := ("_law_reason", .fn 3 QaR) :: ("leaves_of", .fn 1 Qba) :: ("rests_on", .fn 1 Qbu) :: gl2
abbrev QbQ : Stmt := top 7
def QfB : List Str := ["row", "heights", "fact", "reason"]
def Qfy : List Str := ["row"]
def Qjr : List (Nat × Nat) := [(26, 14)]
noncomputable def Qdn : RunS :=
 (sSeq (sSet 1 QfO)
 (sSeq (Qkj 2 3 (rVar 0) (sSeq (QcH (rVar 1) (rVar 2) (run2 (rCon (W.int 1)) (run1 (Qav false (Qaw (runN (Qaa (rVar 3) Qab) (Qak Qbu))) [1] (rCon (.bl true)) (runM "dict" (rVar 1) (Qaa (rVar 0) (Qaa (rCon (W.int 0)) Qab)) Qgz)) (QbZ 0)) Qau))
 Qal))
 (sSeq (sRet (run2 (rVar 1) (run2 (run2 (rVar 0) (run1 (rCon (W.int 1)) QhA) Qah) (rCon (W.int 0)) Qah) Qah))
 Qal)))
noncomputable def QaT : OpN := QaI 1 4 1 Qdn
noncomputable def gl4 : List (Str × GV) := ("height_of", .fn 1 QaT) :: gl3
abbrev Qki : Stmt := top 20
def N_law : List Str := ["_law_script", "_law_facts_here", "_law_row", "_law_handed", "_law_heights", "_law_k", "_law_below", "_law_found", "_law_due"]
def P_law : List Str := ["_law_script"]
def M_law : List (Nat × Nat) := [(95, 19)]
noncomputable def r_law : RunS :=
 (sSeq (sSet 1 (runN (Qaa (rVar 0) Qab) (Qak QcY)))
 (sSeq (sSet 2 (Qav false (QaG (runN (Qaa (rVar 1) Qab) QaX)) [1, 0] (rCon (.bl true)) (runN (Qaa (run2 (rVar 1) (rVar 0) Qah) (Qaa (runN (Qaa (rVar 2) (Qaa (rVar 1) (Qaa (rVar 0) Qab))) (Qak QaR)) Qab)) QaM)))
 (sSeq (sSet 3 (runN (Qaa (rVar 2) Qab) (QbE false)))
 (sSeq (sSet 4 (runN Qab (opL true)))
 (sSeq (sFor 5 (QaG (runN (Qaa (rVar 2) Qab) QaX)) (sSeq (sSet 6 (Qav false (Qaw (runN (Qaa (run2 (run2 (rVar 2) (rVar 5) Qah) (rCon (W.int 1)) Qah) Qab) (Qak QbK))) [1, 4] (rCon (.bl true)) (run2 (rVar 2) (runM "list" (rVar 1) (Qaa (rVar 0) Qab) QbH) Qah)))
 (sSeq (QdT (runM "list" (rVar 4) (Qaa (run2 (rCon (W.int 1)) (runN (Qaa (run2 (runN (Qaa (rCon (W.int 0)) Qab) (opL false)) (rVar 6) Qau) Qab) QeU) Qau) Qab) QaV))
 (sSeq (sSet 7 (runN (Qaa (QcI false (rVar 3) (run2 (rVar 5) (rCon (W.int 1)) Qau)) Qab) (Qak QaT)))
 (sSeq (sIf (Qch (QdA (runN (Qaa (rVar 7) (Qaa (rCon (.ty "int")) Qab)) Qax)) (Qch (runN (Qaa (rVar 7) (Qaa (rCon (.ty "bool")) Qab)) Qax) (run2 (rVar 7) (run2 (rVar 4) (rVar 5) Qah) opNe)))
  (sSeq (sRet (rCon (W.bl false)))
 Qal)
  Qal)
 Qal)))))
 (sSeq (sSet 8 (runN (Qaa (Qav false (Qaw (rVar 2)) [] (run2 (run2 (rVar 0) (rCon (W.int 1)) Qah) (runN (Qaa (rCon (W.str "told")) Qab) QaM) opEq) (run2 (rVar 0) (rCon (W.int 0)) Qah)) Qab) (Qak QbS)))
 (sSeq (sSet 7 (runN (Qaa (rVar 3) Qab) (Qak Qba)))
 (sSeq (sIf (Qch (QdA (runN (Qaa (rVar 7) (Qaa (rVar 8) Qab)) (Qak QaS))) (run2 (runN (Qaa (rVar 3) Qab) (Qak QaT)) (run2 (rVar 4) (run1 (rCon (W.int 1)) QhA) Qah) opNe))
  (sSeq (sRet (rCon (W.bl false)))
 Qal)
  Qal)
 (sSeq (QdT (runM "list" (rVar 7) (Qaa (runN (Qaa (rCon (W.str "z")) Qab) QaM) Qab) QaV))
 (sSeq (sRet (QaZ (runN (Qaa (runN (Qaa (rVar 3) Qab) (Qak Qba)) (Qaa (rVar 8) Qab)) (Qak QaS)) (run2 (rVar 3) (rVar 2) opEq)))
 Qal))))))))))
noncomputable def op_law : OpN := QaI 1 9 1 r_law
end DL.My
namespace DL.My
open PySem L2
theorem Qgr : QaF Qeq Qep (Qad Qbz) = true := by decide +kernel
theorem QgW : Qbh 60 ⟨Qeq, Qad Qbz, gl0, QiA, true, false⟩ (Qat Qbz) = some QcJ := by kernel_rfl
theorem Qdh : QaF Qce Qcd (Qad QaH) = true := by decide +kernel
theorem Qds : Qbh 60 ⟨Qce, Qad QaH, gl1, QdR, true, false⟩ (Qat QaH) = some Qbk := by kernel_rfl
theorem QiF : QaF Qgg Qgc (Qad Qcj) = true := by decide +kernel
theorem Qjf : Qbh 60 ⟨Qgg, Qad Qcj, gl2, QkT, true, false⟩ (Qat Qcj) = some QdV := by kernel_rfl
theorem Qhu : QaF QfB Qfy (Qad QbQ) = true := by decide +kernel
theorem QhZ : Qbh 60 ⟨QfB, Qad QbQ, gl3, Qjr, true, false⟩ (Qat QbQ) = some Qdn := by kernel_rfl
theorem Qes : QaF QcU QcT (Qad QaP) = true := by decide +kernel
theorem Qeu : Qbh 60 ⟨QcU, Qad QaP, gl0, QfC, true, false⟩ (Qat QaP) = some QbR := by kernel_rfl
theorem Qkf : QaF Qix Qit (Qad QcE) = true := by decide +kernel
theorem QkI : Qbh 60 ⟨Qix, Qad QcE, gl1, Qnz, true, false⟩ (Qat QcE) = some QeP := by kernel_rfl
theorem Qhs : QaF Qfz Qfw (Qad QbO) = true := by decide +kernel
theorem QhU : Qbh 60 ⟨Qfz, Qad QbO, gl2, Qjp, true, false⟩ (Qat QbO) = some Qdi := by kernel_rfl
theorem Qlt : QaF Qka QjY (Qad Qdz) = true := by decide +kernel
theorem QmZ : Qbh 60 ⟨Qka, Qad Qdz, gl0, M_l_cell, true, false⟩ (Qat Qdz) = some Qgu := by kernel_rfl
theorem Qls : QaF QjZ QjX (Qad Qdy) = true := by decide +kernel
theorem QmY : Qbh 60 ⟨QjZ, Qad Qdy, gl0, M_l_word, true, false⟩ (Qat Qdy) = some Qgt := by kernel_rfl
theorem Qkh : QaF Qiz Qiv (Qad QcG) = true := by decide +kernel
theorem QkK : Qbh 60 ⟨Qiz, Qad QcG, gl1, QnB, true, false⟩ (Qat QcG) = some QeR := by kernel_rfl
theorem QiI : QaF Qgj Qgf (Qad Qcm) = true := by decide +kernel
theorem Qji : Qbh 60 ⟨Qgj, Qad Qcm, gl0, QkW, true, false⟩ (Qat Qcm) = some QdY := by kernel_rfl
theorem Qht : QaF QfA Qfx (Qad QbP) = true := by decide +kernel
theorem QhV : Qbh 60 ⟨QfA, Qad QbP, gl1, Qjq, true, false⟩ (Qat QbP) = some Qdj := by kernel_rfl
theorem QiH : QaF Qgi Qge (Qad Qcl) = true := by decide +kernel
theorem Qjh : Qbh 60 ⟨Qgi, Qad Qcl, gl2, QkV, true, false⟩ (Qat Qcl) = some QdX := by kernel_rfl
theorem Qkg : QaF Qiy Qiu (Qad QcF) = true := by decide +kernel
theorem QkJ : Qbh 60 ⟨Qiy, Qad QcF, gl0, QnA, true, false⟩ (Qat QcF) = some QeQ := by kernel_rfl
theorem QdS : QaF QdQ Qiw (Qad Qbj) = true := by decide +kernel
theorem QhY : Qbh 60 ⟨QdQ, Qad Qbj, ("_law_alike", .fn 2 QbY) :: gl0, QfD, true, false⟩ (Qat Qbj) = some Qdm := by kernel_rfl
theorem QhX : Qbh 60 ⟨QdQ, Qad Qbj, ("_law_alike", .fn 2 Qbd) :: gl0, QfD, true, false⟩ (Qat Qbj) = some Qdl := by kernel_rfl
theorem QhW : Qbh 60 ⟨QdQ, Qad Qbj, ("_law_alike", .fn 2 Qbc) :: gl0, QfD, true, false⟩ (Qat Qbj) = some Qdk := by kernel_rfl
theorem sc_l_key : QaF Qny Qnx (Qad QeO) = true := by decide +kernel
theorem de_l_key : Qbh 60 ⟨Qny, Qad QeO, gl0, M_l_key, true, false⟩ (Qat QeO) = some QiL := by kernel_rfl
theorem QiG : QaF Qgh Qgd (Qad Qck) = true := by decide +kernel
theorem Qjg : Qbh 60 ⟨Qgh, Qad Qck, gl1, QkU, true, false⟩ (Qat Qck) = some QdW := by kernel_rfl
theorem sc_law : QaF N_law P_law (Qad Qki) = true := by decide +kernel
theorem de_law : Qbh 60 ⟨N_law, Qad Qki, gl4, M_law, true, false⟩ (Qat Qki) = some r_law := by kernel_rfl
end DL.My
namespace DL.My
open PySem L2
structure Tx (P : Program) (w : World) (K : PySem.W.Frag) (mg : Str->Option Value) : Prop where
 b_all : mg "all" = none
 b_bool : mg "bool" = none
 b_int : mg "int" = none
 b_isinstance : mg "isinstance" = none
 b_len : mg "len" = none
 b_list : mg "list" = none
 b_max : mg "max" = none
 b_range : mg "range" = none
 b_sorted : mg "sorted" = none
 b_str : mg "str" = none
 b_tuple : mg "tuple" = none
 b_zip : mg "zip" = none
 d_grounds_in : DefAt K mg "grounds_in" Qbz Qep
 d_facts_of_grounds : DefAt K mg "facts_of_grounds" QaH Qcd
 d_rests_on : DefAt K mg "rests_on" Qcj Qgc
 d_height_of : DefAt K mg "height_of" QbQ Qfy
 d_rank_of_value : DefAt K mg "rank_of_value" QaP QcT
 d_rank_of : DefAt K mg "rank_of" QcE Qit
 d_leaves_of : DefAt K mg "leaves_of" QbO Qfw
 d_l_cell : DefAt K mg "_law_cell" Qdz QjY
 d_l_word : DefAt K mg "_law_word" Qdy QjX
 d_l_facts : DefAt K mg "_law_facts" QcG Qiv
 d_l_ground : DefAt K mg "_law_ground" Qcm Qgf
 d_l_grounds : DefAt K mg "_law_grounds" QbP Qfx
 d_l_reason : DefAt K mg "_law_reason" Qcl Qge
 d_l_named : DefAt K mg "_law_named" QcF Qiu
 d_l_alike : DefAt K mg "_law_alike" Qbj Qiw
 d_l_key : DefAt K mg "_law_key" QeO Qnx
 d_l_sorted : DefAt K mg "_law_sorted" Qck Qgd
 d_law : DefAt K mg "law" Qki P_law
section
variable {P : Program} {w : World} {K : PySem.W.Frag} {mg : Str->Option Value} {base : Heap}
theorem tx0 (t : Tx P w K mg) : TX P w K mg base gl0 0 := by
 exact (TX.blt1 (TX.blt1 (TX.blt1 (TX.blt1 (TX.blt1 (TX.blt1 (TX.blt1 (TX.blt1 (TX.blt1 (TX.blt1 (TX.blt1 (TX.blt1 TX.nil t.b_zip) t.b_tuple) t.b_str) t.b_sorted) t.b_range) t.b_max) t.b_list) t.b_len) t.b_isinstance) t.b_int) t.b_bool) t.b_all)
theorem tx1 (t : Tx P w K mg) : TX P w K mg base gl1 9 := by
 have T0 : TX P w K mg base gl0 0 := tx0 t
 have T : TX P w K mg base gl0 6 := T0.mono (by decide)
 have R0 : TX P w K mg base (("_law_alike", .fn 2 QbY) :: gl0) 0 := TX.cons T0 (TX.fn0 t.d_l_alike)
 have R1 : TX P w K mg base (("_law_alike", .fn 2 Qbd) :: gl0) 3 := TX.cons (T0.mono (by decide)) (TX.fnOf (fz := 0) R0 t.d_l_alike QdS QhY)
 have R2 : TX P w K mg base (("_law_alike", .fn 2 Qbc) :: gl0) 6 := TX.cons (T0.mono (by decide)) (TX.fnOf (fz := 0) R1 t.d_l_alike QdS QhX)
 exact (TX.cons (TX.cons (TX.cons (TX.cons (TX.cons (TX.cons (TX.cons (TX.cons (T.mono (by decide)) (TX.fnOf (fz := 1) T t.d_grounds_in Qgr QgW)) (TX.fnOf (fz := 0) T t.d_rank_of_value Qes Qeu)) (TX.fnOf (fz := 0) T t.d_l_cell Qlt QmZ)) (TX.fnOf (fz := 0) T t.d_l_word Qls QmY)) (TX.fnOf (fz := 0) T t.d_l_ground QiI Qji)) (TX.fnOf (fz := 1) T t.d_l_named Qkg QkJ)) (TX.fnOf (fz := 0) R2 t.d_l_alike QdS QhW)) (TX.fnOf (fz := 0) T t.d_l_key sc_l_key de_l_key))
theorem tx2 (t : Tx P w K mg) : TX P w K mg base gl2 12 := by
 have T0 : TX P w K mg base gl1 9 := tx1 t
 have T : TX P w K mg base gl1 9 := T0.mono (by decide)
 exact (TX.cons (TX.cons (TX.cons (TX.cons (TX.cons (T.mono (by decide)) (TX.fnOf (fz := 1) T t.d_facts_of_grounds Qdh Qds)) (TX.fnOf (fz := 0) T t.d_rank_of Qkf QkI)) (TX.fnOf (fz := 1) T t.d_l_facts Qkh QkK)) (TX.fnOf (fz := 0) T t.d_l_grounds Qht QhV)) (TX.fnOf (fz := 0) T t.d_l_sorted QiG Qjg))
theorem tx3 (t : Tx P w K mg) : TX P w K mg base gl3 15 := by
 have T0 : TX P w K mg base gl2 12 := tx2 t
 have T : TX P w K mg base gl2 12 := T0.mono (by decide)
 exact (TX.cons (TX.cons (TX.cons (T.mono (by decide)) (TX.fnOf (fz := 0) T t.d_rests_on QiF Qjf)) (TX.fnOf (fz := 2) T t.d_leaves_of Qhs QhU)) (TX.fnOf (fz := 0) T t.d_l_reason QiH Qjh))
theorem tx4 (t : Tx P w K mg) : TX P w K mg base gl4 18 := by
 have T0 : TX P w K mg base gl3 15 := tx3 t
 have T : TX P w K mg base gl3 15 := T0.mono (by decide)
 exact (TX.cons (T.mono (by decide)) (TX.fnOf (fz := 1) T t.d_height_of Qhu QhZ))
theorem law_ok (t : Tx P w K mg) {f : Addr} {fd : FuncData} (F : Fun K "law" "law" Qki f fd) : FnOk P w K mg base CX0 21 f fd P_law (SpD K 1 op_law) :=
 def_ok (fz := 1) (tx4 t : TX P w K mg base gl4 18) F sc_law de_law
end
theorem all_mk {l : PySem.W.OpenLaw} {w : World} {K : PySem.W.Frag} {h : Heap} {mg : Str->Option Value} {fa : Addr} (X : K.In h) (G : h.Ns mainGlobals mg) (hfa : mg "law" = some (.ref fa))
  (b_all : PySem.W.nsIn K mainGlobals "all" = some none)
  (b_bool : PySem.W.nsIn K mainGlobals "bool" = some none)
  (b_int : PySem.W.nsIn K mainGlobals "int" = some none)
  (b_isinstance : PySem.W.nsIn K mainGlobals "isinstance" = some none)
  (b_len : PySem.W.nsIn K mainGlobals "len" = some none)
  (b_list : PySem.W.nsIn K mainGlobals "list" = some none)
  (b_max : PySem.W.nsIn K mainGlobals "max" = some none)
  (b_range : PySem.W.nsIn K mainGlobals "range" = some none)
  (b_sorted : PySem.W.nsIn K mainGlobals "sorted" = some none)
  (b_str : PySem.W.nsIn K mainGlobals "str" = some none)
  (b_tuple : PySem.W.nsIn K mainGlobals "tuple" = some none)
  (b_zip : PySem.W.nsIn K mainGlobals "zip" = some none)
  (d_grounds_in : DIn K "grounds_in" Qbz)
  (d_facts_of_grounds : DIn K "facts_of_grounds" QaH)
  (d_rests_on : DIn K "rests_on" Qcj)
  (d_height_of : DIn K "height_of" QbQ)
  (d_rank_of_value : DIn K "rank_of_value" QaP)
  (d_rank_of : DIn K "rank_of" QcE)
  (d_leaves_of : DIn K "leaves_of" QbO)
  (d_l_cell : DIn K "_law_cell" Qdz)
  (d_l_word : DIn K "_law_word" Qdy)
  (d_l_facts : DIn K "_law_facts" QcG)
  (d_l_ground : DIn K "_law_ground" Qcm)
  (d_l_grounds : DIn K "_law_grounds" QbP)
  (d_l_reason : DIn K "_law_reason" Qcl)
  (d_l_named : DIn K "_law_named" QcF)
  (d_l_alike : DIn K "_law_alike" Qbj)
  (d_l_key : DIn K "_law_key" QeO)
  (d_l_sorted : DIn K "_law_sorted" Qck)
  (d_law : DIn K "law" Qki)
  : ∃ fd : FuncData, (∀ (s : Shared) (v : Value), BindsTo s fd ⟨[v], []⟩ [("_law_script", v)])/\∀ base : Heap, K.In base->base.Ns mainGlobals mg->FnOk l.prog w K mg base CX0 21 fa fd ["_law_script"] (SpD K 1 op_law) := by
 have t : Tx l.prog w K mg := ⟨PySem.W.mg_none_of X G b_all, PySem.W.mg_none_of X G b_bool, PySem.W.mg_none_of X G b_int, PySem.W.mg_none_of X G b_isinstance, PySem.W.mg_none_of X G b_len, PySem.W.mg_none_of X G b_list, PySem.W.mg_none_of X G b_max, PySem.W.mg_none_of X G b_range, PySem.W.mg_none_of X G b_sorted, PySem.W.mg_none_of X G b_str, PySem.W.mg_none_of X G b_tuple, PySem.W.mg_none_of X G b_zip, (d_grounds_in.at_ X G fun _ _ _ _ _ _ us hl => match us, hl with | [_], _ => rfl), (d_facts_of_grounds.at_ X G fun _ _ _ _ _ _ us hl => match us, hl with | [_, _], _ => rfl), (d_rests_on.at_ X G fun _ _ _ _ _ _ us hl => match us, hl with | [_], _ => rfl), (d_height_of.at_ X G fun _ _ _ _ _ _ us hl => match us, hl with | [_], _ => rfl), (d_rank_of_value.at_ X G fun _ _ _ _ _ _ us hl => match us, hl with | [_], _ => rfl), (d_rank_of.at_ X G fun _ _ _ _ _ _ us hl => match us, hl with | [_], _ => rfl), (d_leaves_of.at_ X G fun _ _ _ _ _ _ us hl => match us, hl with | [_], _ => rfl), (d_l_cell.at_ X G fun _ _ _ _ _ _ us hl => match us, hl with | [_, _], _ => rfl), (d_l_word.at_ X G fun _ _ _ _ _ _ us hl => match us, hl with | [_, _], _ => rfl), (d_l_facts.at_ X G fun _ _ _ _ _ _ us hl => match us, hl with | [_], _ => rfl), (d_l_ground.at_ X G fun _ _ _ _ _ _ us hl => match us, hl with | [_, _, _], _ => rfl), (d_l_grounds.at_ X G fun _ _ _ _ _ _ us hl => match us, hl with | [_, _, _], _ => rfl), (d_l_reason.at_ X G fun _ _ _ _ _ _ us hl => match us, hl with | [_, _, _], _ => rfl), (d_l_named.at_ X G fun _ _ _ _ _ _ us hl => match us, hl with | [_], _ => rfl), (d_l_alike.at_ X G fun _ _ _ _ _ _ us hl => match us, hl with | [_, _], _ => rfl), (d_l_key.at_ X G fun _ _ _ _ _ _ us hl => match us, hl with | [_], _ => rfl), (d_l_sorted.at_ X G fun _ _ _ _ _ _ us hl => match us, hl with | [_], _ => rfl), (d_law.at_ X G fun _ _ _ _ _ _ us hl => match us, hl with | [_], _ => rfl)⟩
 exact d_law.law X G hfa (fun _ _ _ _ _ _ s v => .of_eq rfl) fun fd F base _ _ => law_ok t F
end DL.My
namespace DL.My
open PySem L2
theorem QbA {r : Run} {Γ : Ga} {st : S} {w : W} (h : r Γ st = .ok w st) : sSeq (sRet r) Qal Γ st = .ok (.rt w) st := by
 rw [Qai, ev_ret, h]; rfl
theorem QfZ {re : Run} {Γc : Ga} {st : S} (f : W->W) : ∀ (items acc : List W), (∀ x ∈ items, re (some x :: Γc) st = .ok (f x) st)->Qbe (rCon (.bl true)) re Γc items acc st = .ok (acc ++ items.map f) st
 | [], acc, _ => by simp [Qbe]
 | x :: xs, acc, h => by
  show ((rCon (.bl true) (some x :: Γc) st).calm.bind fun b st1 => match b with
   | .bl true => (re (some x :: Γc) st1).calm.bind fun y st2 => Qbe (rCon (.bl true)) re Γc xs (acc ++ [y]) st2
   | .bl false => Qbe (rCon (.bl true)) re Γc xs acc st1
   | _ => .stuck) = _
  show ((re (some x :: Γc) st).calm.bind fun y st2 => Qbe (rCon (.bl true)) re Γc xs (acc ++ [y]) st2) = _
  rw [h x QnI, Qcw, Qac, QfZ f xs (acc ++ [f x]) fun y hy => h y (QnN _ hy)]
  simp
theorem Qcx {src : Src} {cap : List Nat} {re : Run} {Γ : Ga} {st : S} {items : List W} (f : W->W) (hs : src Γ st = .ok items st) (hl : items.length < sizeLine) (h : ∀ x ∈ items, re (some x :: capG cap Γ) st = .ok (f x) st) :
  Qav false src cap (rCon (.bl true)) re Γ st = .ok (.lst (items.map f)) st := by
 unfold Qav
 rw [hs, Qac, if_pos hl, QfZ f items [] h, Qac, List.nil_append]
 exact Qcz _ (by rw [QnM]; exact Nat.le_of_lt hl)
theorem Qie {re : Run} {Γc : Ga} {st : S} (P : W->Prop) : ∀ (items acc : List W), (∀ x ∈ items, ∃ y, P y/\re (some x :: Γc) st = .ok y st)->∃ ys : List W, ys.length = items.length/\(∀ y ∈ ys, P y)/\Qbe (rCon (.bl true)) re Γc items acc st = .ok (acc ++ ys) st
 | [], acc, _ => ⟨[], rfl, (fun y h => by cases h), by simp [Qbe]⟩
 | x :: xs, acc, h => by
  obtain ⟨y, hy, e⟩ := h x QnI
  obtain ⟨ys, h1, h2, h3⟩ := Qie P xs (acc ++ [y]) fun z hz => h z (QnN _ hz)
  refine ⟨y :: ys, by rw [QnU, QnU, h1], fun z hz => ?_, ?_⟩
  ·rcases List.mem_cons.mp hz with rfl | hz
   ·exact hy
   ·exact h2 z hz
  ·show ((re (some x :: Γc) st).calm.bind fun y st2 => Qbe (rCon (.bl true)) re Γc xs (acc ++ [y]) st2) = _
   rw [e, Qcw, Qac, h3]
   simp
theorem Qfs {src : Src} {cap : List Nat} {re : Run} {Γ : Ga} {st : S} {items : List W} (P : W->Prop) (hs : src Γ st = .ok items st) (hl : items.length<=1000) (h : ∀ x ∈ items, ∃ y, P y/\re (some x :: capG cap Γ) st = .ok y st) :
  ∃ ys : List W, ys.length = items.length/\(∀ y ∈ ys, P y)/\Qav false src cap (rCon (.bl true)) re Γ st = .ok (.lst ys) st := by
 obtain ⟨ys, h1, h2, h3⟩ := Qie P items [] h
 refine ⟨ys, h1, h2, ?_⟩
 unfold Qav
 rw [hs, Qac, if_pos (Qoa hl (by decide)), h3, Qac, List.nil_append]
 exact Qcz _ (by rw [h1]; exact Qam hl)
theorem QgG (st : S) (a b : MO) : (st.new a).put st.nxt b = st.new b := by
 unfold S.put S.new
 congr 1
 funext m
 by_cases h : m = st.nxt <;> simp [h]
theorem Qbs (st : S) (a : MO) : (st.new a).mu st.nxt = some a := if_pos rfl
theorem QeY (st : S) (a : MO) : ∀ n, n < st.nxt->(st.new a).mu n = st.mu n := fun n h => if_neg (QnS h)
theorem Qco {n : Nat} {w : W} (h : w ∈ QaQ 0 n) : ∃ k : Nat, k < n/\w = .int k := by
 unfold QaQ at h
 obtain ⟨i, hi, rfl⟩ := List.mem_map.mp h
 exact ⟨i, List.mem_range.mp hi, by rw [Int.zero_add]⟩
theorem QaW (n : Nat) : (QaQ 0 n).length = n := by unfold QaQ; rw [QnM, List.length_range]
theorem Qlf (zs : List Str) : Qer (zs.map W.str) = some zs := by
 induction zs with
 | nil => rfl
 | cons z zs ih => show (Qer (zs.map W.str)).map (z :: ·) = _; rw [ih]; rfl
theorem Qcn (i : Int) (k : Int) (h : 0 < k) : 0<=i % k/\i % k < k := ⟨Int.emod_nonneg i (by omega), Int.emod_lt_of_pos i h⟩
theorem cp_mk (cs : List Nat) : cp ⟨cs.toArray⟩ = cs := by unfold cp; simp
theorem len_mk (cs : List Nat) : (⟨cs.toArray⟩ : Str).length = cs.length := by rw [<-Qia, cp_mk]
theorem QjJ {i : Nat} {body : RunS} (P : Nat->Ga->S->Prop) {Γ : Ga} {s : S} (n : Nat) (h : P 0 Γ s) (st : ∀ k Γ s, k < n->P k Γ s->∃ Γ' s', body (Γ.set i (some (.int k))) s = .ok (.nx Γ') s'/\P (k + 1) Γ' s') :
  ∃ Γ' s', QbI i body (QaQ 0 n) Γ s = .ok (.nx Γ') s'/\P n Γ' s' := by
 have go : ∀ (m k : Nat) (Γ : Ga) (s : S), k + m = n->P k Γ s->∃ Γ' s', QbI i body ((List.range' k m).map fun (j : Nat) => W.int j) Γ s = .ok (.nx Γ') s'/\P n Γ' s' := by
  intro m
  induction m with
  | zero => intro k Γ s e p; rw [show k = n by omega] at p; exact ⟨Γ, s, rfl, p⟩
  | succ m ih =>
   intro k Γ s e p
   obtain ⟨Γ1, s1, e1, p1⟩ := st k Γ s (by omega) p
   obtain ⟨Γ2, s2, e2, p2⟩ := ih (k + 1) Γ1 s1 (by omega) p1
   refine ⟨Γ2, s2, ?_, p2⟩
   rw [List.range'_succ, List.map_cons]
   show ((body (Γ.set i (some (.int k))) s).bind fun fl st' => match fl with
    | .nx Γ' => QbI i body ((List.range' (k + 1) m).map fun (j : Nat) => W.int j) Γ' st'
    | .ct Γ' => QbI i body ((List.range' (k + 1) m).map fun (j : Nat) => W.int j) Γ' st'
    | .bk Γ' => .ok (.nx Γ') st'
    | .rt w => .ok (.rt w) st') = _
   rw [e1]; exact e2
 have e : QaQ 0 n = (List.range' 0 n).map fun (j : Nat) => W.int j := by
  unfold QaQ
  rw [List.range_eq_range']
  apply List.map_congr_left
  intro j _
  rw [Int.zero_add]
 rw [e]
 exact go n 0 Γ s (by omega) h
theorem QkL (st : S) (ws : List W) : Qdt (st.new (.lst ws)) (.ref st.nxt) = none := by
 show (match (st.new (.lst ws)).mu st.nxt with | some (.dct ks ws) => some (ks, ws) | _ => none) = _
 rw [Qbs]
theorem QkC (st : S) (ws : List W) : QaB (st.new (.lst ws)) (.ref st.nxt) = some ws := by
 show MO.items ((st.new (.lst ws)).mu st.nxt) = _
 rw [Qbs]; rfl
theorem QjM (k : DKey) (ks : List DKey) : hasK k ks = true ↔ k ∈ ks := by
 induction ks with
 | nil => simp [hasK]
 | cons j ks ih => simp [hasK]; exact ⟨fun h => h.imp Eq.symm id, fun h => h.imp Eq.symm id⟩
theorem Qjz {ks : List DKey} {vs : List W} {k : DKey} {v : W} (h : k ∉ ks) : putW ks vs k v = (ks ++ [k], vs ++ [v]) := by
 unfold putW
 rw [if_neg (fun z => h ((QjM k ks).mp z))]
theorem cut1 (x : W) (xs : List W) : cutW (x :: xs) (some 1) none = xs := by
 unfold cutW
 rw [show (some (1 : Int)) = some ((1 : Nat) : Int) from rfl, HT.sIx_nat, HT.sIx_none, QnU, Nat.min_eq_left (show 1<=xs.length + 1 by omega), List.drop_succ_cons, List.drop_zero]
 exact List.take_of_length_le (by omega)
section
variable {op : OpN} {Γ : Ga} {st s' : S} {a b c d : Run} {x y z u w' : W}
theorem QcR (ha : a Γ st = .ok x st) (h : op [x] st = .ok w' s') : runN (Qaa a Qab) (Qak op) Γ st = .ok w' s' := by
 rw [QbW, Qaq, ha, Qac, QbB, Qac, Qac, QdM, h]; rfl
theorem QdO (ha : a Γ st = .ok x st) (hb : b Γ st = .ok y st) (h : op [x, y] st = .ok w' s') : runN (Qaa a (Qaa b Qab)) (Qak op) Γ st = .ok w' s' := by
 rw [QbW, Qaq, ha, Qac, Qaq, hb, Qac, QbB, Qac, Qac, Qac, QdM, h]; rfl
theorem QjW (ha : a Γ st = .ok x st) (hb : b Γ st = .ok y st) (hc : c Γ st = .ok z st) (h : op [x, y, z] st = .ok w' s') : runN (Qaa a (Qaa b (Qaa c Qab))) (Qak op) Γ st = .ok w' s' := by
 rw [QbW, Qaq, ha, Qac, Qaq, hb, Qac, Qaq, hc, Qac, QbB, Qac, Qac, Qac, Qac, QdM, h]; rfl
theorem Qeg (h : a Γ st = .ok x s') : sSeq (sRet a) Qal Γ st = .ok (.rt x) s' := by
 rw [Qai, ev_ret, h]; rfl
end
theorem QjQ (ro ri rv : Run) (Γ : Ga) (st : S) : QcH ro ri rv Γ st = (rv Γ st).bind fun v st1 => (ro Γ st1).bind fun o st2 => (ri Γ st2).bind fun i st3 => (QbD o i v st3).bind fun _ st4 => .ok (.nx Γ) st4 := Eq.trans rfl rfl
end DL.My
namespace DL.My
open PySem L2
inductive Dat : Nat->W->Prop
 | int (n : Nat) (i : Int) : Dat n (.int i)
 | str (n : Nat) (x : Str) : Dat n (.str x)
 | tup {n : Nat} {xs : List W} : (∀ x ∈ xs, Dat n x)->Dat (n + 1) (.tup xs)
 | lst {n : Nat} {xs : List W} : (∀ x ∈ xs, Dat n x)->Dat (n + 1) (.lst xs)
theorem Qfm {f : W->Option W} : ∀ {ws : List W}, (∀ w ∈ ws, f w = some w)->frzs f ws = some ws
 | [], _ => rfl
 | w :: ws, h => by
  show (match f w, frzs f ws with | some y, some ys => some (y :: ys) | _, _ => none) = _
  rw [h w QnI, Qfm fun x hx => h x (QnN _ hx)]
theorem Dat.frz {n : Nat} {w : W} (h : Dat n w) (N : Nat) (mu : Nat->Option MO) : ∀ m, n < m->DL.frz N mu m w = some w := by
 induction h with
 | int n i => intro m hm; cases m with | zero => omega | succ m => rfl
 | str n x => intro m hm; cases m with | zero => omega | succ m => rfl
 | @tup n xs _ ih =>
  intro m hm
  cases m with
  | zero => omega
  | succ m =>
   show (frzs (DL.frz N mu m) xs).map W.tup = _
   rw [Qfm fun x hx => ih x hx m (by omega)]; rfl
 | @lst n xs _ ih =>
  intro m hm
  cases m with
  | zero => omega
  | succ m =>
   show (frzs (DL.frz N mu m) xs).map W.lst = _
   rw [Qfm fun x hx => ih x hx m (by omega)]; rfl
theorem QgN {f : W->W->Option Bool} : ∀ {ws : List W}, (∀ w ∈ ws, f w w = some true)->Qaj f ws ws = some true
 | [], _ => by unfold Qaj; rfl
 | w :: ws, h => by
  unfold Qaj
  rw [h w QnI, QgN fun x hx => h x (QnN _ hx)]; rfl
theorem Dat.eq {n : Nat} {w : W} (h : Dat n w) : ∀ m, n < m->eqD m w w = some true := by
 induction h with
 | int n i =>
  intro m hm
  cases m with
  | zero => omega
  | succ m => show some (i == i) = _; simp
 | str n x =>
  intro m hm
  cases m with
  | zero => omega
  | succ m => show some (x == x) = _; simp
 | @tup n xs _ ih =>
  intro m hm
  cases m with
  | zero => omega
  | succ m =>
   show (Qaj (eqD m) xs xs).map (fun r => r && xs.length == xs.length) = _
   rw [QgN fun x hx => ih x hx m (by omega)]; simp
 | @lst n xs _ ih =>
  intro m hm
  cases m with
  | zero => omega
  | succ m =>
   show (if xs.length = xs.length then Qaj (eqD m) xs xs else some false) = _
   rw [if_pos rfl, QgN fun x hx => ih x hx m (by omega)]
theorem Dat.mono {n : Nat} {w : W} (h : Dat n w) : ∀ m, n<=m->Dat m w := by
 induction h with
 | int n i => intro m _; exact .int m i
 | str n x => intro m _; exact .str m x
 | tup _ ih =>
  intro m hm
  cases m with
  | zero => omega
  | succ m => exact .tup fun x hx => ih x hx m (by omega)
 | lst _ ih =>
  intro m hm
  cases m with
  | zero => omega
  | succ m => exact .lst fun x hx => ih x hx m (by omega)
theorem keep_ref {st s' : S} {n k : Nat} {xs : List W} (ho : ∀ m, m < st.nxt->s'.mu m = st.mu m) (hn : st.nxt<=n) (hm : s'.mu n = some (.lst xs)) (h : ∀ x ∈ xs, Dat k x) (hk : k<=9) : keep st s' (.ref n) = .ok (.lst xs) st := by
 refine QeE ho ?_
 show (if n < st.nxt then some (W.ref n) else (match s'.mu n with
   | some (.lst ys) => (frzs (frz st.nxt s'.mu 11) ys).map W.lst
   | some (.dct ks ys) => (frzs (frz st.nxt s'.mu 11) ys).map (W.dct ks)
   | none => none)) = _
 rw [if_neg (by omega), hm]
 show (frzs (frz st.nxt s'.mu 11) xs).map W.lst = _
 rw [Qfm fun x hx => (h x hx).frz _ _ 11 (by omega)]; rfl
theorem QgL {st s' : S} {w : W} {k : Nat} (ho : ∀ m, m < st.nxt->s'.mu m = st.mu m) (h : Dat k w) (hk : k<=10) : keep st s' w = .ok w st := QeE ho (h.frz _ _ 12 (by omega))
theorem QeF {st : S} {k : Nat} {xs : List W} (h : ∀ x ∈ xs, Dat k x) (hk : k<=9) : keep st (st.new (.lst xs)) (.ref st.nxt) = .ok (.lst xs) st := keep_ref (QeY st _) (QnL _) (Qbs st _) h hk
inductive Fl : W->Prop
 | int {i : Int} : i.natAbs < 1000000000->Fl (.int i)
 | str {z : Str} : z.length<=20->Fl (.str z)
theorem Fl.dat {w : W} (h : Fl w) (n : Nat) : Dat n w := by
 cases h with
 | int _ => exact .int _ _
 | str _ => exact .str _ _
inductive Fw : W->Prop
 | int (i : Int) : Fw (.int i)
 | str (z : Str) : Fw (.str z)
theorem Fl.fw {w : W} (h : Fl w) : Fw w := by
 cases h with
 | int _ => exact .int _
 | str _ => exact .str _
theorem fl_eq {v w : W} (hv : Fw v) (hw : Fw w) (n : Nat) : ∃ c, eqD (n + 1) v w = some c/\(c = true ↔ v = w) := by
 cases hv with
 | int i =>
  cases hw with
  | int j => exact ⟨i == j, rfl, by simp⟩
  | str y => exact ⟨false, rfl, by simp⟩
 | str x =>
  cases hw with
  | int j => exact ⟨false, rfl, by simp⟩
  | str y => exact ⟨x == y, rfl, by simp⟩
theorem Qmw {α : Type} {e : W->W->Option Bool} {u : α->W} {F : α->Prop} (hu : ∀ v w, F v->F w->∃ c, e (u v) (u w) = some c/\(c = true ↔ v = w)) : ∀ {xs ys : List α}, (∀ x ∈ xs, F x)->(∀ y ∈ ys, F y)->∃ c, Qaj e (xs.map u) (ys.map u) = some c/\(xs.length = ys.length->(c = true ↔ xs = ys))
 | [], [], _, _ => ⟨true, by simp [Qaj], fun _ => by simp⟩
 | [], _ :: _, _, _ => ⟨true, by simp [Qaj], fun h => by simp at h⟩
 | _ :: _, [], _, _ => ⟨true, by simp [Qaj], fun h => by simp at h⟩
 | x :: xs, y :: ys, h1, h2 => by
  obtain ⟨a, ha, ea⟩ := hu x y (h1 x QnI) (h2 y QnI)
  obtain ⟨b, hb, eb⟩ := Qmw hu (fun z hz => h1 z (QnN _ hz)) (fun z hz => h2 z (QnN _ hz))
  refine ⟨a && b, by rw [List.map_cons, List.map_cons]; unfold Qaj; rw [ha, hb], fun hl => ?_⟩
  rw [QnX, ea, eb (by simpa using hl), List.cons.injEq]
theorem tup_eq {α : Type} {n : Nat} {u : α->W} {F : α->Prop} (hu : ∀ v w, F v->F w->∃ c, eqD n (u v) (u w) = some c/\(c = true ↔ v = w)) {xs ys : List α} (h1 : ∀ x ∈ xs, F x) (h2 : ∀ y ∈ ys, F y) : ∃ c, eqD (n + 1) (.tup (xs.map u)) (.tup (ys.map u)) = some c/\(c = true ↔ xs = ys) := by
 obtain ⟨b, hb, eb⟩ := Qmw hu h1 h2
 refine ⟨b && (xs.map u).length == (ys.map u).length, ?_, ?_⟩
 ·show (Qaj (eqD n) (xs.map u) (ys.map u)).map (fun r => r && (xs.map u).length == (ys.map u).length) = _
  rw [hb]; rfl
 ·rw [QnM, QnM]
  by_cases hl : xs.length = ys.length
  ·rw [QnX, eb hl]
   simp [hl]
  ·have : (xs.length == ys.length) = false := by simpa using hl
   rw [this, Bool.and_false]
   exact ⟨fun z => Bool.noConfusion z, fun z => absurd (congrArg List.length z) hl⟩
theorem lst_eq {α : Type} {n : Nat} {u : α->W} {F : α->Prop} (hu : ∀ v w, F v->F w->∃ c, eqD n (u v) (u w) = some c/\(c = true ↔ v = w)) {xs ys : List α} (h1 : ∀ x ∈ xs, F x) (h2 : ∀ y ∈ ys, F y) : ∃ c, eqD (n + 1) (.lst (xs.map u)) (.lst (ys.map u)) = some c/\(c = true ↔ xs = ys) := by
 obtain ⟨b, hb, eb⟩ := Qmw hu h1 h2
 by_cases hl : xs.length = ys.length
 ·refine ⟨b, ?_, eb hl⟩
  show (if (xs.map u).length = (ys.map u).length then Qaj (eqD n) (xs.map u) (ys.map u) else some false) = _
  rw [if_pos (by rw [QnM, QnM, hl]), hb]
 ·refine ⟨false, ?_, fun z => Bool.noConfusion z, fun z => absurd (congrArg List.length z) hl⟩
  show (if (xs.map u).length = (ys.map u).length then Qaj (eqD n) (xs.map u) (ys.map u) else some false) = _
  rw [if_neg (by rw [QnM, QnM]; exact hl)]
theorem QmJ (n : Nat) {xs ys : List W} (h1 : ∀ x ∈ xs, Fw x) (h2 : ∀ y ∈ ys, Fw y) : ∃ c, eqD (n + 2) (.tup xs) (.tup ys) = some c/\(c = true ↔ xs = ys) := by
 have := tup_eq (n := n + 1) (u := id) (F := Fw) (fun v w hv hw => fl_eq hv hw n) h1 h2
 rwa [List.map_id, List.map_id] at this
def Fact (k : Nat) (f : W) : Prop := ∃ (n : Str) (vs : List W), f = .tup (.str n :: (vs ++ [.int (k : Nat)]))/\n.length<=20/\(∀ v ∈ vs, Fl v)/\vs.length<=3/\k < 12
theorem Fact.flat {k : Nat} {f : W} (h : Fact k f) : ∃ xs, f = .tup xs/\(∀ x ∈ xs, Fl x)/\xs.length<=5/\xs.getLast? = some (.int (k : Nat)) := by
 obtain ⟨n, vs, rfl, hn, hv, hl, hk⟩ := h
 refine ⟨_, rfl, fun x hx => ?_, ?_, ?_⟩
 ·rcases List.mem_cons.mp hx with rfl | hx
  ·exact .str hn
  ·rcases List.mem_append.mp hx with hx | hx
   ·exact hv x hx
   ·rw [List.mem_singleton.mp hx]; exact .int (by omega)
 ·rw [QnU, QnO, QnW]; omega
 ·rw [List.getLast?_cons, List.getLast?_append]; rfl
theorem QiZ {i j : Nat} {f g : W} (hf : Fact i f) (hg : Fact j g) : ∃ c, eqD 12 f g = some c/\(c = true ↔ f = g) := by
 obtain ⟨xs, rfl, h1, _⟩ := hf.flat
 obtain ⟨ys, rfl, h2, _⟩ := hg.flat
 obtain ⟨c, hc, ec⟩ := QmJ 10 (fun x hx => (h1 x hx).fw) (fun x hx => (h2 x hx).fw)
 exact ⟨c, hc, by rw [ec, W.tup.injEq]⟩
theorem QmM {i j : Nat} {f : W} (hf : Fact i f) (hg : Fact j f) : i = j := by
 obtain ⟨xs, rfl, _, _, h1⟩ := hf.flat
 obtain ⟨ys, e, _, _, h2⟩ := hg.flat
 cases e
 rw [h1] at h2
 have h3 : (i : Int) = (j : Int) := by injection h2 with h2; injection h2
 omega
theorem Qcv {k : Nat} {f : W} (h : Fact k f) : Dat 1 f := by
 obtain ⟨xs, rfl, h1, _⟩ := h.flat
 exact .tup fun x hx => (h1 x hx).dat 0
theorem QmK : ∀ {xs : List W}, (∀ x ∈ xs, Fl x)->∃ ks, QhC xs = some ks/\ks.map keyVW = xs
 | [], _ => ⟨[], rfl, rfl⟩
 | x :: xs, h => by
  obtain ⟨ks, h1, h2⟩ := QmK fun z hz => h z (QnN _ hz)
  cases h x QnI with
  | @int i _ => exact ⟨.inl i :: ks, by unfold QhC; rw [h1]; rfl, by rw [List.map_cons, h2]; rfl⟩
  | @str y _ => exact ⟨.inr y :: ks, by unfold QhC; rw [h1]; rfl, by rw [List.map_cons, h2]; rfl⟩
def keyF (f : W) : DKey := (keyW f).getD []
theorem QbJ {k : Nat} {f : W} (h : Fact k f) : keyW f = some (keyF f)/\keyT (keyF f) = f := by
 obtain ⟨xs, rfl, h1, _⟩ := h.flat
 obtain ⟨ks, e1, e2⟩ := QmK h1
 have e : keyW (.tup xs) = some ks := e1
 unfold keyF
 rw [e]
 exact ⟨rfl, congrArg W.tup e2⟩
def Qbx (f : W) : Prop := ∃ k, Fact k f
theorem Qmo {f : W} {acc : List W} (hf : Qbx f) (ha : ∀ g ∈ acc, Qbx g) : keyF f ∈ acc.map keyF ↔ f ∈ acc := by
 constructor
 ·intro h
  obtain ⟨g, hg, e⟩ := List.mem_map.mp h
  obtain ⟨_, hf⟩ := hf
  obtain ⟨_, hg'⟩ := ha g hg
  have := congrArg keyT e
  rw [(QbJ hg').2, (QbJ hf).2] at this
  rw [<-this]; exact hg
 ·exact fun h => List.mem_map.mpr ⟨f, h, rfl⟩
theorem QmB {f : W} (hf : Qbx f) : ∀ {acc : List W}, (∀ g ∈ acc, Qbx g)->∃ c, inD f acc = some c/\(c = true ↔ f ∈ acc)
 | [], _ => ⟨false, rfl, by simp⟩
 | g :: acc, h => by
  obtain ⟨b, hb, eb⟩ := QmB hf fun z hz => h z (QnN _ hz)
  obtain ⟨i, hf'⟩ := hf
  obtain ⟨j, hg⟩ := h g QnI
  obtain ⟨a, ha, ea⟩ := QiZ hg hf'
  refine ⟨a || b, by unfold inD; rw [ha, hb], ?_⟩
  rw [Bool.or_eq_true, ea, eb, List.mem_cons]
  exact ⟨fun h => h.imp Eq.symm id, fun h => h.imp Eq.symm id⟩
def QnC (fs : List W) : Prop := fs.length<=12/\∀ k f, fs[k]? = some f->Fact k f
theorem QiY {o : Nat} {fs : List W} (h : ∀ m g, fs[m]? = some g->Fact (o + m) g) {j : Nat} {f : W} (hj : fs[j]? = some f) : Qcy f fs = some j := by
 induction fs generalizing o j with
 | nil => simp at hj
 | cons g fs ih =>
  have hg := h 0 g rfl
  have hf := h j f hj
  obtain ⟨c, hc, ec⟩ := QiZ hg hf
  unfold Qcy
  rw [hc]
  cases j with
  | zero =>
   have e : g = f := by simpa using hj
   rw [ec.mpr e]
  | succ j =>
   have : c = false := by
    cases c with
    | false => rfl
    | true =>
     have e := ec.mp rfl
     subst e
     have := QmM hg hf
     omega
   rw [this]
   have := ih (o := o + 1) (j := j) (fun m g hm => by rw [show o + 1 + m = o + (m + 1) by omega]; exact h (m + 1) g hm) (by simpa using hj)
   show (Qcy f fs).map (· + 1) = _
   rw [this]; rfl
theorem index_ok {fs : List W} (h : QnC fs) {j : Nat} {f : W} (hj : fs[j]? = some f) (st : S) : QbH (.lst fs) [f] st = .ok (.int (j : Nat)) st := by
 have hF : ∀ g ∈ fs, Qbx g := fun g hg => by
  obtain ⟨i, hi, e⟩ := List.getElem_of_mem hg
  exact ⟨i, h.2 i g (by rw [QnF hi, e])⟩
 obtain ⟨c, hc, _⟩ := QmB ⟨j, h.2 j f hj⟩ hF
 show (if (inD f fs).isSome = true then (match Qcy f fs with
   | some j => R.ok (W.int (j : Nat)) st
   | none => .stuck) else .stuck) = _
 rw [hc, QiY (o := 0) (fun m g hm => by rw [Nat.zero_add]; exact h.2 m g hm) hj]; rfl
end DL.My
namespace DL.My
open PySem L2
section
variable {Γ : Ga} {s st : S}
theorem Qdb {xs : List W} {ro re : Run} {w : W} (ho : ro Γ (st.new (.lst xs)) = .ok (.ref st.nxt) (st.new (.lst xs))) (he : re Γ (st.new (.lst xs)) = .ok w (st.new (.lst xs))) (hl : xs.length<=1000) :
  runM "list" ro (Qaa re Qab) QaV Γ (st.new (.lst xs)) = .ok .non (st.new (.lst (xs ++ [w]))) := by
 have hk : Qdd (st.new (.lst xs)) (.ref st.nxt) = some "list" := by
  show MO.kind ((st.new (.lst xs)).mu st.nxt) = _
  rw [Qbs]; rfl
 unfold runM
 rw [ho, Qac, if_pos hk, Qaq, he, Qac, QbB, Qac, Qac]
 show (match (st.new (.lst xs)).mu st.nxt with
  | some (.lst xs) => if xs.length < sizeLine then R.ok W.non ((st.new (.lst _)).put st.nxt (.lst (xs ++ [w]))) else .stuck
  | _ => .stuck) = _
 rw [Qbs]
 show (if xs.length < sizeLine then _ else _) = _
 rw [if_pos (Qoa hl (by decide)), QgG]
theorem QkG {xs zs : List W} {ro re : Run} (ho : ro Γ (st.new (.lst xs)) = .ok (.ref st.nxt) (st.new (.lst xs))) (he : re Γ (st.new (.lst xs)) = .ok (.tup zs) (st.new (.lst xs))) (hl : xs.length + zs.length<=1000) :
  runM "list" ro (Qaa re Qab) QeX Γ (st.new (.lst xs)) = .ok .non (st.new (.lst (xs ++ zs))) := by
 have hk : Qdd (st.new (.lst xs)) (.ref st.nxt) = some "list" := by
  show MO.kind ((st.new (.lst xs)).mu st.nxt) = _
  rw [Qbs]; rfl
 unfold runM
 rw [ho, Qac, if_pos hk, Qaq, he, Qac, QbB, Qac, Qac]
 show QjP st.nxt zs (st.new (.lst xs)) = _
 unfold QjP
 rw [Qbs]
 show (if xs.length + zs.length<=sizeLine then _ else _) = _
 rw [if_pos (Qam hl), QgG]
theorem Qfd (k y : Str) (r : List W) : run2 (run2 (rVar 0) (rCon (W.int 0)) Qah) (rCon (W.str y)) opEq (some (.tup (.str k :: r)) :: Γ) s = .ok (.bl (k == y)) s := by
 rw [Qag, Qag, QaD, Qac, Qaf, Qac, QmD, Qac, Qaf, Qac, QhS]
theorem at0 {ws : List W} {w : W} (j : Nat) (i : Int) (hi : i = ((j : Nat) : Int)) (h : ws[j]? = some w) : run2 (rVar 0) (rCon (W.int i)) Qah (some (.tup ws) :: Γ) s = .ok w s := by
 subst hi
 rw [Qag, QaD, Qac, Qaf, Qac]
 exact Qjb _ _ _ (QdP _ _ _ h)
theorem listT {gs : List W} (h : gs.length<=1000) : QbE false [.tup gs] s = .ok (.lst gs) s := Qcz gs (Qam h)
theorem listL {gs : List W} (h : gs.length<=1000) : QbE false [.lst gs] s = .ok (.lst gs) s := Qcz gs (Qam h)
theorem Qbt {a : Run} {op : OpN} {x : W} (ha : a Γ s = .ok x s) : runN (Qaa a Qab) op Γ s = op [x] s := by
 rw [QbW, Qaq, ha, Qac, QbB, Qac, Qac]
theorem QcC {r : Run} {xs : List W} (h : r Γ s = .ok (.lst xs) s) : Qaw r Γ s = .ok xs s := by
 unfold Qaw; rw [h]; rfl
theorem src_tup {r : Run} {xs : List W} (h : r Γ s = .ok (.tup xs) s) : Qaw r Γ s = .ok xs s := by
 unfold Qaw; rw [h]; rfl
end
theorem QbM (i : Nat) (body : RunS) (x : W) (xs : List W) (Γ Γ' : Ga) (s s' : S) (h : body (Γ.set i (some x)) s = .ok (.nx Γ') s') : QbI i body (x :: xs) Γ s = QbI i body xs Γ' s' := by
 show ((body (Γ.set i (some x)) s).bind fun fl st' => match fl with
  | .nx Γ' => QbI i body xs Γ' st'
  | .ct Γ' => QbI i body xs Γ' st'
  | .bk Γ' => .ok (.nx Γ') st'
  | .rt w => .ok (.rt w) st') = _
 rw [h]; rfl
inductive Gr (P : W->Prop) : W->Prop
 | has {f : W} : P f->Gr P (.tup [.str "has", f])
 | oth {k : Str} {r : List W} : (k == ("has" : Str)) = false->(∀ x ∈ r, Dat 1 x)->Gr P (.tup (.str k :: r))
def hasF : W->List W
 | .tup [.str k, f] => if (k == ("has" : Str)) = true then [f] else []
 | _ => []
theorem hasF_oth {k : Str} {r : List W} (h : (k == ("has" : Str)) = false) : hasF (.tup (.str k :: r)) = [] := by
 cases r with
 | nil => rfl
 | cons x r =>
  cases r with
  | nil => show (if (k == ("has" : Str)) = true then [x] else []) = _; rw [h]; rfl
  | cons y r => rfl
theorem hasF_has (f : W) : hasF (.tup [.str "has", f]) = [f] := by
 show (if (("has" : Str) == ("has" : Str)) = true then [f] else []) = _
 rw [if_pos (by decide +kernel)]
noncomputable def addN (acc : List W) (f : W) : List W := @ite _ (f ∈ acc) (Classical.propDecidable _) acc (acc ++ [f])
theorem Qhe {acc : List W} {f : W} (h : f ∈ acc) : addN acc f = acc := if_pos h
theorem QeJ {acc : List W} {f : W} (h : f ∉ acc) : addN acc f = acc ++ [f] := if_neg h
theorem Qhf {P : W->Prop} {acc : List W} {f : W} (hf : P f) (ha : ∀ g ∈ acc, P g) : ∀ g ∈ addN acc f, P g := by
 intro g hg
 by_cases h : f ∈ acc
 ·rw [Qhe h] at hg; exact ha g hg
 ·rw [QeJ h] at hg
  rcases List.mem_append.mp hg with hg | hg
  ·exact ha g hg
  ·rw [List.mem_singleton.mp hg]; exact hf
theorem Qhd (acc : List W) (f : W) : (addN acc f).length<=acc.length + 1 := by
 by_cases h : f ∈ acc
 ·rw [Qhe h]; omega
 ·rw [QeJ h, QnO]; exact QnL _
noncomputable def nam : List W->List W->List W
 | acc, [] => acc
 | acc, g :: gs => nam ((hasF g).foldl addN acc) gs
theorem QgI (acc gs : List W) (f : W) : nam acc (.tup [.str "has", f] :: gs) = nam (addN acc f) gs := by
 show nam ((hasF (.tup [.str "has", f])).foldl addN acc) gs = _
 rw [hasF_has]; rfl
theorem QgH (acc gs : List W) {k : Str} {r : List W} (h : (k == ("has" : Str)) = false) : nam acc (.tup (.str k :: r) :: gs) = nam acc gs := by
 show nam ((hasF (.tup (.str k :: r))).foldl addN acc) gs = _
 rw [hasF_oth h]; rfl
theorem Qec {P : W->Prop} : ∀ {gs acc : List W}, (∀ g ∈ gs, Gr P g)->(∀ f ∈ acc, P f)->∀ f ∈ nam acc gs, P f
 | [], _, _, ha => ha
 | g :: gs, acc, hg, ha => by
  have hg2 := fun z hz => hg z (QnN _ hz)
  cases hg g QnI with
  | has hf => rw [QgI]; exact Qec hg2 (Qhf hf ha)
  | oth hk _ => rw [QgH _ _ hk]; exact Qec hg2 ha
theorem QeZ {P : W->Prop} : ∀ {gs acc : List W}, (∀ g ∈ gs, Gr P g)->(nam acc gs).length<=acc.length + gs.length
 | [], _, _ => QnL _
 | g :: gs, acc, hg => by
  have hg2 := fun z hz => hg z (QnN _ hz)
  cases hg g QnI with
  | @has f hf =>
   rw [QgI, QnU]
   have := QeZ (acc := addN acc f) hg2
   have := Qhd acc f
   omega
  | oth hk _ =>
   rw [QgH _ _ hk, QnU]
   have := QeZ (acc := acc) hg2
   omega
def Gs (P : W->Prop) (gs : List W) : Prop := (∀ g ∈ gs, Gr P g)/\gs.length<=4
inductive Re (P : W->Prop) : W->Prop
 | told : Re P (.tup [.str "told"])
 | by_ {n : Int} {gs : List W} : Gs P gs->Re P (.tup [.str "by", .int n, .tup gs])
 | of_ {n : Int} {ks fs : List W} : (∀ x ∈ ks, Dat 0 x)->(∀ w ∈ fs, ∃ gs, w = .tup gs/\Gs P gs)->fs.length<=3->Re P (.tup [.str "of", .int n, .tup ks, .tup fs])
def tupW : W->List W
 | .tup xs => xs
 | _ => []
def gsOf : W->List W
 | .tup [_, _, gs] => tupW gs
 | .tup [_, _, _, fs] => (tupW fs).flatMap tupW
 | _ => []
theorem Gr.mono {P P' : W->Prop} (h : ∀ f, P f->P' f) {g : W} (hg : Gr P g) : Gr P' g := by
 cases hg with
 | has a => exact .has (h _ a)
 | oth a b => exact .oth a b
theorem Re.mono {P P' : W->Prop} (h : ∀ f, P f->P' f) {r : W} (hr : Re P r) : Re P' r := by
 cases hr with
 | told => exact .told
 | by_ a => exact .by_ ⟨fun g hg => (a.1 g hg).mono h, a.2⟩
 | of_ k b c => exact .of_ k (fun w hw => let ⟨gs, e, g⟩ := b w hw; ⟨gs, e, fun x hx => (g.1 x hx).mono h, g.2⟩) c
theorem Re.gs {P : W->Prop} {r : W} (h : Re P r) : (∀ g ∈ gsOf r, Gr P g)/\(gsOf r).length<=12 := by
 cases h with
 | told => exact ⟨fun g hg => (by cases hg), Nat.zero_le _⟩
 | by_ a => exact ⟨a.1, QnV a.2 (by decide)⟩
 | @of_ n ks fs k b c =>
  have go : ∀ fs : List W, (∀ w ∈ fs, ∃ gs, w = .tup gs/\Gs P gs)->(∀ g ∈ fs.flatMap tupW, Gr P g)/\(fs.flatMap tupW).length<=4 * fs.length := by
   intro fs
   induction fs with
   | nil => intro _; exact ⟨fun g hg => (by cases hg), QnL _⟩
   | cons w fs ih =>
    intro h
    obtain ⟨gs, rfl, hg⟩ := h w QnI
    obtain ⟨i1, i2⟩ := ih fun z hz => h z (QnN _ hz)
    have e : (W.tup gs :: fs).flatMap tupW = gs ++ fs.flatMap tupW := List.flatMap_cons
    rw [e]
    refine ⟨fun g hx => ?_, ?_⟩
    ·rcases List.mem_append.mp hx with hx | hx
     ·exact hg.1 g hx
     ·exact i1 g hx
    ·have := hg.2
     rw [QnO, QnU]; omega
  obtain ⟨h1, h2⟩ := go fs b
  exact ⟨h1, show (fs.flatMap tupW).length<=12 by omega⟩
section
variable {P : W->Prop} (hP : ∀ f, P f->Qbx f)
include hP
theorem Gr.dat {g : W} (h : Gr P g) : Dat 2 g := by
 cases h with
 | @has f hf =>
  obtain ⟨_, hk⟩ := hP f hf
  refine .tup fun x hx => ?_
  rcases List.mem_cons.mp hx with rfl | hx
  ·exact .str _ _
  ·rw [List.mem_singleton.mp hx]; exact Qcv hk
 | @oth k r hk hr =>
  refine .tup fun x hx => ?_
  rcases List.mem_cons.mp hx with rfl | hx
  ·exact .str _ _
  ·exact hr x hx
theorem Re.dat {r : W} (h : Re P r) : Dat 5 r := by
 have two : ∀ {gs : List W}, Gs P gs->Dat 3 (.tup gs) := fun h => .tup fun x hx => Gr.dat hP (h.1 x hx)
 cases h with
 | told => exact .tup fun x hx => by rw [List.mem_singleton.mp hx]; exact .str _ _
 | by_ a =>
  refine .tup fun x hx => ?_
  rcases List.mem_cons.mp hx with rfl | hx
  ·exact .str _ _
  ·rcases List.mem_cons.mp hx with rfl | hx
   ·exact .int _ _
   ·rw [List.mem_singleton.mp hx]; exact (two a).mono 4 (by omega)
 | of_ k b c =>
  refine .tup fun x hx => ?_
  rcases List.mem_cons.mp hx with rfl | hx
  ·exact .str _ _
  ·rcases List.mem_cons.mp hx with rfl | hx
   ·exact .int _ _
   ·rcases List.mem_cons.mp hx with rfl | hx
    ·exact (Dat.tup k).mono 4 (by omega)
    ·rw [List.mem_singleton.mp hx]
     exact .tup fun w hw => by obtain ⟨gs, rfl, hg⟩ := b w hw; exact two hg
noncomputable def QhO : RunS := (sSeq (QdT (runM "list" (rVar 1) (Qaa (rVar 2) Qab) QeX))
 Qal)
omit hP in
theorem QmI {r : W} {st : S} : ∀ (fs acc : List W) (x2 : Option W), (∀ w ∈ fs, ∃ gs, w = .tup gs/\Gs P gs)->acc.length + 4 * fs.length<=1000 ->
  ∃ y2, QbI 2 QhO fs [some r, some (.ref st.nxt), x2] (st.new (.lst acc)) = .ok (.nx [some r, some (.ref st.nxt), y2]) (st.new (.lst (acc ++ fs.flatMap tupW)))
 | [], acc, x2, _, _ => ⟨x2, by rw [List.flatMap_nil, List.append_nil]; rfl⟩
 | w :: fs, acc, x2, h, hl => by
  obtain ⟨gs, rfl, hg⟩ := h w QnI
  have h4 := hg.2
  rw [QnU] at hl
  obtain ⟨y2, e⟩ := QmI (r := r) (st := st) fs (acc ++ gs) (some (.tup gs)) (fun z hz => h z (QnN _ hz)) (by rw [QnO]; omega)
  refine ⟨y2, ?_⟩
  have eb : QhO [some r, some (.ref st.nxt), some (.tup gs)] (st.new (.lst acc)) = .ok (.nx [some r, some (.ref st.nxt), some (.tup gs)]) (st.new (.lst (acc ++ gs))) := by
   unfold QhO
   rw [Qai, Qfn, QkG (QaO _ _) (QbF _ _ _) (by omega), Qac, Qac, Qae, Qas]
  rw [QbM 2 QhO (.tup gs) fs [some r, some (.ref st.nxt), x2] _ _ _ eb, e, List.flatMap_cons, <-List.append_assoc]; rfl
theorem QkE {r : W} (h : Re P r) (st : S) : Qbm [r] st = .ok (.lst (gsOf r)) st := by
 have dd : ∀ g ∈ gsOf r, Dat 2 g := fun g hg => Gr.dat hP (h.gs.1 g hg)
 have nl : ∀ Γ : Ga, runN Qab (opL true) Γ st = .ok (.ref st.nxt) (st.new (.lst [])) := fun _ => rfl
 unfold Qbm
 rw [QcO]
 unfold QcJ
 rw [show List.replicate (3 - 1) (none : Option W) = [none, none] from rfl]
 cases h with
 | told =>
  rw [Qai, QbC, Qfd, Qac, Qaz, if_neg (by decide +kernel), Qas, Qac, Qae, Qai, Qbq, nl, Qac, ks1, Qac, Qae, Qai, QbC, Qfd, Qac, Qaz, if_neg (by decide +kernel), Qas, Qac, Qae, Qeg (QaO _ _), Qel]
  exact QeF dd (by decide)
 | @by_ n gs a =>
  rw [Qai, QbC, Qfd, Qac, Qaz, if_pos (by decide +kernel), QbA ((Qbt (at0 2 2 rfl rfl)).trans (listT (QnV a.2 (by decide)))), Qac, Qdp, Qel]
  exact QgL (fun _ _ => rfl) (.lst dd) (by decide)
 | @of_ n ks fs k b c =>
  obtain ⟨y2, e⟩ := QmI (P := P) (r := .tup [.str "of", .int n, .tup ks, .tup fs]) (st := st) fs [] none b (by simp; omega)
  unfold QhO at e
  have sf : ∀ body : RunS, sFor 2 (Qaw (run2 (rVar 0) (rCon (W.int 3)) Qah)) body [some (.tup [.str "of", .int n, .tup ks, .tup fs]), some (.ref st.nxt), none] (st.new (.lst [])) = QbI 2 body fs [some (.tup [.str "of", .int n, .tup ks, .tup fs]), some (.ref st.nxt), none] (st.new (.lst [])) := fun body => by
   rw [QfV, src_tup (at0 3 3 rfl rfl), Qac]
  rw [Qai, QbC, Qfd, Qac, Qaz, if_neg (by decide +kernel), Qas, Qac, Qae, Qai, Qbq, nl, Qac, ks1, Qac, Qae, Qai, QbC, Qfd, Qac, Qaz, if_pos (by decide +kernel), Qai, sf, e, Qac, Qae, Qas, Qac, Qae, Qeg (QaO _ _), Qel, List.nil_append]
  exact QeF dd (by decide)
noncomputable def stD (st : S) (acc : List W) : S := st.new (.dct (acc.map keyF) (acc.map fun _ => W.bl true))
omit hP in
theorem Qhw (k : DKey) : ∀ acc : List W, Qlx k (.bl true) (acc.map keyF) (acc.map fun _ => W.bl true) = acc.map fun _ => W.bl true
 | [] => rfl
 | f :: acc => by
  show (if keyF f = k then W.bl true else W.bl true) :: Qlx k (.bl true) (acc.map keyF) (acc.map fun _ => W.bl true) = _
  rw [Qhw k acc, ite_self]; rfl
omit hP in
theorem put_true {f : W} {acc : List W} (hf : Qbx f) (ha : ∀ g ∈ acc, Qbx g) : putW (acc.map keyF) (acc.map fun _ => W.bl true) (keyF f) (.bl true) = ((addN acc f).map keyF, (addN acc f).map fun _ => W.bl true) := by
 by_cases h : f ∈ acc
 ·unfold putW
  rw [if_pos ((QjM _ _).mpr ((Qmo hf ha).mpr h)), Qhw, Qhe h]
 ·rw [Qjz (fun z => h ((Qmo hf ha).mp z)), QeJ h, List.map_append, List.map_append]; rfl
noncomputable def Qej : RunS := (sSeq (sIf (run2 (run2 (rVar 3) (rCon (W.int 0)) Qah) (rVar 1) opEq)
  (sSeq (QcH (rVar 2) (run2 (rVar 3) (rCon (W.int 1)) Qah) (rCon (W.bl true)))
 Qal)
  Qal)
 Qal)
theorem QiX {r : W} {st : S} : ∀ (gs acc : List W) (x3 : Option W), (∀ g ∈ gs, Gr P g)->(∀ f ∈ acc, P f)->acc.length + gs.length<=1000 ->
  ∃ y3, QbI 3 Qej gs [some r, some (.str "has"), some (.ref st.nxt), x3] (stD st acc) = .ok (.nx [some r, some (.str "has"), some (.ref st.nxt), y3]) (stD st (nam acc gs))
 | [], acc, x3, _, _, _ => ⟨x3, rfl⟩
 | g :: gs, acc, x3, hg, ha, hl => by
  have hg2 := fun z hz => hg z (QnN _ hz)
  rw [QnU] at hl
  have kd : ∀ (k : Str) (rr : List W), run2 (run2 (rVar 3) (rCon (W.int 0)) Qah) (rVar 1) opEq [some r, some (.str "has"), some (.ref st.nxt), some (.tup (.str k :: rr))] (stD st acc) = .ok (.bl (k == ("has" : Str))) (stD st acc) := fun k rr => by
   rw [Qag, Qag, Qbg, Qac, Qaf, Qac, QmD, Qac, QaO, Qac, QhS]
  cases hg g QnI with
  | @has f hf =>
   obtain ⟨y3, e⟩ := QiX (r := r) (st := st) gs (addN acc f) (some (.tup [.str "has", f])) hg2 (Qhf hf ha) (by have := Qhd acc f; omega)
   refine ⟨y3, ?_⟩
   obtain ⟨kf, hk⟩ := hP f hf
   have es : QbD (.ref st.nxt) f (.bl true) (stD st acc) = .ok () (stD st (addN acc f)) := by
    show Qhr st.nxt f _ _ ((stD st acc).mu st.nxt) (keyW f) = _
    rw [show (stD st acc).mu st.nxt = some (.dct (acc.map keyF) (acc.map fun _ => W.bl true)) from Qbs _ _, (QbJ hk).1]
    show (if (acc.map keyF).length < sizeLine then R.ok () ((stD st acc).put st.nxt (.dct _ _)) else .stuck) = _
    rw [if_pos (by rw [QnM]; exact Qoa (show acc.length<=1000 by omega) (by decide)), put_true ⟨kf, hk⟩ (fun g hg => hP g (ha g hg))]
    unfold stD
    rw [QgG]
   have eb : Qej [some r, some (.str "has"), some (.ref st.nxt), some (.tup [.str "has", f])] (stD st acc) = .ok (.nx [some r, some (.str "has"), some (.ref st.nxt), some (.tup [.str "has", f])]) (stD st (addN acc f)) := by
    unfold Qej
    rw [Qai, QbC, kd, Qac, Qaz, if_pos (by decide +kernel), Qai, QjQ, Qaf, Qac, QbF, Qac, Qag, Qbg, Qac, Qaf, Qac, idx1T, Qac, es, Qac, Qac, Qae, Qas, Qac, Qae, Qas]
   rw [QbM 3 Qej _ gs [some r, some (.str "has"), some (.ref st.nxt), x3] _ _ _ eb, QgI]; exact e
  | @oth k rr hk hr =>
   obtain ⟨y3, e⟩ := QiX (r := r) (st := st) gs acc (some (.tup (.str k :: rr))) hg2 ha (by omega)
   refine ⟨y3, ?_⟩
   have eb : Qej [some r, some (.str "has"), some (.ref st.nxt), some (.tup (.str k :: rr))] (stD st acc) = .ok (.nx [some r, some (.str "has"), some (.ref st.nxt), some (.tup (.str k :: rr))]) (stD st acc) := by
    unfold Qej
    rw [Qai, QbC, kd, Qac, Qaz, hk, if_neg QnE, Qas, Qac, Qae, Qas]
   rw [QbM 3 Qej _ gs [some r, some (.str "has"), some (.ref st.nxt), x3] _ _ _ eb, QgH _ _ hk]; exact e
theorem rests_ok {r : W} (h : Re P r) (st : S) : Qbu [r] st = .ok (.lst (nam [] (gsOf r))) st := by
 obtain ⟨hg, hl⟩ := h.gs
 have all : ∀ f ∈ nam [] (gsOf r), P f := Qec hg (fun f hf => by cases hf)
 have ln : (nam [] (gsOf r)).length<=1000 := by have := QeZ (acc := []) hg; rw [List.length_nil] at this; omega
 obtain ⟨y3, e⟩ := QiX hP (r := r) (st := st) (gsOf r) [] none hg (fun f hf => by cases hf) (by rw [List.length_nil]; omega)
 have rn : ∀ Γ : Ga, QfO Γ st = .ok (.ref st.nxt) (stD st []) := fun Γ => rfl
 have sf : ∀ body : RunS, sFor 3 (Qaw (runN (Qaa (rVar 0) Qab) (Qak Qbm))) body [some r, some (.str "has"), some (.ref st.nxt), none] (stD st []) = QbI 3 body (gsOf r) [some r, some (.str "has"), some (.ref st.nxt), none] (stD st []) := fun body => by
  rw [QfV, QcC (QcR (QaD _) (QkE hP h _)), Qac]
 unfold Qej at e
 have ek : ((nam [] (gsOf r)).map keyF).map keyT = nam [] (gsOf r) := by
  rw [List.map_map]
  conv => rhs; rw [<-List.map_id (nam [] (gsOf r))]
  apply List.map_congr_left
  intro f hf
  obtain ⟨_, hk⟩ := hP f (all f hf)
  exact (QbJ hk).2
 have el : QbE false [.ref st.nxt] (stD st (nam [] (gsOf r))) = .ok (.lst (nam [] (gsOf r))) (stD st (nam [] (gsOf r))) := by
  show (match Qdt (stD st (nam [] (gsOf r))) (.ref st.nxt) with
   | some (ks, _) => opL false (ks.map keyT) _
   | none => QjE false [.ref st.nxt] _) = _
  rw [show Qdt (stD st (nam [] (gsOf r))) (.ref st.nxt) = some ((nam [] (gsOf r)).map keyF, (nam [] (gsOf r)).map fun _ => W.bl true) from by
   show (match (stD st (nam [] (gsOf r))).mu st.nxt with | some (.dct ks ws) => some (ks, ws) | _ => none) = _
   rw [show (stD st (nam [] (gsOf r))).mu st.nxt = some (.dct _ _) from Qbs _ _]]
  show opL false (((nam [] (gsOf r)).map keyF).map keyT) _ = _
  rw [ek, Qcz _ (Qam ln)]
 have ef : QaJ [r, .str "has"] st = .ok (.lst (nam [] (gsOf r))) st := by
  unfold QaJ
  rw [QfU]
  unfold Qbk
  rw [show List.replicate (4 - 2) (none : Option W) = [none, none] from rfl, Qai, Qbq, rn, Qac, ks2, Qac, Qae, Qai, sf, e, Qac, Qae, Qeg ((Qbt (QbF _ _ _)).trans el), Qel]
  exact QgL (k := 2) (QeY st _) (.lst fun f hf => by obtain ⟨_, hk⟩ := hP f (all f hf); exact Qcv hk) (by decide)
 unfold Qbu
 rw [QcO]
 unfold QdV
 rw [QbA (QdO (QaD _) (Qaf _) ef)]; rfl
noncomputable def QdD : RunS := (sSeq (sIf (QaZ (run2 (run2 (rVar 4) (rCon (W.int 0)) Qah) (rCon (W.str "has")) opEq) (run2 (run2 (rVar 4) (rCon (W.int 1)) Qah) (rVar 3) Qdo))
  (sSeq (QdT (runM "list" (rVar 3) (Qaa (run2 (rVar 4) (rCon (W.int 1)) Qah) Qab) QaV))
 Qal)
  Qal)
 Qal)
noncomputable def QjH : RunS := (sSeq (sSet 3 (runN Qab (opL true)))
 (sSeq (sFor 4 (Qaw (rVar 1)) QdD)
 (sSeq (sRet (rVar 3))
 Qal)))
omit hP in
theorem QlV {f : W} {acc : List W} {st : S} (hf : Qbx f) (ha : ∀ g ∈ acc, Qbx g) : ∃ c, Qdo f (.ref st.nxt) (st.new (.lst acc)) = .ok (.bl (!c)) (st.new (.lst acc))/\(c = true ↔ f ∈ acc) := by
 obtain ⟨c, hc, ec⟩ := QmB hf ha
 refine ⟨c, ?_, ec⟩
 obtain ⟨k, hk⟩ := hf
 obtain ⟨xs, rfl, _⟩ := hk.flat
 have e1 : QhK (st.new (.lst acc)) (.tup xs) (.ref st.nxt) = none := by
  unfold QhK
  rw [QkL]
  cases keyW (.tup xs) <;> rfl
 unfold Qdo
 rw [e1]
 show (match (match QaB (st.new (.lst acc)) (.ref st.nxt) with
   | some ys => inD (.tup xs) ys
   | none => none) with
  | some r => R.ok (W.bl (!r)) _
  | none => .stuck) = _
 rw [QkC]
 show (match inD (.tup xs) acc with
  | some r => R.ok (W.bl (!r)) _
  | none => .stuck) = _
 rw [hc]
theorem QiP {st : S} {a b c : Option W} : ∀ (gs acc : List W) (x4 : Option W), (∀ g ∈ gs, Gr P g)->(∀ f ∈ acc, P f)->acc.length + gs.length<=1000 ->
  ∃ y4, QbI 4 QdD gs [a, b, c, some (.ref st.nxt), x4] (st.new (.lst acc)) = .ok (.nx [a, b, c, some (.ref st.nxt), y4]) (st.new (.lst (nam acc gs)))
 | [], acc, x4, _, _, _ => ⟨x4, rfl⟩
 | g :: gs, acc, x4, hg, ha, hl => by
  have hg2 := fun z hz => hg z (QnN _ hz)
  rw [QnU] at hl
  have kd : ∀ (k : Str) (rr : List W), run2 (run2 (rVar 4) (rCon (W.int 0)) Qah) (rCon (W.str "has")) opEq [a, b, c, some (.ref st.nxt), some (.tup (.str k :: rr))] (st.new (.lst acc)) = .ok (.bl (k == ("has" : Str))) (st.new (.lst acc)) := fun k rr => by
   rw [Qag, Qag, QfH, Qac, Qaf, Qac, QmD, Qac, Qaf, Qac, QhS]
  cases hg g QnI with
  | @has f hf =>
   have e1 : run2 (rVar 4) (rCon (W.int 1)) Qah [a, b, c, some (.ref st.nxt), some (.tup [.str "has", f])] (st.new (.lst acc)) = .ok f (st.new (.lst acc)) := by rw [Qag, QfH, Qac, Qaf, Qac, idx1T]
   obtain ⟨y4, e⟩ := QiP (st := st) (a := a) (b := b) (c := c) gs (addN acc f) (some (.tup [.str "has", f])) hg2 (Qhf hf ha) (by have := Qhd acc f; omega)
   refine ⟨y4, ?_⟩
   obtain ⟨cc, hc, ec⟩ := QlV (st := st) (hP f hf) (fun g hg => hP g (ha g hg))
   have eb : QdD [a, b, c, some (.ref st.nxt), some (.tup [.str "has", f])] (st.new (.lst acc)) = .ok (.nx [a, b, c, some (.ref st.nxt), some (.tup [.str "has", f])]) (st.new (.lst (addN acc f))) := by
    unfold QdD
    rw [Qai, QbC, QfW, kd, Qac, Qaz, if_pos (by decide +kernel), Qag, e1, Qac, Qbg, Qac, hc, Qac, Qaz]
    cases cc with
    | true => rw [Bool.not_true, if_neg QnE, Qas, Qac, Qae, Qas, Qhe (ec.mp rfl)]
    | false => rw [Bool.not_false, if_pos rfl, Qai, Qfn, Qdb (Qbg _ _ _ _) e1 (by omega), Qac, Qac, Qae, Qas, Qac, Qae, Qas, QeJ (fun z => QnE (ec.mpr z))]
   rw [QbM 4 QdD _ gs [a, b, c, some (.ref st.nxt), x4] _ _ _ eb, QgI]; exact e
  | @oth k rr hk hr =>
   obtain ⟨y4, e⟩ := QiP (st := st) (a := a) (b := b) (c := c) gs acc (some (.tup (.str k :: rr))) hg2 ha (by omega)
   refine ⟨y4, ?_⟩
   have eb : QdD [a, b, c, some (.ref st.nxt), some (.tup (.str k :: rr))] (st.new (.lst acc)) = .ok (.nx [a, b, c, some (.ref st.nxt), some (.tup (.str k :: rr))]) (st.new (.lst acc)) := by
    unfold QdD
    rw [Qai, QbC, QfW, kd, Qac, Qaz, hk, if_neg QnE, Qac, Qaz, if_neg QnE, Qas, Qac, Qae, Qas]
   rw [QbM 4 QdD _ gs [a, b, c, some (.ref st.nxt), x4] _ _ _ eb, QgH _ _ hk]; exact e
theorem nm_tail {st : S} {a c : Option W} {gs : List W} (hg : ∀ g ∈ gs, Gr P g) (hl : gs.length<=12) : QjH [a, some (.lst gs), c, none, none] st = .ok (.rt (.ref st.nxt)) (st.new (.lst (nam [] gs))) := by
 obtain ⟨y4, e⟩ := QiP hP (st := st) (a := a) (b := some (.lst gs)) (c := c) gs [] none hg (fun f hf => by cases hf) (by rw [List.length_nil]; omega)
 have nl : ∀ Γ : Ga, runN Qab (opL true) Γ st = .ok (.ref st.nxt) (st.new (.lst [])) := fun _ => rfl
 unfold QjH
 rw [Qai, Qbq, nl, Qac, ks3, Qac, Qae, Qai, QfV, QcC (QaO _ _), Qac, e, Qac, Qae, Qeg (Qbg _ _ _ _)]
noncomputable def Qig : RunS := (sSeq (sSet 1 (run2 (rVar 1) (runN (Qaa (rVar 2) Qab) (QbE false)) Qau))
 Qal)
omit hP in
theorem Qnj {r : W} {st : S} : ∀ (fs acc : List W) (x2 : Option W), (∀ w ∈ fs, ∃ gs, w = .tup gs/\Gs P gs)->acc.length + 4 * fs.length<=1000 ->
  ∃ y2, QbI 2 Qig fs [some r, some (.lst acc), x2, none, none] st = .ok (.nx [some r, some (.lst (acc ++ fs.flatMap tupW)), y2, none, none]) st
 | [], acc, x2, _, _ => ⟨x2, by rw [List.flatMap_nil, List.append_nil]; rfl⟩
 | w :: fs, acc, x2, h, hl => by
  obtain ⟨gs, rfl, hg⟩ := h w QnI
  have h4 := hg.2
  rw [QnU] at hl
  obtain ⟨y2, e⟩ := Qnj (r := r) (st := st) fs (acc ++ gs) (some (.tup gs)) (fun z hz => h z (QnN _ hz)) (by rw [QnO]; omega)
  refine ⟨y2, ?_⟩
  have ea : Qau (.lst acc) (.lst gs) st = .ok (.lst (acc ++ gs)) st := if_pos (Qam (show acc.length + gs.length<=1000 by omega))
  have eb : Qig [some r, some (.lst acc), some (.tup gs), none, none] st = .ok (.nx [some r, some (.lst (acc ++ gs)), some (.tup gs), none, none]) st := by
   unfold Qig
   rw [Qai, Qbq, Qag, QaO, Qac, (Qbt (QbF _ _ _)).trans (listT (QnV h4 (by decide))), Qac, ea, Qac, ks1, Qac, Qae, Qas]
  rw [QbM 2 Qig (.tup gs) fs [some r, some (.lst acc), x2, none, none] _ _ _ eb, e, List.flatMap_cons, <-List.append_assoc]; rfl
theorem named_ok {r : W} (h : Re P r) (st : S) : QbK [r] st = .ok (.lst (nam [] (gsOf r))) st := by
 obtain ⟨hg, hl⟩ := h.gs
 have all : ∀ f ∈ nam [] (gsOf r), P f := Qec hg (fun f hf => by cases hf)
 have nl : ∀ Γ : Ga, runN Qab (opL false) Γ st = .ok (.lst []) st := fun _ => rfl
 have fin : ∀ c, QiU 1 st (QjH [some r, some (.lst (gsOf r)), c, none, none] st) = .ok (.lst (nam [] (gsOf r))) st := fun c => by
  rw [nm_tail hP hg hl, Qel]
  exact QeF (k := 1) (fun f hf => by obtain ⟨_, hk⟩ := hP f (all f hf); exact Qcv hk) (by decide)
 unfold QjH QdD at fin
 unfold QbK
 rw [QcO]
 unfold QeQ
 rw [show List.replicate (5 - 1) (none : Option W) = [none, none, none, none] from rfl, Qai, Qbq, nl, Qac, ks1, Qac, Qae]
 cases h with
 | told =>
  rw [Qai, QbC, Qfd, Qac, Qaz, if_neg (by decide +kernel), Qas, Qac, Qae, Qai, QbC, Qfd, Qac, Qaz, if_neg (by decide +kernel), Qas, Qac, Qae]
  exact fin none
 | @by_ n gs a =>
  rw [Qai, QbC, Qfd, Qac, Qaz, if_pos (by decide +kernel), Qai, Qbq, (Qbt (at0 2 2 rfl rfl)).trans (listT (QnV a.2 (by decide))), Qac, ks1, Qac, Qae, Qas, Qac, Qae, Qai, QbC, Qfd, Qac, Qaz, if_neg (by decide +kernel), Qas, Qac, Qae]
  exact fin none
 | @of_ n ks fs k b c =>
  obtain ⟨y2, e⟩ := Qnj (P := P) (r := .tup [.str "of", .int n, .tup ks, .tup fs]) (st := st) fs [] none b (by simp; omega)
  unfold Qig at e
  rw [List.nil_append] at e
  rw [Qai, QbC, Qfd, Qac, Qaz, if_neg (by decide +kernel), Qas, Qac, Qae, Qai, QbC, Qfd, Qac, Qaz, if_pos (by decide +kernel), Qai, QfV, src_tup (at0 3 3 rfl rfl), Qac, e, Qac, Qae, Qas, Qac, Qae]
  exact fin y2
end
end DL.My
namespace DL.My
open PySem L2
def rowW (ps : List (W × W)) : List W := ps.map fun p => .tup [p.1, p.2]
theorem rowW_app (ps qs : List (W × W)) : rowW (ps ++ qs) = rowW ps ++ rowW qs := List.map_append
theorem QeS : ∀ ps : List (W × W), QdB (rowW ps) = some ps
 | [] => rfl
 | p :: ps => by
  show (QdB (rowW ps)).map ((p.1, p.2) :: ·) = _
  rw [QeS ps]; rfl
def Bef (ps : List (W × W)) (k : Nat) (f : W) : Prop := ∃ j c, j < k/\ps[j]? = some (f, c)
def Qde (ps : List (W × W)) : Prop := ps.length<=12/\∀ k f r, ps[k]? = some (f, r)->Fact k f/\Re (Bef ps k) r
theorem Qde.bef {ps : List (W × W)} (h : Qde ps) {k : Nat} {f : W} (hb : Bef ps k f) : Qbx f := by
 obtain ⟨j, c, _, hj⟩ := hb
 exact ⟨j, (h.2 j f c hj).1⟩
theorem Qde.pre {ps qs : List (W × W)} (h : Qde (ps ++ qs)) : Qde ps := by
 refine ⟨by have := h.1; rw [QnO] at this; omega, fun k f r hk => ?_⟩
 have hlt : k < ps.length := (List.getElem?_eq_some_iff.mp hk).1
 obtain ⟨h1, h2⟩ := h.2 k f r (by rw [List.getElem?_append_left hlt]; exact hk)
 refine ⟨h1, h2.mono fun g ⟨j, c, hj, hg⟩ => ⟨j, c, hj, ?_⟩⟩
 rw [List.getElem?_append_left (by omega)] at hg
 exact hg
def ixF : W->Nat
 | .tup xs => (match xs.getLast? with
  | some (.int i) => i.toNat
  | _ => 0)
 | _ => 0
theorem QjO {k : Nat} {f : W} (h : Fact k f) : ixF f = k := by
 obtain ⟨xs, rfl, _, _, e⟩ := h.flat
 show (match xs.getLast? with | some (.int i) => i.toNat | _ => 0) = k
 rw [e]
 show Int.toNat (k : Nat) = k
 omega
noncomputable def hOf (hs : List Int) (r : W) : Int := 1 + maxI 0 ((nam [] (gsOf r)).map fun g => hs.getD (ixF g) 0)
noncomputable def hGo : List Int->List (W × W)->List Int
 | hs, [] => hs
 | hs, p :: ps => hGo (hs ++ [hOf hs p.2]) ps
theorem QeG : ∀ (ps : List (W × W)) (hs : List Int) (p : W × W), hGo hs (ps ++ [p]) = hGo hs ps ++ [hOf (hGo hs ps) p.2]
 | [], _, _ => rfl
 | q :: ps, hs, p => QeG ps (hs ++ [hOf hs q.2]) p
theorem Qfk : ∀ (ps : List (W × W)) (hs : List Int), (hGo hs ps).length = hs.length + ps.length
 | [], _ => rfl
 | q :: ps, hs => by
  show (hGo (hs ++ [hOf hs q.2]) ps).length = _
  rw [Qfk ps, QnO, QnW, QnU]; omega
theorem Qmb : ∀ (ns : List Int) (n : Int), n<=maxI n ns
 | [], n => Int.le_refl _
 | x :: ns, n => by
  have := Qmb ns (if x > n then x else n)
  show n<=maxI (if x > n then x else n) ns
  split at this <;> rename_i h
  ·rw [if_pos h]; omega
  ·rw [if_neg h]; exact this
theorem hOf_pos (hs : List Int) (r : W) : 0<=hOf hs r := by
 unfold hOf
 have := Qmb ((nam [] (gsOf r)).map fun g => hs.getD (ixF g) 0) 0
 omega
def Nn (hs : List Int) : Prop := ∀ h ∈ hs, (0 : Int)<=h
theorem Nn.snoc {hs : List Int} (h : Nn hs) (r : W) : Nn (hs ++ [hOf hs r]) := by
 intro x hx
 rcases List.mem_append.mp hx with hx | hx
 ·exact h x hx
 ·rw [List.mem_singleton.mp hx]; exact hOf_pos hs r
theorem Nn.at {hs : List Int} (h : Nn hs) (j : Nat) : 0<=hs.getD j 0 := by
 rw [QnQ]
 cases e : hs[j]? with
 | none => exact Int.le_refl _
 | some x => exact h x (List.mem_of_getElem? e)
theorem max_def {ns : List Int} (h : Nn ns) : (maxO (some 0) ns).getD 0 = maxI 0 ns := by
 cases ns with
 | nil => rfl
 | cons n ns =>
  have hn := h n QnI
  show maxI n ns = maxI (if n > 0 then n else 0) ns
  split
  ·rfl
  ·rw [show n = 0 by omega]
theorem QgP : ∀ ns : List Int, Qet (ns.map W.int) = some ns
 | [] => rfl
 | n :: ns => by
  show (Qet (ns.map W.int)).map (n :: ·) = _
  rw [QgP ns]; rfl
theorem Qlc {k : DKey} {v : W} : ∀ {j : Nat} {ks : List DKey} {vs : List W}, ks[j]? = some k->vs[j]? = some v->(∀ m, m < j->ks[m]? ≠ some k)->valW ks vs k = some v
 | _, [], _, h, _, _ => by simp at h
 | _, _ :: _, [], _, h, _ => by simp at h
 | 0, i :: ks, w :: vs, h1, h2, _ => by
  have e1 : i = k := by simpa using h1
  have e2 : w = v := by simpa using h2
  subst e1 e2
  exact if_pos rfl
 | j + 1, i :: ks, w :: vs, h1, h2, h3 => by
  have hne : i ≠ k := fun e => h3 0 (Nat.zero_lt_succ _) (by rw [e]; rfl)
  show (if i = k then some w else valW ks vs k) = _
  rw [if_neg hne]
  exact Qlc (j := j) (by simpa using h1) (by simpa using h2) fun m hm => by
   have := h3 (m + 1) (by omega)
   simpa using this
def QdF (ps : List (W × W)) : List DKey := ps.map fun p => keyF p.1
noncomputable def stH (st : S) (ps : List (W × W)) (hs : List Int) : S := st.new (.dct (QdF ps) (hs.map W.int))
theorem keysP_at {ps : List (W × W)} {j : Nat} {f r : W} (h : ps[j]? = some (f, r)) : (QdF ps)[j]? = some (keyF f) := by
 unfold QdF; rw [QnT, h]; rfl
theorem QjL {ps : List (W × W)} (hr : ∀ k f r, ps[k]? = some (f, r)->Fact k f) {j m : Nat} {f : W} (hf : Fact j f) (hm : m ≠ j) : (QdF ps)[m]? ≠ some (keyF f) := by
 intro h
 unfold QdF at h
 rw [QnT] at h
 cases e : ps[m]? with
 | none => rw [e] at h; cases h
 | some p =>
  obtain ⟨g, c⟩ := p
  rw [e] at h
  have h' : keyF g = keyF f := by simpa using h
  have hg := hr m g c e
  have := congrArg keyT h'
  rw [(QbJ hg).2, (QbJ hf).2] at this
  subst this
  exact hm (QmM hg hf)
theorem Qna (st : S) (ps : List (W × W)) (hs : List Int) : Qdt (stH st ps hs) (.ref st.nxt) = some (QdF ps, hs.map W.int) := by
 show (match (stH st ps hs).mu st.nxt with | some (.dct ks ws) => some (ks, ws) | _ => none) = _
 rw [show (stH st ps hs).mu st.nxt = some (.dct _ _) from Qbs _ _]
theorem Qlb {ps : List (W × W)} {hs : List Int} (hr : ∀ k f r, ps[k]? = some (f, r)->Fact k f) (hl : hs.length = ps.length) {j : Nat} {f r : W} (hj : ps[j]? = some (f, r)) : valW (QdF ps) (hs.map W.int) (keyF f) = some (.int (hs.getD j 0)) := by
 have hf := hr j f r hj
 have hlt : j < hs.length := by rw [hl]; exact (List.getElem?_eq_some_iff.mp hj).1
 refine Qlc (keysP_at hj) ?_ fun m hm => QjL hr hf (by omega)
 rw [QnT, QnQ, QnF hlt]; rfl
noncomputable def QhM : RunS := (sSeq (QcH (rVar 1) (rVar 2) (run2 (rCon (W.int 1)) (run1 (Qav false (Qaw (runN (Qaa (rVar 3) Qab) (Qak Qbu))) [1] (rCon (.bl true)) (runM "dict" (rVar 1) (Qaa (rVar 0) (Qaa (rCon (W.int 0)) Qab)) Qgz)) (QbZ 0)) Qau))
 Qal)
theorem ht_turn {st : S} {done rest : List (W × W)} {hs : List Int} {f r a : W} (h : Qde (done ++ (f, r) :: rest)) (hl : hs.length = done.length) (hn : Nn hs) :
  QhM [some a, some (.ref st.nxt), some f, some r] (stH st done hs) = .ok (.nx [some a, some (.ref st.nxt), some f, some r]) (stH st (done ++ [(f, r)]) (hs ++ [hOf hs r])) := by
 have at_ : (done ++ (f, r) :: rest)[done.length]? = some (f, r) := by rw [List.getElem?_append_right (QnL _), Nat.sub_self]; rfl
 obtain ⟨hf, hre⟩ := h.2 _ f r at_
 have hP : ∀ g, Bef (done ++ (f, r) :: rest) done.length g->Qbx g := fun g hg => h.bef hg
 have l12 := h.1
 rw [QnO, QnU] at l12
 have hd : ∀ k g c, done[k]? = some (g, c)->Fact k g := fun k g c hk => by
  have hlt : k < done.length := (List.getElem?_eq_some_iff.mp hk).1
  exact (h.2 k g c (by rw [List.getElem?_append_left hlt]; exact hk)).1
 have ln : (nam [] (gsOf r)).length<=12 := by have h1 := hre.gs; have := QeZ (acc := []) h1.1; rw [List.length_nil] at this; have := h1.2; omega
 have hc := Qcx (cap := [1]) (src := Qaw (runN (Qaa (rVar 3) Qab) (Qak Qbu))) (re := runM "dict" (rVar 1) (Qaa (rVar 0) (Qaa (rCon (W.int 0)) Qab)) Qgz) (Γ := [some a, some (.ref st.nxt), some f, some r]) (st := stH st done hs) (items := nam [] (gsOf r))
  (fun g => .int (hs.getD (ixF g) 0)) (QcC (QcR (Qbg _ _ _ _) (rests_ok hP hre _))) (Qoa ln (by decide)) (fun g hg => by
   obtain ⟨j, c, hj, hc⟩ := Qec hre.gs.1 (fun f hf => by cases hf) g hg
   rw [List.getElem?_append_left hj] at hc
   have hfg := hd j g c hc
   have ed := Qna st done hs
   show runM "dict" (rVar 1) (Qaa (rVar 0) (Qaa (rCon (W.int 0)) Qab)) Qgz [some g, some (.ref st.nxt)] (stH st done hs) = _
   unfold runM
   rw [QaO, Qac, if_pos (show Qdd (stH st done hs) (.ref st.nxt) = some "dict" from by
    show MO.kind ((stH st done hs).mu st.nxt) = _
    rw [show (stH st done hs).mu st.nxt = some (.dct _ _) from Qbs _ _]; rfl), Qaq, QaD, Qac, Qaq, Qaf, Qac, QbB, Qac, Qac, Qac]
   unfold Qgz
   rw [ed]
   show (match keyW g with
    | some k => R.ok ((valW (QdF done) (hs.map W.int) k).getD (.int 0)) _
    | none => .stuck) = _
   rw [(QbJ hfg).1]
   show R.ok ((valW (QdF done) (hs.map W.int) (keyF g)).getD (.int 0)) _ = _
   rw [Qlb hd hl hc, QjO hfg]; rfl)
 have em : QbZ 0 (.lst ((nam [] (gsOf r)).map fun g => W.int (hs.getD (ixF g) 0))) (stH st done hs) = .ok (.int (maxI 0 ((nam [] (gsOf r)).map fun g => hs.getD (ixF g) 0))) (stH st done hs) := by
  have e1 : ((nam [] (gsOf r)).map fun g => W.int (hs.getD (ixF g) 0)) = ((nam [] (gsOf r)).map fun g => hs.getD (ixF g) 0).map W.int := by rw [List.map_map]; rfl
  show (match Qet ((nam [] (gsOf r)).map fun g => W.int (hs.getD (ixF g) 0)) with
   | some ns => R.ok (W.int ((maxO (some 0) ns).getD 0)) _
   | none => .stuck) = _
  rw [e1, QgP]
  show R.ok (W.int ((maxO (some 0) _).getD 0)) _ = _
  rw [max_def (fun x hx => by obtain ⟨g, _, rfl⟩ := List.mem_map.mp hx; exact hn.at _)]
 have es : QbD (.ref st.nxt) f (.int (hOf hs r)) (stH st done hs) = .ok () (stH st (done ++ [(f, r)]) (hs ++ [hOf hs r])) := by
  show Qhr st.nxt f _ _ ((stH st done hs).mu st.nxt) (keyW f) = _
  rw [show (stH st done hs).mu st.nxt = some (.dct (QdF done) (hs.map W.int)) from Qbs _ _, (QbJ hf).1]
  show (if (QdF done).length < sizeLine then R.ok () ((stH st done hs).put st.nxt (.dct _ _)) else .stuck) = _
  rw [if_pos (by unfold QdF; rw [QnM]; exact Qoa (show done.length<=12 by omega) (by decide)), Qjz (fun z => by
   obtain ⟨m, hm, e⟩ := List.getElem_of_mem z
   have hm' : m < done.length := by unfold QdF at hm; rwa [QnM] at hm
   exact QjL hd hf (QnS hm') (by rw [QnF hm, e]))]
  unfold stH
  rw [QgG]
  unfold QdF
  rw [List.map_append, List.map_append]; rfl
 unfold QhM
 rw [Qai, QjQ, Qag, Qaf, Qac, QgQ, hc, Qac, em, Qac, Qfo, Qac, QaO, Qac, QbF, Qac]
 show ((QbD (.ref st.nxt) f (.int (hOf hs r)) (stH st done hs)).bind fun _ st4 => R.ok (Fl.nx [some a, some (.ref st.nxt), some f, some r]) st4).bind (kSeq Qal) = _
 rw [es, Qac, Qac, Qae, Qas]
theorem Qkz (i j : Nat) (body : RunS) (x : W × W) (xs : List (W × W)) (Γ Γ' : Ga) (s s' : S) (h : body ((Γ.set i (some x.1)).set j (some x.2)) s = .ok (.nx Γ') s') : Qdc i j body (x :: xs) Γ s = Qdc i j body xs Γ' s' := by
 show ((body ((Γ.set i (some x.1)).set j (some x.2)) s).bind fun fl st' => match fl with
  | .nx Γ' => Qdc i j body xs Γ' st'
  | .ct Γ' => Qdc i j body xs Γ' st'
  | .bk Γ' => .ok (.nx Γ') st'
  | .rt w => .ok (.rt w) st') = _
 rw [h]; rfl
theorem QmF {st : S} {a : W} : ∀ (items done : List (W × W)) (hs : List Int) (x2 x3 : Option W), Qde (done ++ items)->hs.length = done.length->Nn hs ->
  ∃ y2 y3, Qdc 2 3 QhM items [some a, some (.ref st.nxt), x2, x3] (stH st done hs) = .ok (.nx [some a, some (.ref st.nxt), y2, y3]) (stH st (done ++ items) (hGo hs items))
 | [], done, hs, x2, x3, _, _, _ => ⟨x2, x3, by rw [List.append_nil]; rfl⟩
 | (f, r) :: items, done, hs, x2, x3, h, hl, hn => by
  have e0 : done ++ (f, r) :: items = (done ++ [(f, r)]) ++ items := by rw [List.append_assoc]; rfl
  obtain ⟨y2, y3, e⟩ := QmF (st := st) (a := a) items (done ++ [(f, r)]) (hs ++ [hOf hs r]) (some f) (some r) (by rw [<-e0]; exact h) (by rw [QnO, QnO, hl]; rfl) (hn.snoc r)
  refine ⟨y2, y3, ?_⟩
  rw [Qkz 2 3 QhM (f, r) items [some a, some (.ref st.nxt), x2, x3] _ _ _ (ht_turn h hl hn), e, <-e0]; rfl
theorem Qno {γ : Type} (xs : List γ) (x : γ) : atI (xs ++ [x]) (-1) = some x := by
 unfold atI ixN
 rw [if_neg (by decide), QnO, QnW, if_pos (by omega)]
 show (xs ++ [x])[((-1 : Int) + ((xs.length + 1 : Nat) : Int)).toNat]? = _
 rw [show ((-1 : Int) + ((xs.length + 1 : Nat) : Int)).toNat = xs.length by omega, List.getElem?_append_right (QnL _), Nat.sub_self]; rfl
theorem QhN {ps : List (W × W)} {f r : W} (h : Qde (ps ++ [(f, r)])) (st : S) : QaT [.lst (rowW (ps ++ [(f, r)]))] st = .ok (.int (hOf (hGo [] ps) r)) st := by
 obtain ⟨y2, y3, e⟩ := QmF (st := st) (a := .lst (rowW (ps ++ [(f, r)]))) (ps ++ [(f, r)]) [] [] none none (by rw [List.nil_append]; exact h) rfl (fun x hx => by cases hx)
 rw [List.nil_append, QeG] at e
 unfold QhM at e
 have hd : ∀ k g c, (ps ++ [(f, r)])[k]? = some (g, c)->Fact k g := fun k g c hk => (h.2 k g c hk).1
 have la : (ps ++ [(f, r)])[ps.length]? = some (f, r) := by rw [List.getElem?_append_right (QnL _), Nat.sub_self]; rfl
 have hf := hd _ f r la
 have rn : ∀ Γ : Ga, QfO Γ st = .ok (.ref st.nxt) (stH st [] []) := fun Γ => rfl
 have sf : ∀ body : RunS, Qkj 2 3 (rVar 0) body [some (.lst (rowW (ps ++ [(f, r)]))), some (.ref st.nxt), none, none] (stH st [] []) = Qdc 2 3 body (ps ++ [(f, r)]) [some (.lst (rowW (ps ++ [(f, r)]))), some (.ref st.nxt), none, none] (stH st [] []) := fun body => by
  unfold Qkj
  rw [QaD, Qac]
  show (match QdB (rowW (ps ++ [(f, r)])) with
   | some ps => Qdc 2 3 body ps _ _
   | none => .stuck) = _
  rw [QeS]
 have hl : (hGo [] ps ++ [hOf (hGo [] ps) r]).length = (ps ++ [(f, r)]).length := by
  rw [QnO, QnO, Qfk, List.length_nil, Nat.zero_add]; rfl
 have ei : Qah (.ref st.nxt) f (stH st (ps ++ [(f, r)]) (hGo [] ps ++ [hOf (hGo [] ps) r])) = .ok (.int (hOf (hGo [] ps) r)) (stH st (ps ++ [(f, r)]) (hGo [] ps ++ [hOf (hGo [] ps) r])) := by
  unfold Qah
  rw [Qna, (QbJ hf).1]
  show (match valW _ _ (keyF f) with | some w => R.ok w _ | none => .stuck) = _
  rw [Qlb hd hl la]
  show R.ok (W.int _) _ = _
  rw [QnQ, List.getElem?_append_right (by rw [Qfk, List.length_nil]; omega), Qfk, List.length_nil, Nat.zero_add, Nat.sub_self]; rfl
 have er : run2 (rVar 1) (run2 (run2 (rVar 0) (run1 (rCon (W.int 1)) QhA) Qah) (rCon (W.int 0)) Qah) Qah [some (.lst (rowW (ps ++ [(f, r)]))), some (.ref st.nxt), y2, y3] (stH st (ps ++ [(f, r)]) (hGo [] ps ++ [hOf (hGo [] ps) r])) = .ok (.int (hOf (hGo [] ps) r)) (stH st (ps ++ [(f, r)]) (hGo [] ps ++ [hOf (hGo [] ps) r])) := by
  rw [Qag, QaO, Qac, Qag, Qag, QaD, Qac, QgQ, Qaf, Qac, QmQ, Qac, Qdr _ (-1) (.tup [f, r]) (by rw [rowW_app]; exact Qno _ _), Qac, Qaf, Qac, QmD, Qac, ei]
 unfold QaT
 rw [QcO]
 unfold Qdn
 rw [show List.replicate (4 - 1) (none : Option W) = [none, none, none] from rfl, Qai, Qbq, rn, Qac, ks1, Qac, Qae, Qai, sf, e, Qac, Qae, Qeg er, Qel]
 exact QgL (k := 0) (QeY st _) (.int _ _) (by decide)
theorem QmC {row : List W} {n k : Nat} {p : W} {st : S} (hm : st.mu n = some (.lst row)) (hp : row[k]? = some p) : Qah (.ref n) (.int (k : Nat)) st = .ok p st := by
 have e : atI row (k : Int) = some p := QdP _ _ _ hp
 have ed : Qdt st (.ref n) = none := by
  show (match st.mu n with | some (.dct ks ws) => some (ks, ws) | _ => none) = _
  rw [hm]
 unfold Qah
 rw [ed]
 show (match MO.items (st.mu n) with
   | some ws => (match atI ws k with | some w => R.ok w st | none => .stuck)
   | none => .stuck) = _
 rw [hm]
 show (match atI row k with | some w => R.ok w st | none => .stuck) = _
 rw [e]
noncomputable def QjI : RunS := (sSeq (sSet 6 (Qav false (Qaw (runN (Qaa (run2 (run2 (rVar 2) (rVar 5) Qah) (rCon (W.int 1)) Qah) Qab) (Qak QbK))) [1, 4] (rCon (.bl true)) (run2 (rVar 2) (runM "list" (rVar 1) (Qaa (rVar 0) Qab) QbH) Qah)))
 (sSeq (QdT (runM "list" (rVar 4) (Qaa (run2 (rCon (W.int 1)) (runN (Qaa (run2 (runN (Qaa (rCon (W.int 0)) Qab) (opL false)) (rVar 6) Qau) Qab) QeU) Qau) Qab) QaV))
 (sSeq (sSet 7 (runN (Qaa (QcI false (rVar 3) (run2 (rVar 5) (rCon (W.int 1)) Qau)) Qab) (Qak QaT)))
 (sSeq (sIf (Qch (QdA (runN (Qaa (rVar 7) (Qaa (rCon (.ty "int")) Qab)) Qax)) (Qch (runN (Qaa (rVar 7) (Qaa (rCon (.ty "bool")) Qab)) Qax) (run2 (rVar 7) (run2 (rVar 4) (rVar 5) Qah) opNe)))
  (sSeq (sRet (rCon (W.bl false)))
 Qal)
  Qal)
 Qal))))
theorem cut_take (xs : List W) (n : Nat) : cutW xs none (some (n : Int)) = xs.take n := by
 unfold cutW
 rw [HT.sIx_nat, HT.sIx_none, List.drop_zero, Nat.sub_zero]
 by_cases h : n<=xs.length
 ·rw [Nat.min_eq_left h]
 ·rw [Nat.min_eq_right (by omega), List.take_of_length_le (QnL _), List.take_of_length_le (by omega)]
theorem law_turn {st : S} {ps : List (W × W)} {fs : List W} (h : Qde ps) (hfs : fs = ps.map (·.1)) {k : Nat} (hk : k < ps.length) (sc : W) (x6 x7 : Option W) :
  ∃ y6 y7, QjI [some sc, some (.lst fs), some (.lst (rowW ps)), some (.lst (rowW ps)), some (.ref st.nxt), some (.int (k : Nat)), x6, x7, none] (st.new (.lst ((hGo [] (ps.take k)).map W.int))) =
   .ok (.nx [some sc, some (.lst fs), some (.lst (rowW ps)), some (.lst (rowW ps)), some (.ref st.nxt), some (.int (k : Nat)), y6, y7, none]) (st.new (.lst ((hGo [] (ps.take (k + 1))).map W.int))) := by
 obtain ⟨⟨f, r⟩, hp⟩ : ∃ p, ps[k]? = some p := ⟨_, QnF hk⟩
 have tk : ps.take (k + 1) = ps.take k ++ [(f, r)] := by rw [List.take_succ, hp]; rfl
 have hok : Qde (ps.take k ++ [(f, r)]) := by
  rw [<-tk]
  refine Qde.pre (qs := ps.drop (k + 1)) ?_
  rw [List.take_append_drop]; exact h
 obtain ⟨hf, hre⟩ := h.2 k f r hp
 have hP : ∀ g, Bef ps k g->Qbx g := fun g hg => h.bef hg
 have hF : QnC fs := by
  subst hfs
  refine ⟨by rw [QnM]; exact h.1, fun j g hj => ?_⟩
  rw [QnT] at hj
  cases e : ps[j]? with
  | none => rw [e] at hj; cases hj
  | some p =>
   obtain ⟨g', c⟩ := p
   rw [e] at hj
   have : g' = g := by simpa using hj
   subst this
   exact (h.2 j g' c e).1
 have l12 := h.1
 generalize hh : hGo [] (ps.take k) = hs
 have lh : hs.length = k := by rw [<-hh, Qfk, List.length_nil, Nat.zero_add, List.length_take, Nat.min_eq_left (Nat.le_of_lt hk)]
 have lt1 : hGo [] (ps.take (k + 1)) = hs ++ [hOf hs r] := by rw [tk, QeG, hh]
 rw [lt1]
 have ln : (nam [] (gsOf r)).length<=12 := by have h1 := hre.gs; have := QeZ (acc := []) h1.1; rw [List.length_nil] at this; have := h1.2; omega
 have m0 : (st.new (.lst (hs.map W.int))).mu st.nxt = some (.lst (hs.map W.int)) := Qbs _ _
 have m1 : (st.new (.lst ((hs ++ [hOf hs r]).map W.int))).mu st.nxt = some (.lst ((hs ++ [hOf hs r]).map W.int)) := Qbs _ _
 have e1 : ∀ (x6 x7 : Option W) (s : S), run2 (run2 (rVar 2) (rVar 5) Qah) (rCon (W.int 1)) Qah [some sc, some (.lst fs), some (.lst (rowW ps)), some (.lst (rowW ps)), some (.ref st.nxt), some (.int (k : Nat)), x6, x7, none] s = .ok r s := fun x6 x7 s => by
  rw [Qag, Qag, QbF, Qac, ev_v5, Qac, Qdr _ _ (.tup [f, r]) (QdP _ _ _ (by unfold rowW; rw [QnT, hp]; rfl)), Qac, Qaf, Qac, idx1T]
 have hc := Qcx (cap := [1, 4]) (src := Qaw (runN (Qaa (run2 (run2 (rVar 2) (rVar 5) Qah) (rCon (W.int 1)) Qah) Qab) (Qak QbK))) (re := run2 (rVar 2) (runM "list" (rVar 1) (Qaa (rVar 0) Qab) QbH) Qah)
  (Γ := [some sc, some (.lst fs), some (.lst (rowW ps)), some (.lst (rowW ps)), some (.ref st.nxt), some (.int (k : Nat)), x6, x7, none]) (st := st.new (.lst (hs.map W.int))) (items := nam [] (gsOf r))
  (fun g => .int (hs.getD (ixF g) 0)) (QcC (QcR (e1 x6 x7 _) (named_ok hP hre _))) (Qoa ln (by decide)) (fun g hg => by
   obtain ⟨j, c, hj, hc⟩ := Qec hre.gs.1 (fun f hf => by cases hf) g hg
   have hfj : fs[j]? = some g := by rw [hfs, QnT, hc]; rfl
   show run2 (rVar 2) (runM "list" (rVar 1) (Qaa (rVar 0) Qab) QbH) Qah [some g, some (.lst fs), some (.ref st.nxt)] (st.new (.lst (hs.map W.int))) = _
   rw [Qag, QbF, Qac]
   unfold runM
   rw [QaO, Qac, if_pos (show Qdd (st.new (.lst (hs.map W.int))) (.lst fs) = some "list" from rfl), Qaq, QaD, Qac, QbB, Qac, Qac, index_ok hF hfj, Qac]
   refine QmC m0 ?_
   rw [QjO (hF.2 j g hfj), QnT, QnQ, QnF (show j < hs.length by omega)]; rfl)
 have eI : ((nam [] (gsOf r)).map fun g => W.int (hs.getD (ixF g) 0)) = ((nam [] (gsOf r)).map fun g => hs.getD (ixF g) 0).map W.int := by rw [List.map_map]; rfl
 generalize eb : ((nam [] (gsOf r)).map fun g => W.int (hs.getD (ixF g) 0)) = below at hc eI
 have lb : below.length<=12 := by rw [<-eb, QnM]; exact ln
 have ea : Qau (.lst [.int 0]) (.lst below) (st.new (.lst (hs.map W.int))) = .ok (.lst (.int 0 :: below)) (st.new (.lst (hs.map W.int))) := if_pos (Qam (show 1 + below.length<=1000 by omega))
 have em : QeU [.lst (.int 0 :: below)] (st.new (.lst (hs.map W.int))) = .ok (.int (maxI 0 ((nam [] (gsOf r)).map fun g => hs.getD (ixF g) 0))) (st.new (.lst (hs.map W.int))) := by
  show (match Qet (.int 0 :: below) with
   | some (n :: ns) => R.ok (W.int (maxI n ns)) _
   | _ => .stuck) = _
  rw [eI, show W.int 0 :: ((nam [] (gsOf r)).map fun g => hs.getD (ixF g) 0).map W.int = (0 :: (nam [] (gsOf r)).map fun g => hs.getD (ixF g) 0).map W.int from rfl, QgP]
 have ev : run2 (rCon (W.int 1)) (runN (Qaa (run2 (runN (Qaa (rCon (W.int 0)) Qab) (opL false)) (rVar 6) Qau) Qab) QeU) Qau [some sc, some (.lst fs), some (.lst (rowW ps)), some (.lst (rowW ps)), some (.ref st.nxt), some (.int (k : Nat)), some (.lst below), x7, none] (st.new (.lst (hs.map W.int))) = .ok (.int (hOf hs r)) (st.new (.lst (hs.map W.int))) := by
  have e0 : run2 (runN (Qaa (rCon (W.int 0)) Qab) (opL false)) (rVar 6) Qau [some sc, some (.lst fs), some (.lst (rowW ps)), some (.lst (rowW ps)), some (.ref st.nxt), some (.int (k : Nat)), some (.lst below), x7, none] (st.new (.lst (hs.map W.int))) = .ok (.lst (.int 0 :: below)) (st.new (.lst (hs.map W.int))) := by
   rw [Qag, (Qbt (Qaf _)).trans (Qcz [W.int 0] (show 1<=sizeLine by decide)), Qac, ev_v6, Qac, ea]
  rw [Qag, Qaf, Qac, (Qbt e0).trans em, Qac, Qfo]; rfl
 have es : QcI false (rVar 3) (run2 (rVar 5) (rCon (W.int 1)) Qau) [some sc, some (.lst fs), some (.lst (rowW ps)), some (.lst (rowW ps)), some (.ref st.nxt), some (.int (k : Nat)), some (.lst below), x7, none] (st.new (.lst ((hs ++ [hOf hs r]).map W.int))) = .ok (.lst (rowW (ps.take k ++ [(f, r)]))) (st.new (.lst ((hs ++ [hOf hs r]).map W.int))) := by
  rw [QmO, Qbg, Qac, Qag, ev_v5, Qac, Qaf, Qac, Qfo, Qac, kHi_int]
  show QfE (cutW (rowW ps) none (some ((k : Int) + 1))) _ = _
  rw [show ((k : Int) + 1) = ((k + 1 : Nat) : Int) by omega, cut_take, <-tk]
  have er : (rowW ps).take (k + 1) = rowW (ps.take (k + 1)) := by unfold rowW; rw [List.map_take]
  rw [er]
  exact if_pos (Qam (by unfold rowW; rw [QnM, List.length_take]; omega))
 have ek : Qah (.ref st.nxt) (.int (k : Nat)) (st.new (.lst ((hs ++ [hOf hs r]).map W.int))) = .ok (.int (hOf hs r)) (st.new (.lst ((hs ++ [hOf hs r]).map W.int))) := by
  refine QmC m1 ?_
  rw [QnT, List.getElem?_append_right (by omega), lh, Nat.sub_self]; rfl
 have hh' := QhN hok (st.new (.lst ((hs ++ [hOf hs r]).map W.int)))
 rw [hh] at hh'
 have ap := Qdb (Γ := [some sc, some (.lst fs), some (.lst (rowW ps)), some (.lst (rowW ps)), some (.ref st.nxt), some (.int (k : Nat)), some (.lst below), x7, none]) (st := st) (xs := hs.map W.int) (ro := rVar 4) (QfH _ _ _ _ _) ev (by rw [QnM]; omega)
 rw [show hs.map W.int ++ [W.int (hOf hs r)] = (hs ++ [hOf hs r]).map W.int from by rw [List.map_append]; rfl] at ap
 refine ⟨some (.lst below), some (.int (hOf hs r)), ?_⟩
 unfold QjI
 rw [Qai, Qbq, hc, Qac, ks6, Qac, Qae, Qai, Qfn, ap, Qac, Qac, Qae, Qai, Qbq, QcR es hh', Qac, ks7, Qac, Qae, Qai, QbC, QkH, ev_not]
 have i1 : ∀ s : S, runN (Qaa (rVar 7) (Qaa (rCon (.ty "int")) Qab)) Qax [some sc, some (.lst fs), some (.lst (rowW ps)), some (.lst (rowW ps)), some (.ref st.nxt), some (.int (k : Nat)), some (.lst below), some (.int (hOf hs r)), none] s = .ok (.bl true) s := fun _ => rfl
 have i2 : ∀ s : S, runN (Qaa (rVar 7) (Qaa (rCon (.ty "bool")) Qab)) Qax [some sc, some (.lst fs), some (.lst (rowW ps)), some (.lst (rowW ps)), some (.ref st.nxt), some (.int (k : Nat)), some (.lst below), some (.int (hOf hs r)), none] s = .ok (.bl false) s := fun _ => rfl
 rw [i1, Qac, Qmu, Qac, Qaz, Bool.not_true, if_neg QnE, QkH, i2, Qac, Qaz, if_neg QnE, Qag, ev_v7, Qac, Qag, QfH, Qac, ev_v5, Qac, ek, Qac, ev_neI, Qac, Qaz, beq_self_eq_true, Bool.not_true, if_neg QnE, Qas, Qac, Qae, Qas]
end DL.My
namespace DL.My
open PySem L2
def isS : W->Bool
 | .str _ => true
 | _ => false
def rv : W->W
 | .str z => .tup [.int 1, .str z]
 | w => .tup [.int 0, w]
def kv : W->W
 | .str z => .tup [.int 1, .int 0, .str z]
 | .int i => .tup [.int 0, .int i, .str (toString i)]
 | w => w
def rank : W->W
 | .tup (n :: vs) => .tup [n, .int ((vs.length + 1 : Nat) : Int), .tup (vs.map rv)]
 | w => w
def lkey : W->W
 | .tup (n :: vs) => .tup [n, .int ((vs.length + 1 : Nat) : Int), .lst (vs.map kv)]
 | w => w
def prW (f : W) : W := .tup [lkey f, f]
def sndW : W->W
 | .tup [_, f] => f
 | w => w
theorem Fact.form {k : Nat} {f : W} (h : Fact k f) : ∃ n vs, f = .tup (.str n :: vs)/\(∀ v ∈ vs, Fl v)/\vs.length<=4 := by
 obtain ⟨n, vs, rfl, hn, hv, hl, hk⟩ := h
 refine ⟨n, _, rfl, fun x hx => ?_, by rw [QnO]; exact Nat.succ_le_succ hl⟩
 rcases List.mem_append.mp hx with hx | hx
 ·exact hv x hx
 ·rw [List.mem_singleton.mp hx]; exact .int (by omega)
theorem rv_eq {v w : W} (hv : Fl v) (hw : Fl w) (n : Nat) : ∃ c, eqD (n + 2) (rv v) (rv w) = some c/\(c = true ↔ v = w) := by
 have fw : ∀ {i : Int} {x : W}, Fl x->∀ y ∈ [W.int i, x], Fw y := fun hx y hy => by
  rcases List.mem_cons.mp hy with rfl | hy
  ·exact .int _
  ·rw [List.mem_singleton.mp hy]; exact hx.fw
 have two : ∀ {v : W}, Fl v->∃ i, rv v = .tup [.int i, v]/\(i = if isS v = true then 1 else 0) := fun h => by
  cases h with
  | int _ => exact ⟨0, rfl, rfl⟩
  | str _ => exact ⟨1, rfl, rfl⟩
 obtain ⟨i, e1, h1⟩ := two hv
 obtain ⟨j, e2, h2⟩ := two hw
 obtain ⟨c, hc, ec⟩ := QmJ n (fw (i := i) hv) (fw (i := j) hw)
 refine ⟨c, by rw [e1, e2]; exact hc, ec.trans ⟨fun h => ?_, fun h => ?_⟩⟩
 ·injection h with _ h; injection h
 ·subst h; rw [h1, h2]
theorem kv_eq {v w : W} (hv : Fl v) (hw : Fl w) (n : Nat) : ∃ c, eqD (n + 2) (kv v) (kv w) = some c/\(c = true ↔ v = w) := by
 have three : ∀ {v : W}, Fl v->∃ xs, kv v = .tup xs/\∀ y ∈ xs, Fw y := fun h => by
  cases h with
  | int _ =>
   refine ⟨_, rfl, fun y hy => ?_⟩
   simp only [List.mem_cons, List.not_mem_nil, or_false] at hy
   rcases hy with rfl | rfl | rfl
   ·exact .int _
   ·exact .int _
   ·exact .str _
  | str _ =>
   refine ⟨_, rfl, fun y hy => ?_⟩
   simp only [List.mem_cons, List.not_mem_nil, or_false] at hy
   rcases hy with rfl | rfl | rfl
   ·exact .int _
   ·exact .int _
   ·exact .str _
 obtain ⟨xs, e1, h1⟩ := three hv
 obtain ⟨ys, e2, h2⟩ := three hw
 obtain ⟨c, hc, ec⟩ := QmJ n h1 h2
 refine ⟨c, by rw [e1, e2]; exact hc, ec.trans ⟨fun h => ?_, fun h => ?_⟩⟩
 ·subst h
  rw [<-e2] at e1
  cases hv <;> cases hw <;> simp [kv] at e1 ⊢
  ·exact e1.1
  ·exact e1
 ·subst h
  rw [e1] at e2
  injection e2
def ltV (v w : W) : Bool := match v, w with
 | .int i, .int j => decide (i < j)
 | .str x, .str y => decide (x.cps.toList < y.cps.toList)
 | .int _, _ => true
 | _, _ => false
theorem Qcc (n : Nat) (i : Int) : eqD (n + 1) (.int i) (.int i) = some true := by show some (i == i) = _; simp
theorem Qem (n : Nat) {i j : Int} (h : i ≠ j) : eqD (n + 1) (.int i) (.int j) = some false := by
 show some (i == j) = _
 rw [beq_eq_false_iff_ne.mpr h]
theorem eqS_self (n : Nat) (i : Str) : eqD (n + 1) (.str i) (.str i) = some true := by show some (i == i) = _; simp
theorem QmV (n : Nat) {i j : Str} (h : i ≠ j) : eqD (n + 1) (.str i) (.str j) = some false := by
 show some (i == j) = _
 rw [beq_eq_false_iff_ne.mpr h]
theorem Qca {lt : W->W->Option Bool} {x y : W} {xs ys : List W} (h : eqD 12 x y = some true) : lexK (eqD 12) lt (x :: xs) (y :: ys) = lexK (eqD 12) lt xs ys := by
 show (match eqD 12 x y with
  | some true => lexK (eqD 12) lt xs ys
  | some false => lt x y
  | none => none) = _
 rw [h]
theorem QbG {lt : W->W->Option Bool} {x y : W} {xs ys : List W} (h : eqD 12 x y = some false) : lexK (eqD 12) lt (x :: xs) (y :: ys) = lt x y := by
 show (match eqD 12 x y with
  | some true => lexK (eqD 12) lt xs ys
  | some false => lt x y
  | none => none) = _
 rw [h]
theorem rv_lt {v w : W} (hv : Fl v) (hw : Fl w) (hne : v ≠ w) (n : Nat) : ltD (n + 2) (rv v) (rv w) = some (ltV v w) := by
 cases hv with
 | @int i _ =>
  cases hw with
  | @int j _ =>
   show lexK (eqD 12) (ltD (n + 1)) [.int 0, .int i] [.int 0, .int j] = _
   rw [Qca (Qcc 11 0), QbG (Qem 11 (fun e => hne (by rw [e])))]; rfl
  | @str y _ =>
   show lexK (eqD 12) (ltD (n + 1)) [.int 0, .int i] [.int 1, .str y] = _
   rw [QbG (Qem 11 (by decide))]; rfl
 | @str x _ =>
  cases hw with
  | @int j _ =>
   show lexK (eqD 12) (ltD (n + 1)) [.int 1, .str x] [.int 0, .int j] = _
   rw [QbG (Qem 11 (by decide))]; rfl
  | @str y _ =>
   show lexK (eqD 12) (ltD (n + 1)) [.int 1, .str x] [.int 1, .str y] = _
   rw [Qca (Qcc 11 1), QbG (QmV 11 (fun e => hne (by rw [e])))]; rfl
theorem kv_lt {v w : W} (hv : Fl v) (hw : Fl w) (hne : v ≠ w) (n : Nat) : ltD (n + 2) (kv v) (kv w) = some (ltV v w) := by
 cases hv with
 | @int i _ =>
  cases hw with
  | @int j _ =>
   show lexK (eqD 12) (ltD (n + 1)) [.int 0, .int i, .str (toString i)] [.int 0, .int j, .str (toString j)] = _
   rw [Qca (Qcc 11 0), QbG (Qem 11 (fun e => hne (by rw [e])))]; rfl
  | @str y _ =>
   show lexK (eqD 12) (ltD (n + 1)) [.int 0, .int i, .str (toString i)] [.int 1, .int 0, .str y] = _
   rw [QbG (Qem 11 (by decide))]; rfl
 | @str x _ =>
  cases hw with
  | @int j _ =>
   show lexK (eqD 12) (ltD (n + 1)) [.int 1, .int 0, .str x] [.int 0, .int j, .str (toString j)] = _
   rw [QbG (Qem 11 (by decide))]; rfl
  | @str y _ =>
   show lexK (eqD 12) (ltD (n + 1)) [.int 1, .int 0, .str x] [.int 1, .int 0, .str y] = _
   rw [Qca (Qcc 11 1), Qca (Qcc 11 0), QbG (QmV 11 (fun e => hne (by rw [e])))]; rfl
theorem Qla (n m : Nat) : ∀ {vs ws : List W}, (∀ v ∈ vs, Fl v)->(∀ w ∈ ws, Fl w)->∃ b, lexK (eqD 12) (ltD (n + 2)) (vs.map rv) (ws.map rv) = some b/\lexK (eqD 12) (ltD (m + 2)) (vs.map kv) (ws.map kv) = some b
 | [], [], _, _ => ⟨false, rfl, rfl⟩
 | [], _ :: _, _, _ => ⟨true, rfl, rfl⟩
 | _ :: _, [], _, _ => ⟨false, rfl, rfl⟩
 | v :: vs, w :: ws, h1, h2 => by
  have hv := h1 v QnI
  have hw := h2 w QnI
  obtain ⟨c, hc, ec⟩ := rv_eq hv hw 10
  obtain ⟨d, hd, ed⟩ := kv_eq hv hw 10
  have cd : c = d := by rw [Bool.eq_iff_iff, ec, ed]
  subst cd
  rw [List.map_cons, List.map_cons, List.map_cons, List.map_cons]
  cases c with
  | true =>
   rw [Qca hc, Qca hd]
   exact Qla n m (fun z hz => h1 z (QnN _ hz)) (fun z hz => h2 z (QnN _ hz))
  | false =>
   have hne : v ≠ w := fun e => QnE (ec.mpr e)
   rw [QbG hc, QbG hd]
   exact ⟨_, rv_lt hv hw hne n, kv_lt hv hw hne m⟩
theorem Qfe {f g : W} (hf : Qbx f) (hg : Qbx g) : ∃ b, QdH true (rank f) (rank g) = some b/\QdH false (prW f) (prW g) = some b := by
 obtain ⟨_, hf'⟩ := hf
 obtain ⟨_, hg'⟩ := hg
 obtain ⟨c0, hc0, ec0⟩ := QiZ hf' hg'
 obtain ⟨n, vs, rfl, hv, _⟩ := hf'.form
 obtain ⟨m, ws, rfl, hw, _⟩ := hg'.form
 obtain ⟨c1, hc1, ec1⟩ := tup_eq (n := 11) (fun v w a b => rv_eq a b 9) hv hw
 obtain ⟨c2, hc2, ec2⟩ := lst_eq (n := 11) (fun v w a b => kv_eq a b 9) hv hw
 obtain ⟨c4, hc4, ec4⟩ := lst_eq (n := 10) (fun v w a b => kv_eq a b 8) hv hw
 obtain ⟨b, hb1, hb2⟩ := Qla 5 4 hv hw
 have hlk : ∃ c3, eqD 12 (lkey (.tup (.str n :: vs))) (lkey (.tup (.str m :: ws))) = some c3/\(c3 = true ↔ n = m/\vs = ws) := by
  refine ⟨((n == m) && (((((vs.length + 1 : Nat) : Int) == ((ws.length + 1 : Nat) : Int))) && (c4 && true))) && true, ?_, ?_⟩
  ·show (Qaj (eqD 11) [.str n, .int ((vs.length + 1 : Nat) : Int), .lst (vs.map kv)] [.str m, .int ((ws.length + 1 : Nat) : Int), .lst (ws.map kv)]).map (fun r => r && (3 == 3)) = _
   unfold Qaj
   unfold Qaj
   unfold Qaj
   unfold Qaj
   rw [hc4]; rfl
  ·rw [Bool.and_true, Bool.and_true, QnX, QnX, ec4]
   constructor
   ·rintro ⟨h1, _, h3⟩; exact ⟨by simpa using h1, h3⟩
   ·rintro ⟨rfl, rfl⟩; simp
 obtain ⟨c3, hc3, ec3⟩ := hlk
 have A : QdH true (rank (.tup (.str n :: vs))) (rank (.tup (.str m :: ws))) = (if n = m then lexK (eqD 12) (ltD 8) [.int ((vs.length + 1 : Nat) : Int), .tup (vs.map rv)] [.int ((ws.length + 1 : Nat) : Int), .tup (ws.map rv)] else some (decide (n.cps.toList < m.cps.toList))) := rfl
 have B : QdH false (prW (.tup (.str n :: vs))) (prW (.tup (.str m :: ws))) = lexK (eqD 12) (ltD 8) [lkey (.tup (.str n :: vs)), .tup (.str n :: vs)] [lkey (.tup (.str m :: ws)), .tup (.str m :: ws)] := rfl
 rw [A, B]
 cases c3 with
 | true =>
  obtain ⟨rfl, rfl⟩ := ec3.mp rfl
  refine ⟨false, ?_, ?_⟩
  ·rw [if_pos rfl, Qca (Qcc 11 _), Qca (by rw [hc1, ec1.mpr rfl])]; rfl
  ·rw [Qca hc3, Qca (by rw [hc0, ec0.mpr rfl])]; rfl
 | false =>
  rw [QbG hc3]
  show ∃ b, _/\lexK (eqD 12) (ltD 7) [.str n, .int ((vs.length + 1 : Nat) : Int), .lst (vs.map kv)] [.str m, .int ((ws.length + 1 : Nat) : Int), .lst (ws.map kv)] = some b
  by_cases hn : n = m
  ·subst hn
   rw [if_pos rfl, Qca (eqS_self 11 n)]
   by_cases hl : ((vs.length + 1 : Nat) : Int) = ((ws.length + 1 : Nat) : Int)
   ·rw [hl, Qca (Qcc 11 _), Qca (Qcc 11 _)]
    have hne : ¬ vs = ws := fun e => QnE (ec3.mpr ⟨rfl, e⟩)
    have f1 : c1 = false := by cases c1 with | false => rfl | true => exact absurd (ec1.mp rfl) hne
    have f2 : c2 = false := by cases c2 with | false => rfl | true => exact absurd (ec2.mp rfl) hne
    rw [QbG (by rw [hc1, f1]), QbG (by rw [hc2, f2])]
    exact ⟨b, hb1, hb2⟩
   ·rw [QbG (Qem 11 hl), QbG (Qem 11 hl)]
    exact ⟨_, rfl, rfl⟩
  ·rw [if_neg hn, QbG (QmV 11 hn)]
   exact ⟨_, rfl, rfl⟩
theorem QdK {α β : Type} (u : α->β) {xs : List α} {i : Nat} (h : i < xs.length) (d : β) : (xs.map u).getD i d = u xs[i] := by
 rw [QnQ, QnT, QnF h]; rfl
theorem ok_of {c : Bool} {ks : List W} (h : ∀ a ∈ ks, ∀ b ∈ ks, (QdH c a b).isSome = true) : Qed c ks = true := by
 unfold Qed
 rw [Bool.or_eq_true]
 exact .inr (List.all_eq_true.mpr fun a ha => List.all_eq_true.mpr fun b hb => h a ha b hb)
def ordF (tf : List W) : List W := QaE .non tf (keyB true (tf.map rank))
theorem Qlj {tf : List W} (h : ∀ f ∈ tf, Qbx f) : Qed true (tf.map rank) = true/\Qed false (tf.map prW) = true/\(QaE .non (tf.map prW) (keyB false (tf.map prW))).map sndW = ordF tf := by
 refine ⟨ok_of fun a ha b hb => ?_, ok_of fun a ha b hb => ?_, ?_⟩
 ·obtain ⟨f, hf, rfl⟩ := List.mem_map.mp ha
  obtain ⟨g, hg, rfl⟩ := List.mem_map.mp hb
  obtain ⟨c, h1, _⟩ := Qfe (h f hf) (h g hg)
  rw [h1]; rfl
 ·obtain ⟨f, hf, rfl⟩ := List.mem_map.mp ha
  obtain ⟨g, hg, rfl⟩ := List.mem_map.mp hb
  obtain ⟨c, _, h1⟩ := Qfe (h f hf) (h g hg)
  rw [h1]; rfl
 ·have sn : ∀ f, sndW (prW f) = f := fun _ => rfl
  unfold ordF QaE
  rw [QnM]
  by_cases h2 : 2<=tf.length
  ·rw [if_pos h2, if_pos h2, List.map_map]
   have e : ordT tf.length (keyB false (tf.map prW)) = ordT tf.length (keyB true (tf.map rank)) := Qkq (by omega) fun i j hi hj => by
    unfold keyB
    rw [QdK _ hi, QdK _ hj, QdK _ hi, QdK _ hj]
    obtain ⟨c, h1, h2⟩ := Qfe (h _ (List.getElem_mem hi)) (h _ (List.getElem_mem hj))
    rw [h1, h2]
   rw [e]
   apply List.map_congr_left
   intro i hi
   have hi' := (QdZ (by omega) _).2 i hi
   show sndW ((tf.map prW).getD i .non) = tf.getD i .non
   rw [QdK _ hi', sn, QnQ, QnF hi']; rfl
  ·rw [if_neg h2, if_neg h2, List.map_map]
   conv => rhs; rw [<-List.map_id tf]
   exact List.map_congr_left fun f _ => sn f
theorem QfK {xs : List W} {lt : Nat->Nat->Bool} {x : W} (h : x ∈ QaE .non xs lt) : x ∈ xs := by
 unfold QaE at h
 by_cases h2 : 2<=xs.length
 ·rw [if_pos h2] at h
  obtain ⟨i, hi, rfl⟩ := List.mem_map.mp h
  have hi' := (QdZ (by omega) _).2 i hi
  rw [QnQ, QnF hi']
  exact List.getElem_mem hi'
 ·rw [if_neg h2] at h; exact h
theorem QcV (xs : List W) (lt : Nat->Nat->Bool) : (QaE .non xs lt).length = xs.length := by
 unfold QaE
 by_cases h2 : 2<=xs.length
 ·rw [if_pos h2, QnM, (QdZ (by omega) _).1]
 ·rw [if_neg h2]
theorem QjC {tf : List W} {P : W->Prop} (h : ∀ f ∈ tf, P f) : ∀ f ∈ ordF tf, P f := fun f hf => h f (QfK hf)
section
variable {Γ : Ga} {s : S}
theorem Qmx {v : W} (h : Fl v) : runN (Qaa (rVar 0) (Qaa (rCon (.ty "str")) Qab)) Qax (some v :: Γ) s = .ok (.bl (isS v)) s := by
 cases h with
 | int _ => rfl
 | str _ => rfl
theorem rankv_ok {v : W} (h : Fl v) : QaK [v] s = .ok (rv v) s := by
 unfold QaK
 rw [QcO]
 unfold QbR
 rw [Qai, QbC, Qmx h, Qac, Qaz]
 cases h with
 | int _ => rfl
 | str _ => rfl
theorem Qjv (n : W) (vs : List W) : Qcg false (rVar 0) (rCon (W.int 1)) (some (.tup (n :: vs)) :: Γ) s = .ok (.tup vs) s := by
 rw [QmN, QaD, Qac, Qaf, Qac, kLo_int, ev_slT, cut1]
theorem Qmj (ws : List W) : runN (Qaa (rVar 0) Qab) QaX (some (.tup ws) :: Γ) s = .ok (.int (ws.length : Nat)) s := (Qbt (QaD _)).trans (Qja _)
theorem tup3 {a b c : Run} {x y z : W} (ha : a Γ s = .ok x s) (hb : b Γ s = .ok y s) (hc : c Γ s = .ok z s) : runN (Qaa a (Qaa b (Qaa c Qab))) QaM Γ s = .ok (.tup [x, y, z]) s := by
 rw [QbW, Qaq, ha, Qac, Qaq, hb, Qac, Qaq, hc, Qac, QbB, Qac, Qac, Qac, Qac, Qek [x, y, z] (show 3<=sizeLine by decide)]
theorem tup2 {a b : Run} {x y : W} (ha : a Γ s = .ok x s) (hb : b Γ s = .ok y s) : runN (Qaa a (Qaa b Qab)) QaM Γ s = .ok (.tup [x, y]) s := by
 rw [QbW, Qaq, ha, Qac, Qaq, hb, Qac, QbB, Qac, Qac, Qac, Qek [x, y] (show 2<=sizeLine by decide)]
theorem Qdv {ws : List W} (h : ws.length<=1000) : Qbn [.lst ws] s = .ok (.tup ws) s := Qek _ (Qam h)
theorem rank_ok {f : W} (h : Qbx f) : QaN [f] s = .ok (rank f) s := by
 obtain ⟨_, h⟩ := h
 obtain ⟨n, vs, rfl, hv, hl⟩ := h.form
 have hc := Qcx (cap := []) (src := Qaw (Qcg false (rVar 0) (rCon (W.int 1)))) (re := runN (Qaa (rVar 0) Qab) (Qak QaK)) (Γ := [some (.tup (.str n :: vs))]) (st := s) (items := vs) rv (src_tup (Qjv _ _)) (Qoa hl (by decide)) (fun v h => QcR (QaD _) (rankv_ok (hv v h)))
 unfold QaN
 rw [QcO]
 unfold QeP
 rw [show List.replicate (1 - 1) (none : Option W) = [] from rfl, QbA (tup3 (at0 0 0 rfl rfl) (Qmj _) ((Qbt hc).trans (Qdv (by rw [QnM]; omega))))]; rfl
theorem str_fl {v : W} (h : Fl v) : ∃ z : Str, Qkt [v] s = .ok (.str z) s/\kv v = .tup [.int (if isS v = true then 1 else 0), if isS v = true then .int 0 else v, .str z] := by
 cases h with
 | @int i hi =>
  refine ⟨(toString i : String), if_pos ?_, rfl⟩
  by_cases h0 : i.natAbs = 0
  ·rw [h0]; decide
  ·rw [Nat.log2_lt h0]
   exact QnP hi (QnV (show 1000000000<=2 ^ 30 by decide) (Nat.pow_le_pow_right (by decide) (by decide)))
 | @str z _ => exact ⟨z, rfl, rfl⟩
theorem lkey_ok {f : W} (h : Qbx f) : QcX [f] s = .ok (lkey f) s := by
 obtain ⟨_, h⟩ := h
 obtain ⟨n, vs, rfl, hv, hl⟩ := h.form
 have hc := Qcx (cap := []) (src := Qaw (Qcg false (rVar 0) (rCon (W.int 1)))) (re := runN (Qaa (runN (Qaa (runN (Qaa (rVar 0) (Qaa (rCon (.ty "str")) Qab)) Qax) Qab) QlT) (Qaa (Qlw (runN (Qaa (rVar 0) (Qaa (rCon (.ty "str")) Qab)) Qax) (rCon (W.int 0)) (rVar 0)) (Qaa (runN (Qaa (rVar 0) Qab) Qkt) Qab))) QaM)
  (Γ := [some (.tup (.str n :: vs)), none]) (st := s) (items := vs) kv (src_tup (Qjv _ _)) (Qoa hl (by decide)) (fun v h => by
   have hf := hv v h
   obtain ⟨z, h1, h2⟩ := str_fl (s := s) hf
   rw [h2]
   refine tup3 ((Qbt (Qmx hf)).trans rfl) ?_ ((Qbt (QaD _)).trans h1)
   rw [ev_runIf, Qmx hf, Qac, Qaz, Qaf, QaD]
   cases isS v <;> rfl)
 unfold QcX
 rw [QcO]
 unfold QiL
 rw [show List.replicate (2 - 1) (none : Option W) = [none] from rfl, Qai, Qbq, hc, Qac, ks1, Qac, Qae, QbA (tup3 (at0 0 0 rfl rfl) (Qmj _) (QaO _ _))]; rfl
theorem QhD : ∀ (tf acc : List W), (∀ f ∈ tf, Qbx f)->Qcq QaN tf acc s = .ok (acc ++ tf.map rank) s
 | [], acc, _ => by rw [List.map_nil, List.append_nil]; rfl
 | f :: tf, acc, h => by
  show (QaN [f] s).calm.bind (fun k st1 => Qcq QaN tf (acc ++ [k]) st1) = _
  rw [rank_ok (h f QnI), Qcw, Qac, QhD tf _ fun g hg => h g (QnN _ hg), List.append_assoc]; rfl
theorem Qlk {tf : List W} (h : ∀ f ∈ tf, Qbx f) (hl : tf.length<=12) : QcK true QaN (.lst tf) s = .ok (.ref s.nxt) (s.new (.lst (ordF tf))) := by
 show (if tf.length < 64 then QkQ (Qcq QaN tf [] s) (QcD true tf) else .stuck) = _
 rw [if_pos (by omega), QhD tf [] h]
 show (if Qed true ([] ++ tf.map rank) = true then opL true (QaE .non tf (keyB true ([] ++ tf.map rank))) s else .stuck) = _
 rw [List.nil_append, (Qlj h).1, if_pos rfl]
 exact if_pos (by rw [QcV]; exact Qam (by omega))
theorem Qky {tf : List W} (h : ∀ f ∈ tf, Qbx f) (hl : tf.length<=12) : QbS [.lst tf] s = .ok (.lst (ordF tf)) s := by
 obtain ⟨_, h2, h3⟩ := Qlj h
 have hc := Qcx (cap := []) (src := Qaw (rVar 0)) (re := runN (Qaa (runN (Qaa (rVar 0) Qab) (Qak QcX)) (Qaa (rVar 0) Qab)) QaM) (Γ := [some (.lst tf)]) (st := s) (items := tf) prW (QcC (QaD _)) (Qoa hl (by decide)) (fun f hf => tup2 (QcR (QaD _) (lkey_ok (h f hf))) (QaD _))
 have hs : Qea false [.lst (tf.map prW)] s = .ok (.lst (QaE .non (tf.map prW) (keyB false (tf.map prW)))) s := by
  show (if (tf.map prW).length < 64 then (if Qed false (tf.map prW) = true then opL false (QaE .non (tf.map prW) (keyB false (tf.map prW))) s else .stuck) else .stuck) = _
  rw [if_pos (by rw [QnM]; omega), h2, if_pos rfl]
  exact Qcz _ (by rw [QcV, QnM]; exact Qam (by omega))
 have hc2 := Qcx (cap := []) (src := Qaw (runN (Qaa (Qav false (Qaw (rVar 0)) [] (rCon (.bl true)) (runN (Qaa (runN (Qaa (rVar 0) Qab) (Qak QcX)) (Qaa (rVar 0) Qab)) QaM)) Qab) (Qea false))) (re := run2 (rVar 0) (rCon (W.int 1)) Qah) (Γ := [some (.lst tf)]) (st := s) (items := QaE .non (tf.map prW) (keyB false (tf.map prW))) sndW (QcC ((Qbt hc).trans hs)) (by rw [QcV, QnM]; exact Qoa hl (by decide)) (fun x hx => by
  obtain ⟨f, _, rfl⟩ := List.mem_map.mp (QfK hx)
  exact at0 1 1 rfl rfl)
 rw [h3] at hc2
 unfold QbS
 rw [QcO]
 unfold QdW
 rw [show List.replicate (1 - 1) (none : Option W) = [] from rfl, QbA hc2]; rfl
end
def isTold : W->Bool
 | .tup (.str k :: _) => k == ("told" : Str)
 | _ => false
def toldF (ps : List (W × W)) : List W := (ps.filter fun p => isTold p.2).map (·.1)
theorem Re.kind {P : W->Prop} {r : W} (h : Re P r) : ∃ k xs, r = .tup (.str k :: xs)/\((k == ("told" : Str)) = true->xs = []) := by
 cases h with
 | told => exact ⟨_, _, rfl, fun _ => rfl⟩
 | by_ _ => exact ⟨_, _, rfl, fun z => absurd z (by decide +kernel)⟩
 | of_ _ _ _ => exact ⟨_, _, rfl, fun z => absurd z (by decide +kernel)⟩
theorem Qhl (p : W × W) (ps : List (W × W)) : toldF (p :: ps) = if isTold p.2 = true then p.1 :: toldF ps else toldF ps := by
 unfold toldF
 rw [List.filter_cons]
 split <;> rfl
theorem Qhn {P : W->Prop} {ps : List (W × W)} (h : ∀ p ∈ ps, P p.1) : ∀ f ∈ toldF ps, P f := fun f hf => by
 unfold toldF at hf
 obtain ⟨p, hp, rfl⟩ := List.mem_map.mp hf
 exact h p (List.mem_filter.mp hp).1
theorem Qhm (ps : List (W × W)) : (toldF ps).length<=ps.length := by
 unfold toldF
 rw [QnM]
 exact List.length_filter_le _ _
theorem QfY {s : S} : ∀ (ps : List (W × W)) (acc : List W), (∀ p ∈ ps, ∃ k xs, p.2 = .tup (.str k :: xs))->Qbp (run2 (run2 (rVar 1) (rCon (W.int 0)) Qah) (rCon (W.str "told")) opEq) (rVar 0) [] ps acc s = .ok (acc ++ toldF ps) s
 | [], acc, _ => by rw [show toldF [] = [] from rfl, List.append_nil]; rfl
 | (f, r) :: ps, acc, h => by
  obtain ⟨k, xs, e⟩ := h (f, r) QnI
  have e : r = .tup (.str k :: xs) := e
  subst e
  have ih := fun acc => QfY (s := s) ps acc fun p hp => h p (QnN _ hp)
  have et : run2 (run2 (rVar 1) (rCon (W.int 0)) Qah) (rCon (W.str "told")) opEq [some f, some (.tup (.str k :: xs))] s = .ok (.bl (k == ("told" : Str))) s := by
   rw [Qag, Qag, QaO, Qac, Qaf, Qac, QmD, Qac, Qaf, Qac, QhS]
  show ((run2 (run2 (rVar 1) (rCon (W.int 0)) Qah) (rCon (W.str "told")) opEq [some f, some (.tup (.str k :: xs))] s).calm.bind fun b st1 => match b with
   | .bl true => (rVar 0 [some f, some (.tup (.str k :: xs))] st1).calm.bind fun y st2 => Qbp _ (rVar 0) [] ps (acc ++ [y]) st2
   | .bl false => Qbp _ (rVar 0) [] ps acc st1
   | _ => .stuck) = _
  rw [et, Qcw, Qac, Qhl]
  show _ = R.ok (acc ++ if (k == ("told" : Str)) = true then f :: toldF ps else toldF ps) s
  cases hk : k == ("told" : Str) with
  | true =>
   show ((rVar 0 [some f, some (.tup (.str k :: xs))] s).calm.bind fun y st2 => Qbp _ (rVar 0) [] ps (acc ++ [y]) st2) = _
   rw [QaD, Qcw, Qac, ih, if_pos rfl, List.append_assoc]; rfl
  | false =>
   rw [if_neg QnE]
   exact ih acc
theorem Qmt {st : S} {k : Nat} {xs : List W} (h : ∀ x ∈ xs, Dat k x) (hk : k<=9) : QkB st (st.new (.lst xs)) (.ref st.nxt) = .ok (.ref st.nxt) (st.new (.lst xs)) := by
 show (if st.nxt < st.nxt then _ else @ite _ (∀ m, m < st.nxt->(st.new (.lst xs)).mu m = st.mu m) (Classical.propDecidable _) (match (st.new (.lst xs)).mu st.nxt with
  | some o => (match QkF st.nxt ((st.new (.lst xs)).less st.nxt).mu o with
   | some o' => R.ok (W.ref st.nxt) (st.new o')
   | none => .stuck)
  | none => .stuck) .stuck) = _
 rw [if_neg (QnY _), if_pos (QeY st _), Qbs]
 show (match (frzs (frz st.nxt ((st.new (.lst xs)).less st.nxt).mu 12) xs).map MO.lst with
   | some o' => R.ok (W.ref st.nxt) (st.new o')
   | none => .stuck) = _
 rw [Qfm fun x hx => (h x hx).frz _ _ 12 (by omega)]; rfl
theorem Qhv {ps : List (W × W)} (h : Qde ps) : ∀ p ∈ ps, Qbx p.1/\∃ k xs, p.2 = .tup (.str k :: xs)/\((k == ("told" : Str)) = true->xs = []) := fun p hp => by
 obtain ⟨i, hi, e⟩ := List.getElem_of_mem hp
 obtain ⟨h1, h2⟩ := h.2 i p.1 p.2 (by rw [QnF hi, e])
 exact ⟨⟨i, h1⟩, h2.kind⟩
theorem Qml {ps : List (W × W)} (h : Qde ps) (st : S) : Qba [.lst (rowW ps)] st = .ok (.ref st.nxt) (st.new (.lst (ordF (toldF ps)))) := by
 have hk := Qhv h
 have hf : ∀ f ∈ toldF ps, Qbx f := Qhn fun p hp => (hk p hp).1
 have hl : (toldF ps).length<=12 := QnV (Qhm ps) h.1
 have hc : QcW false (rVar 0) [] (run2 (run2 (rVar 1) (rCon (W.int 0)) Qah) (rCon (W.str "told")) opEq) (rVar 0) [some (.lst (rowW ps))] st = .ok (.lst (toldF ps)) st := by
  unfold QcW
  rw [QaD, Qac]
  show (match QdB (rowW ps) with
   | some ps => if ps.length < sizeLine then (Qbp _ _ _ ps [] st).bind (opL false) else .stuck
   | none => .stuck) = _
  rw [QeS]
  show (if ps.length < sizeLine then (Qbp _ _ [] ps [] st).bind (opL false) else .stuck) = _
  rw [if_pos (Qoa h.1 (by decide)), QfY ps [] (fun p hp => let ⟨k, xs, e, _⟩ := (hk p hp).2; ⟨k, xs, e⟩), Qac, List.nil_append]
  exact Qcz _ (Qam (by omega))
 unfold Qba
 rw [QcO]
 unfold Qdi
 rw [show List.replicate (1 - 1) (none : Option W) = [] from rfl, Qeg (show run1 _ (QcK true QaN) [some (.lst (rowW ps))] st = _ by rw [QgQ, hc, Qac, Qlk hf hl]), ev_rtL]
 exact Qmt (k := 1) (fun f hx => by obtain ⟨_, hh⟩ := QjC hf f hx; exact Qcv hh) (by decide)
theorem told_eq {k : Str} {xs : List W} (h : (k == ("told" : Str)) = true->xs = []) (s : S) : opEq (.tup (.str k :: xs)) (.tup [.str "told"]) s = .ok (.bl (k == ("told" : Str))) s := by
 have e0 : Qaj (eqD 11) xs [] = some true := by cases xs <;> (unfold Qaj; rfl)
 have e1 : eqD 12 (.tup (.str k :: xs)) (.tup [.str "told"]) = some (k == ("told" : Str)) := by
  show (Qaj (eqD 11) (.str k :: xs) [.str "told"]).map (fun r => r && (W.str k :: xs).length == 1) = _
  have e2 : Qaj (eqD 11) (.str k :: xs) [.str "told"] = some ((k == ("told" : Str)) && true) := by
   unfold Qaj
   rw [e0]; rfl
  rw [e2]
  cases hk : k == ("told" : Str) with
  | true => rw [h hk]; rfl
  | false => rfl
 show (match (match (none : Option Bool) with
  | some c => some c
  | none => (match eqD 12 (.tup (.str k :: xs)) (.tup [.str "told"]) with
   | some c => some c
   | none => (match frz 0 s.mu 12 (.tup (.str k :: xs)), frz 0 s.mu 12 (.tup [.str "told"]) with
    | some a', some b' => eqD 12 a' b'
    | _, _ => none))) with
  | some r => R.ok (W.bl r) s
  | none => .stuck) = _
 rw [e1]
theorem Qft {s : S} : ∀ (ps : List (W × W)) (acc : List W), (∀ p ∈ ps, ∃ k xs, p.2 = .tup (.str k :: xs)/\((k == ("told" : Str)) = true->xs = [])) ->
  Qbe (run2 (run2 (rVar 0) (rCon (W.int 1)) Qah) (runN (Qaa (rCon (W.str "told")) Qab) QaM) opEq) (run2 (rVar 0) (rCon (W.int 0)) Qah) [] (rowW ps) acc s = .ok (acc ++ toldF ps) s
 | [], acc, _ => by rw [show toldF [] = [] from rfl, List.append_nil]; rfl
 | (f, r) :: ps, acc, h => by
  obtain ⟨k, xs, e, hx⟩ := h (f, r) QnI
  have e : r = .tup (.str k :: xs) := e
  subst e
  have ih := fun acc => Qft (s := s) ps acc fun p hp => h p (QnN _ hp)
  have et : run2 (run2 (rVar 0) (rCon (W.int 1)) Qah) (runN (Qaa (rCon (W.str "told")) Qab) QaM) opEq [some (.tup [f, .tup (.str k :: xs)])] s = .ok (.bl (k == ("told" : Str))) s := by
   rw [Qag, at0 1 1 rfl rfl, Qac, (Qbt (Qaf _)).trans (Qek [W.str "told"] (show 1<=sizeLine by decide)), Qac, told_eq hx]
  show ((run2 (run2 (rVar 0) (rCon (W.int 1)) Qah) (runN (Qaa (rCon (W.str "told")) Qab) QaM) opEq [some (.tup [f, .tup (.str k :: xs)])] s).calm.bind fun b st1 => match b with
   | .bl true => (run2 (rVar 0) (rCon (W.int 0)) Qah [some (.tup [f, .tup (.str k :: xs)])] st1).calm.bind fun y st2 => Qbe _ _ [] (rowW ps) (acc ++ [y]) st2
   | .bl false => Qbe _ _ [] (rowW ps) acc st1
   | _ => .stuck) = _
  rw [et, Qcw, Qac, Qhl]
  show _ = R.ok (acc ++ if (k == ("told" : Str)) = true then f :: toldF ps else toldF ps) s
  cases hk : k == ("told" : Str) with
  | true =>
   show ((run2 (rVar 0) (rCon (W.int 0)) Qah [some (.tup [f, .tup (.str k :: xs)])] s).calm.bind fun y st2 => Qbe _ _ [] (rowW ps) (acc ++ [y]) st2) = _
   rw [at0 0 0 rfl rfl, Qcw, Qac, ih, if_pos rfl, List.append_assoc]; rfl
  | false =>
   rw [if_neg QnE]
   exact ih acc
end DL.My
namespace DL.My
open PySem L2
section
variable {Γ : Ga} {s : S} {a b : Run} {i j : Int}
theorem QdJ (ha : a Γ s = .ok (.int i) s) (hb : b Γ s = .ok (.int j) s) : run2 a b Qau Γ s = .ok (.int (i + j)) s := by rw [Qag, ha, Qac, hb, Qac, Qfo]
theorem i_sub (ha : a Γ s = .ok (.int i) s) (hb : b Γ s = .ok (.int j) s) : run2 a b QeT Γ s = .ok (.int (i - j)) s := by rw [Qag, ha, Qac, hb, Qac, ev_subI]
theorem QhL (ha : a Γ s = .ok (.int i) s) (hb : b Γ s = .ok (.int j) s) (h0 : -1000000<=i) (h1 : i<=1000000) : run2 a b Qbf Γ s = .ok (.int (i * j)) s := by rw [Qag, ha, Qac, hb, Qac, ev_mulL _ _ h0 h1]
theorem QmE (ha : a Γ s = .ok (.int i) s) (hb : b Γ s = .ok (.int j) s) (h0 : -1000000<=j) (h1 : j<=1000000) : run2 a b Qbf Γ s = .ok (.int (i * j)) s := by rw [Qag, ha, Qac, hb, Qac, ev_mulR _ _ h0 h1]
theorem Qfj (ha : a Γ s = .ok (.int i) s) (h0 : 0 < j) (h1 : j < 1073741824) : run2 a (rCon (W.int j)) Qay Γ s = .ok (.int (i / j)) s := by rw [Qag, ha, Qac, Qaf, Qac, ev_divI _ _ h0 h1]
theorem QcA (ha : a Γ s = .ok (.int i) s) (hb : b Γ s = .ok (.int j) s) (h0 : 0 < j) : run2 a b Qap Γ s = .ok (.int (i % j)) s := by rw [Qag, ha, Qac, hb, Qac, ev_modI _ _ h0]
theorem i_dm {c d : Int} (ha : a Γ s = .ok (.int i) s) (h0 : 0 < c) (h1 : c < 1073741824) (h2 : 0 < d) : run2 (run2 a (rCon (W.int c)) Qay) (rCon (W.int d)) Qap Γ s = .ok (.int (i / c % d)) s := QcA (Qfj ha h0 h1) (Qaf _) h2
theorem list1 {x : W} (ha : a Γ s = .ok x s) : runN (Qaa a Qab) (opL false) Γ s = .ok (.lst [x]) s := (Qbt ha).trans (Qcz [x] (show 1<=sizeLine by decide))
theorem l_add {xs ys : List W} (ha : a Γ s = .ok (.lst xs) s) (hb : b Γ s = .ok (.lst ys) s) (h : xs.length + ys.length<=1000) : run2 a b Qau Γ s = .ok (.lst (xs ++ ys)) s := by
 rw [Qag, ha, Qac, hb, Qac]
 exact if_pos (Qam h)
theorem rng1 {n : Int} (ha : a Γ s = .ok (.int n) s) (h0 : -1000<=n) (h1 : n<=1000) : QaG a Γ s = .ok (QaQ 0 n.toNat) s := ev_rng1 _ _ ha (by omega) (by omega)
end
theorem Qhb (ns : List Int) (k : Nat) (st : S) (hn : ns.length<=63) : QaL [.lst (ns.map W.int), .int (k : Nat)] st = .ok (.int (ns.getD k 0)) st := by
 unfold QaL
 rw [QfU]
 unfold Qgu
 have e1 : QdU false (rVar 0) (rVar 1) (run2 (rVar 1) (rCon (W.int 1)) Qau) (some (.lst (ns.map W.int)) :: some (.int k) :: List.replicate (2 - 2) none) st = .ok (.lst (((ns.drop k).take 1).map W.int)) st := by
  unfold QdU
  rw [QaD, Qac, QaO, Qac]
  show ((run2 (rVar 1) (rCon (W.int 1)) Qau _ st).bind _) = _
  rw [Qag, QaO, Qac, Qaf, Qac, Qfo, Qac]
  show opSl false (some (k : Int)) (some ((k : Int) + 1)) (.lst (ns.map W.int)) st = _
  have ec : cutW (ns.map W.int) (some (k : Int)) (some ((k : Int) + 1)) = ((ns.drop k).take 1).map W.int := by
   unfold cutW
   rw [show ((k : Int) + 1) = ((k + 1 : Nat) : Int) by omega, HT.sIx_nat, HT.sIx_nat, QnM, <-List.map_drop, <-List.map_take]
   congr 1
   by_cases h : k < ns.length
   ·rw [Nat.min_eq_left (Nat.le_of_lt h), Nat.min_eq_left h, show k + 1 - k = 1 by omega]
   ·rw [List.drop_of_length_le (by omega), List.drop_of_length_le (by omega)]; simp
  show QfE (cutW (ns.map W.int) (some (k : Int)) (some ((k : Int) + 1))) st = _
  rw [ec]
  exact if_pos (by rw [QnM, List.length_take]; exact Qam (by omega))
 have e2 : run2 (run2 (QdU false (rVar 0) (rVar 1) (run2 (rVar 1) (rCon (W.int 1)) Qau)) (runN (Qaa (rCon (W.int 0)) Qab) (opL false)) Qau) (rCon (W.int 0)) Qah (some (.lst (ns.map W.int)) :: some (.int k) :: List.replicate (2 - 2) none) st = .ok (.int (ns.getD k 0)) st := by
  rw [Qag, l_add e1 (list1 (Qaf _)) (by rw [QnM, List.length_take, QnW]; omega), Qac, Qaf, Qac]
  refine Qdr _ 0 _ (QdP _ 0 _ ?_)
  by_cases h : k < ns.length
  ·rw [QnZ h, List.take_succ_cons, List.take_zero, List.map_cons, List.cons_append, List.getElem?_cons_zero, QnQ, QnF h]; rfl
  ·rw [List.drop_of_length_le (by omega), QnQ, List.getElem?_eq_none (show ns.length<=k by omega)]; rfl
 rw [QbA e2]; rfl
def OneC (w : W) : Prop := ∃ c : Nat, w = .str ⟨#[c]⟩
theorem QfT : ∀ (ys : List W), (∀ y ∈ ys, OneC y)->∃ cs : List Nat, ys = cs.map (fun c => W.str ⟨#[c]⟩)
 | [], _ => ⟨[], rfl⟩
 | y :: ys, h => by
  obtain ⟨c, rfl⟩ := h y QnI
  obtain ⟨cs, h1⟩ := QfT ys fun z hz => h z (QnN _ hz)
  exact ⟨c :: cs, by rw [h1]; rfl⟩
theorem sum_ones (cs : List Nat) : (((cs.map fun c => (⟨#[c]⟩ : Str)).map (·.length)).sum) = cs.length := by
 induction cs with
 | nil => rfl
 | cons c cs ih => rw [List.map_cons, List.map_cons, List.sum_cons, ih, QnU]; show 1 + _ = _; omega
theorem QhQ : ∀ cs : List Nat, (cs.map fun c => [c]).flatten = cs
 | [] => rfl
 | c :: cs => by rw [List.map_cons, List.flatten_cons, QhQ cs]; rfl
theorem QhG (cs : List Nat) (st : S) (h : cs.length<=1000) : QeV (.str "") [.lst (cs.map fun c => W.str ⟨#[c]⟩)] st = .ok (.str ⟨cs.toArray⟩) st := by
 have e1 : Qer (cs.map fun c => W.str ⟨#[c]⟩) = some (cs.map fun c => (⟨#[c]⟩ : Str)) := by
  have := Qlf (cs.map fun c => (⟨#[c]⟩ : Str))
  rw [List.map_map] at this
  exact this
 have e2 : Txt.join "" (cs.map fun c => (⟨#[c]⟩ : Str)) = ⟨cs.toArray⟩ := by
  apply cp_ext
  rw [cp_join0, List.map_map]
  show ((cs.map fun c => [c])).flatten = cs.toArray.toList
  rw [List.toList_toArray]
  exact QhQ cs
 show (match Qer (cs.map fun c => W.str ⟨#[c]⟩) with
  | some (ys : List Str) => if (("" : Str).length<=16/\(ys.map (fun (y : Str) => y.length)).sum + ys.length<=1048576) then R.ok (W.str (Txt.join "" ys)) st else .stuck
  | none => .stuck) = _
 rw [e1]
 show (if (("" : Str).length<=16/\((cs.map fun c => (⟨#[c]⟩ : Str)).map (·.length)).sum + (cs.map fun c => (⟨#[c]⟩ : Str)).length<=1048576) then R.ok (W.str (Txt.join "" (cs.map fun c => (⟨#[c]⟩ : Str)))) st else .stuck) = _
 rw [if_pos ⟨by decide, by rw [sum_ones, QnM]; omega⟩, e2]
theorem one_at {z : Str} (hz : z.length<=1000) {i : Int} (h0 : 0<=i) (h1 : i < (z.length : Nat)) (st : S) : ∃ c : Nat, Qah (.str z) (.int i) st = .ok (.str ⟨#[c]⟩) st := by
 obtain ⟨c, hc, _⟩ := at_in z.cps.toList i h0 (by rw [show z.cps.toList.length = z.length from Qia z]; exact h1)
 exact ⟨c, ev_idxS z i c (Qam hz) hc⟩
section
variable {Γ : Ga} {st : S} {a b : Run} {x y : Str} {k : Int}
theorem Qfv (ha : a Γ st = .ok (.str x) st) (hb : b Γ st = .ok (.str y) st) (hl : x.length + y.length<=1000) : run2 a b Qau Γ st = .ok (.str (x ++ y)) st := by
 rw [Qag, ha, Qac, hb, Qac]
 exact ev_addS x y (Qam hl)
theorem Qln (ha : a Γ st = .ok (.str x) st) (hb : b Γ st = .ok (.int k) st) (hl : x.length<=1000) : QcI false a b Γ st = .ok (.str (Txt.slice x none (some k))) st := by
 rw [QmO, ha, Qac, hb, Qac]
 exact if_pos (Qam hl)
theorem Qlm (ha : a Γ st = .ok (.str x) st) (hb : b Γ st = .ok (.int k) st) (hl : x.length<=1000) : Qcg false a b Γ st = .ok (.str (Txt.slice x (some k) none)) st := by
 rw [QmN, ha, Qac, hb, Qac]
 exact if_pos (Qam hl)
end
theorem QiT (x y : Str) : (x ++ y).length = x.length + y.length := by rw [<-Qia, Qng, QnO, Qia, Qia]
theorem QkY (s k : Int) (st : S) : ∃ z : Str, z.length<=20/\Qbl [.int s, .int k] st = .ok (.str z) st := by
 obtain ⟨m0, m1⟩ := Qcn s 8 (by decide)
 obtain ⟨ys, ly, hy, hc⟩ := Qfs (cap := [0]) (src := QaG (run2 (rVar 0) (rCon (W.int 8)) Qap)) (re := run2 (rCon (W.str "abcdefghijklmnopqrstuvwxyz")) (run2 (run2 (run2 (rVar 1) (rCon (W.int 3)) Qay) (run2 (rCon (W.int 5)) (rVar 0) Qbf) Qau) (rCon (W.int 26)) Qap) Qah)
  (Γ := [some (.int s), some (.int k), none, none]) (st := st) (items := QaQ 0 (s % 8).toNat) OneC (rng1 (QcA (QaD _) (Qaf _) (by decide)) (by omega) (by omega)) (by rw [QaW]; omega) (fun x hx => by
   obtain ⟨j, hj, rfl⟩ := Qco hx
   obtain ⟨n0, n1⟩ := Qcn (s / 3 + 5 * (j : Int)) 26 (by decide)
   obtain ⟨c, hc⟩ := one_at (z := "abcdefghijklmnopqrstuvwxyz") (by decide +kernel) n0 (by rw [show ("abcdefghijklmnopqrstuvwxyz" : Str).length = 26 by decide +kernel]; exact n1) st
   refine ⟨_, ⟨c, rfl⟩, ?_⟩
   show run2 _ _ Qah [some (.int (j : Nat)), some (.int s)] st = _
   rw [Qag, Qaf, Qac, QcA (QdJ (Qfj (QaO _ _) (by decide) (by decide)) (QhL (Qaf _) (QaD _) (by decide) (by decide))) (Qaf _) (by decide), Qac]
   exact hc)
 obtain ⟨cs, rfl⟩ := QfT ys hy
 rw [QnM, QaW] at ly
 have l7 : (⟨cs.toArray⟩ : Str).length<=7 := by rw [len_mk]; omega
 generalize ez : (⟨cs.toArray⟩ : Str) = tail at l7
 have e1 : runM "str" (rCon (W.str "")) (Qaa (Qav false (QaG (run2 (rVar 0) (rCon (W.int 8)) Qap)) [0] (rCon (.bl true)) (run2 (rCon (W.str "abcdefghijklmnopqrstuvwxyz")) (run2 (run2 (run2 (rVar 1) (rCon (W.int 3)) Qay) (run2 (rCon (W.int 5)) (rVar 0) Qbf) Qau) (rCon (W.int 26)) Qap) Qah)) Qab) QeV [some (.int s), some (.int k), none, none] st = .ok (.str tail) st := by
  unfold runM
  rw [Qaf, Qac, if_pos (show Qdd st (.str "") = some "str" from rfl), Qaq, hc, Qac, QbB, Qac, Qac, QhG cs st (by omega), ez]
 have e2 : run2 (run2 (rVar 0) (rCon (W.int 78)) Qay) (run2 (runN (Qaa (rVar 2) Qab) QaX) (rCon (W.int 1)) Qau) Qap [some (.int s), some (.int k), some (.str tail), none] st = .ok (.int (s / 78 % ((tail.length : Nat) + 1))) st :=
  QcA (Qfj (QaD _) (by decide) (by decide)) (QdJ ((Qbt (QbF _ _ _)).trans (ev_lenS _ (Qam (by omega)))) (Qaf _)) (by omega)
 generalize s / 78 % ((tail.length : Nat) + 1) = p at e2
 obtain ⟨n0, n1⟩ := Qcn (k + s / 624) 9 (by decide)
 obtain ⟨c, hc9⟩ := one_at (z := "dgjkqrvxz") (by decide +kernel) n0 (by rw [show ("dgjkqrvxz" : Str).length = 9 by decide +kernel]; exact n1) st
 have l1 := Txt.slice_le tail none (some p)
 have l2 := Txt.slice_le tail (some p) none
 have lc : (⟨#[c]⟩ : Str).length = 1 := rfl
 have e3 : run2 (rCon (W.str "dgjkqrvxz")) (run2 (run2 (rVar 1) (run2 (rVar 0) (rCon (W.int 624)) Qay) Qau) (rCon (W.int 9)) Qap) Qah [some (.int s), some (.int k), some (.str tail), some (.int p)] st = .ok (.str ⟨#[c]⟩) st := by
  rw [Qag, Qaf, Qac, QcA (QdJ (QaO _ _) (Qfj (QaD _) (by decide) (by decide))) (Qaf _) (by decide), Qac]
  exact hc9
 have e4 := Qfv (Qfv (Qln (x := tail) (k := p) (a := rVar 2) (b := rVar 3) (Γ := [some (.int s), some (.int k), some (.str tail), some (.int p)]) (st := st) (QbF _ _ _) (Qbg _ _ _ _) (by omega)) e3 (by rw [lc]; omega)) (Qlm (x := tail) (k := p) (a := rVar 2) (b := rVar 3) (QbF _ _ _) (Qbg _ _ _ _) (by omega)) (by rw [QiT, lc]; omega)
 refine ⟨Txt.slice tail none (some p) ++ ⟨#[c]⟩ ++ Txt.slice tail (some p) none, ?_, ?_⟩
 rotate_left
 ·unfold Qbl
  rw [QfU]
  unfold Qgt
  rw [show List.replicate (4 - 2) (none : Option W) = [none, none] from rfl, Qai, Qbq, e1, Qac, ks2, Qac, Qae, Qai, Qbq, e2, Qac, ks3, Qac, Qae, QbA e4]; rfl
 ·rw [QiT, QiT, lc]; omega
noncomputable def QjN : RunS := (sSeq (sSet 4 (run2 (run2 (run2 (runN (Qaa (rVar 0) (Qaa (rCon (W.int 2)) Qab)) (Qak QaL)) (run2 (rCon (W.int 7919)) (rVar 3) Qbf) Qau) (rCon (W.int 48271)) Qbf) (rCon (W.int 2147483647)) Qap))
 (sSeq (sSet 5 (runN (Qaa (run2 (rVar 3) (rCon (W.int 3)) QeT) (Qaa (runN (Qaa (rVar 1) (Qaa (run2 (run2 (rVar 4) (rCon (W.int 9)) Qay) (rCon (W.int 9)) Qap) Qab)) (Qak Qbl)) (Qaa (run2 (run2 (run2 (rVar 4) (rCon (W.int 3)) Qay) (rCon (W.int 1999999999)) Qap) (rCon (W.int 999999999)) QeT) (Qaa (run2 (rVar 3) (rCon (W.int 3)) Qay) Qab)))) (opL false)))
 (sSeq (sSet 6 (Qav false (QaG (run2 (run2 (rVar 4) (rCon (W.int 5)) Qay) (rCon (W.int 4)) Qap)) [4, 5] (rCon (.bl true)) (run2 (rVar 2) (run2 (run2 (run2 (rVar 1) (rCon (W.int 7)) Qay) (rVar 0) Qau) (rCon (W.int 4)) Qap) Qah)))
 (sSeq (QdT (runM "list" (rVar 2) (Qaa (runN (Qaa (run2 (run2 (runN (Qaa (runN (Qaa (rVar 1) (Qaa (run2 (rVar 4) (rCon (W.int 3)) Qap) Qab)) (Qak Qbl)) Qab) (opL false)) (rVar 6) Qau) (runN (Qaa (rVar 3) Qab) (opL false)) Qau) Qab) Qbn) Qab) QaV))
 Qal))))
theorem list4 {Γ : Ga} {s : S} {a b c d : Run} {x y z u : W} (ha : a Γ s = .ok x s) (hb : b Γ s = .ok y s) (hc : c Γ s = .ok z s) (hd : d Γ s = .ok u s) : runN (Qaa a (Qaa b (Qaa c (Qaa d Qab)))) (opL false) Γ s = .ok (.lst [x, y, z, u]) s := by
 rw [QbW, Qaq, ha, Qac, Qaq, hb, Qac, Qaq, hc, Qac, Qaq, hd, Qac, QbB, Qac, Qac, Qac, Qac, Qac, Qcz [x, y, z, u] (show 4<=sizeLine by decide)]
theorem QmL {ns : List Int} (hn : ns.length<=63) {st : S} {fs : List W} (seed : Int) {k : Nat} (hk : k < 12) (hl : fs.length = k) (x4 x5 x6 : Option W) : ∃ f y4 y5 y6, Fact k f /\
  QjN [some (.lst (ns.map W.int)), some (.int seed), some (.ref st.nxt), some (.int (k : Nat)), x4, x5, x6] (st.new (.lst fs)) = .ok (.nx [some (.lst (ns.map W.int)), some (.int seed), some (.ref st.nxt), some (.int (k : Nat)), y4, y5, y6]) (st.new (.lst (fs ++ [f]))) := by
 generalize ec : (ns.getD 2 0 + 7919 * (k : Int)) * 48271 % 2147483647 = c
 have e4 : run2 (run2 (run2 (runN (Qaa (rVar 0) (Qaa (rCon (W.int 2)) Qab)) (Qak QaL)) (run2 (rCon (W.int 7919)) (rVar 3) Qbf) Qau) (rCon (W.int 48271)) Qbf) (rCon (W.int 2147483647)) Qap [some (.lst (ns.map W.int)), some (.int seed), some (.ref st.nxt), some (.int (k : Nat)), x4, x5, x6] (st.new (.lst fs)) = .ok (.int c) (st.new (.lst fs)) := by
  rw [<-ec]
  exact QcA (QmE (QdJ (QdO (QaD _) (Qaf _) (Qhb ns 2 _ hn)) (QhL (Qaf _) (Qbg _ _ _ _) (by decide) (by decide))) (Qaf _) (by decide) (by decide)) (Qaf _) (by decide)
 obtain ⟨z1, hz1, ew1⟩ := QkY seed (c / 9 % 9) (st.new (.lst fs))
 obtain ⟨z2, hz2, ew2⟩ := QkY seed (c % 3) (st.new (.lst fs))
 obtain ⟨p0, p1⟩ := Qcn (c / 3) 1999999999 (by decide)
 generalize ep : c / 3 % 1999999999 - 999999999 = p
 have e5 : runN (Qaa (run2 (rVar 3) (rCon (W.int 3)) QeT) (Qaa (runN (Qaa (rVar 1) (Qaa (run2 (run2 (rVar 4) (rCon (W.int 9)) Qay) (rCon (W.int 9)) Qap) Qab)) (Qak Qbl)) (Qaa (run2 (run2 (run2 (rVar 4) (rCon (W.int 3)) Qay) (rCon (W.int 1999999999)) Qap) (rCon (W.int 999999999)) QeT) (Qaa (run2 (rVar 3) (rCon (W.int 3)) Qay) Qab)))) (opL false) [some (.lst (ns.map W.int)), some (.int seed), some (.ref st.nxt), some (.int (k : Nat)), some (.int c), x5, x6] (st.new (.lst fs)) = .ok (.lst [.int ((k : Int) - 3), .str z1, .int p, .int ((k : Int) / 3)]) (st.new (.lst fs)) := by
  rw [<-ep]
  exact list4 (i_sub (Qbg _ _ _ _) (Qaf _)) (QdO (QaO _ _) (i_dm (QfH _ _ _ _ _) (by decide) (by decide) (by decide)) ew1) (i_sub (i_dm (QfH _ _ _ _ _) (by decide) (by decide) (by decide)) (Qaf _)) (Qfj (Qbg _ _ _ _) (by decide) (by decide))
 have hfl : ∀ w ∈ [W.int ((k : Int) - 3), .str z1, .int p, .int ((k : Int) / 3)], Fl w := fun w hw => by
  simp only [List.mem_cons, List.not_mem_nil, or_false] at hw
  rcases hw with rfl | rfl | rfl | rfl
  ·exact .int (by omega)
  ·exact .str hz1
  ·exact .int (by omega)
  ·exact .int (by omega)
 generalize esm : [W.int ((k : Int) - 3), .str z1, .int p, .int ((k : Int) / 3)] = sm at e5 hfl
 have lsm : sm.length = 4 := by rw [<-esm]; rfl
 obtain ⟨q0, q1⟩ := Qcn (c / 5) 4 (by decide)
 obtain ⟨vs, lv, hv, e6⟩ := Qfs (cap := [4, 5]) (src := QaG (run2 (run2 (rVar 4) (rCon (W.int 5)) Qay) (rCon (W.int 4)) Qap)) (re := run2 (rVar 2) (run2 (run2 (run2 (rVar 1) (rCon (W.int 7)) Qay) (rVar 0) Qau) (rCon (W.int 4)) Qap) Qah)
  (Γ := [some (.lst (ns.map W.int)), some (.int seed), some (.ref st.nxt), some (.int (k : Nat)), some (.int c), some (.lst sm), x6]) (st := st.new (.lst fs)) (items := QaQ 0 (c / 5 % 4).toNat) Fl (rng1 (i_dm (QfH _ _ _ _ _) (by decide) (by decide) (by decide)) (by omega) (by omega)) (by rw [QaW]; omega) (fun x hx => by
   obtain ⟨j, hj, rfl⟩ := Qco hx
   obtain ⟨n0, n1⟩ := Qcn (c / 7 + (j : Int)) 4 (by decide)
   obtain ⟨w, hw, mw⟩ := at_in sm _ n0 (by rw [lsm]; exact n1)
   refine ⟨w, hfl w mw, ?_⟩
   show run2 _ _ Qah [some (.int (j : Nat)), some (.int c), some (.lst sm)] _ = _
   rw [Qag, QbF, Qac, QcA (QdJ (Qfj (QaO _ _) (by decide) (by decide)) (QaD _)) (Qaf _) (by decide), Qac]
   exact Qdr _ _ _ hw)
 rw [QaW] at lv
 have e7 : runN (Qaa (run2 (run2 (runN (Qaa (runN (Qaa (rVar 1) (Qaa (run2 (rVar 4) (rCon (W.int 3)) Qap) Qab)) (Qak Qbl)) Qab) (opL false)) (rVar 6) Qau) (runN (Qaa (rVar 3) Qab) (opL false)) Qau) Qab) Qbn [some (.lst (ns.map W.int)), some (.int seed), some (.ref st.nxt), some (.int (k : Nat)), some (.int c), some (.lst sm), some (.lst vs)] (st.new (.lst fs)) = .ok (.tup (.str z2 :: (vs ++ [.int (k : Nat)]))) (st.new (.lst fs)) :=
  (Qbt (l_add (l_add (list1 (QdO (QaO _ _) (QcA (QfH _ _ _ _ _) (Qaf _) (by decide)) ew2)) (ev_v6 _ _ _ _ _ _ _) (by rw [QnW]; omega)) (list1 (Qbg _ _ _ _)) (by rw [QnO, QnW, QnW]; omega))).trans (Qdv (by rw [QnO, QnO, QnW, QnW]; omega))
 refine ⟨.tup (.str z2 :: (vs ++ [.int (k : Nat)])), some (.int c), some (.lst sm), some (.lst vs), ⟨z2, vs, rfl, hz2, hv, by omega, hk⟩, ?_⟩
 unfold QjN
 rw [Qai, Qbq, e4, Qac, ks4, Qac, Qae, Qai, Qbq, e5, Qac, ks5, Qac, Qae, Qai, Qbq, e6, Qac, ks6, Qac, Qae, Qai, Qfn, Qdb (QbF _ _ _) e7 (by omega), Qac, Qac, Qae, Qas]
theorem facts_ok {ns : List Int} (hn : ns.length<=63) (st : S) : ∃ fs, QnC fs/\1<=fs.length/\QcY [.lst (ns.map W.int)] st = .ok (.lst fs) st := by
 obtain ⟨m0, m1⟩ := Qcn (ns.getD 1 0) 12 (by decide)
 obtain ⟨Γ1, s1, el, fs, lf, hf, x3, x4, x5, x6, rfl, rfl⟩ := QjJ (i := 3) (body := QjN) (Γ := [some (.lst (ns.map W.int)), some (.int (ns.getD 0 0)), some (.ref st.nxt), none, none, none, none]) (s := st.new (.lst []))
  (fun k Γ s => ∃ fs : List W, fs.length = k/\(∀ j f, fs[j]? = some f->Fact j f)/\∃ x3 x4 x5 x6, Γ = [some (.lst (ns.map W.int)), some (.int (ns.getD 0 0)), some (.ref st.nxt), x3, x4, x5, x6]/\s = st.new (.lst fs))
  (1 + ns.getD 1 0 % 12).toNat ⟨[], rfl, fun j f h => by simp at h, none, none, none, none, rfl, rfl⟩ (fun k Γ s hk ⟨fs, lf, hf, x3, x4, x5, x6, hΓ, hs⟩ => by
   subst hΓ hs
   obtain ⟨f, y4, y5, y6, h1, e⟩ := QmL hn (st := st) (ns.getD 0 0) (k := k) (by omega) lf x4 x5 x6
   refine ⟨_, _, e, fs ++ [f], by rw [QnO, lf]; rfl, fun j g hj => ?_, _, _, _, _, rfl, rfl⟩
   by_cases h : j < fs.length
   ·rw [List.getElem?_append_left h] at hj; exact hf j g hj
   ·rw [List.getElem?_append_right (by omega)] at hj
    have : j - fs.length = 0 := by
     have := (List.getElem?_eq_some_iff.mp hj).1
     rw [QnW] at this
     omega
    rw [this] at hj
    have e2 : f = g := by simpa using hj
    rw [show j = k by omega, <-e2]; exact h1)
 have c0 := QdO (op := QaL) (a := rVar 0) (b := rCon (W.int 0)) (Γ := [some (.lst (ns.map W.int)), none, none, none, none, none, none]) (st := st) (QaD _) (Qaf _) (Qhb ns 0 st hn)
 have rg := rng1 (a := run2 (rCon (W.int 1)) (run2 (runN (Qaa (rVar 0) (Qaa (rCon (W.int 1)) Qab)) (Qak QaL)) (rCon (W.int 12)) Qap) Qau) (Γ := [some (.lst (ns.map W.int)), some (.int (ns.getD 0 0)), some (.ref st.nxt), none, none, none, none]) (s := st.new (.lst [])) (QdJ (Qaf _) (QcA (QdO (QaD _) (Qaf _) (Qhb ns 1 _ hn)) (Qaf _) (by decide))) (by omega) (by omega)
 have nl : ∀ Γ : Ga, runN Qab (opL true) Γ st = .ok (.ref st.nxt) (st.new (.lst [])) := fun _ => rfl
 refine ⟨fs, ⟨by omega, hf⟩, by omega, ?_⟩
 unfold QjN at el
 unfold QcY
 rw [QcO]
 unfold QeR
 rw [show List.replicate (7 - 1) (none : Option W) = [none, none, none, none, none, none] from rfl, Qai, Qbq, c0, Qac, ks1, Qac, Qae, Qai, Qbq, nl, Qac, ks2, Qac, Qae, Qai, QfV, rg, Qac, el, Qac, Qae, Qeg (QbF _ _ _), Qel]
 exact QeF (k := 1) (fun f hx => by
  obtain ⟨i, hi, e⟩ := List.getElem_of_mem hx
  exact Qcv (hf i f (by rw [QnF hi, e]))) (by decide)
def BefF (fs : List W) (k : Nat) (f : W) : Prop := ∃ j, j < k/\fs[j]? = some f
section
variable {fs : List W} {k : Nat} {st : S} (hF : QnC fs) (hk : k < fs.length)
include hF hk
theorem QmH (c : Int) : ∃ g, Gr (BefF fs k) g/\QbT [.int c, .lst fs, .int (k : Nat)] st = .ok g st := by
 obtain ⟨m0, m1⟩ := Qcn c 6 (by decide)
 unfold QbT
 rw [QmP]
 unfold QdY
 rw [show List.replicate (4 - 3) (none : Option W) = [none] from rfl, Qai, Qbq, QcA (QaD _) (Qaf _) (by decide), Qac, ks3, Qac, Qae, Qai, QbC]
 have c1 : QaZ (run2 (rVar 3) (rCon (W.int 3)) opLt) (run2 (rVar 2) (rCon (W.int 0)) opGt) [some (.int c), some (.lst fs), some (.int (k : Nat)), some (.int (c % 6))] st = .ok (.bl (decide (c % 6 < 3) && decide ((0 : Int) < (k : Nat)))) st := by
  rw [QfW, Qag, Qbg, Qac, Qaf, Qac, QmS, Qac, Qaz, Qag, QbF, Qac, Qaf, Qac, ev_gtI]
  cases decide (c % 6 < 3) <;> rfl
 rw [c1, Qac, Qaz]
 cases h1 : decide (c % 6 < 3) && decide ((0 : Int) < (k : Nat)) with
 | true =>
  rw [QnX, decide_eq_true_eq, decide_eq_true_eq] at h1
  obtain ⟨q0, q1⟩ := Qcn (c / 6) (k : Nat) h1.2
  have hj : (c / 6 % (k : Nat)).toNat < fs.length := by omega
  refine ⟨.tup [.str "has", fs[(c / 6 % (k : Nat)).toNat]], .has ⟨(c / 6 % (k : Nat)).toNat, by omega, QnF hj⟩, ?_⟩
  have e1 : run2 (rVar 1) (run2 (run2 (rVar 0) (rCon (W.int 6)) Qay) (rVar 2) Qap) Qah [some (.int c), some (.lst fs), some (.int (k : Nat)), some (.int (c % 6))] st = .ok fs[(c / 6 % (k : Nat)).toNat] st := by
   rw [Qag, QaO, Qac, QcA (Qfj (QaD _) (by decide) (by decide)) (QbF _ _ _) h1.2, Qac]
   refine Qdr _ _ _ ?_
   have := QdP fs _ _ (QnF hj)
   rwa [show (((c / 6 % (k : Nat)).toNat : Nat) : Int) = c / 6 % (k : Nat) by omega] at this
  rw [if_pos rfl, QbA (tup2 (Qaf _) e1), Qac, Qdp]; rfl
 | false =>
  rw [if_neg QnE, Qas, Qac, Qae, Qai, QbC, Qag, Qbg, Qac, Qaf, Qac, QmS, Qac, Qaz]
  cases h2 : decide (c % 6 < 4) with
  | true =>
   have hl0 : (0 : Int) < (fs.length : Nat) := by omega
   obtain ⟨q0, q1⟩ := Qcn (c / 6) (fs.length : Nat) hl0
   have hj : (c / 6 % (fs.length : Nat)).toNat < fs.length := by omega
   refine ⟨.tup [.str "not", fs[(c / 6 % (fs.length : Nat)).toNat]], .oth (by decide +kernel) (fun x hx => ?_), ?_⟩
   ·rw [List.mem_singleton.mp hx]
    exact Qcv (hF.2 _ _ (QnF hj))
   ·have e1 : run2 (rVar 1) (run2 (run2 (rVar 0) (rCon (W.int 6)) Qay) (runN (Qaa (rVar 1) Qab) QaX) Qap) Qah [some (.int c), some (.lst fs), some (.int (k : Nat)), some (.int (c % 6))] st = .ok fs[(c / 6 % (fs.length : Nat)).toNat] st := by
     rw [Qag, QaO, Qac, QcA (Qfj (QaD _) (by decide) (by decide)) ((Qbt (QaO _ _)).trans (QgR _)) hl0, Qac]
     refine Qdr _ _ _ ?_
     have := QdP fs _ _ (QnF hj)
     rwa [show (((c / 6 % (fs.length : Nat)).toNat : Nat) : Int) = c / 6 % (fs.length : Nat) by omega] at this
    rw [if_pos rfl, QbA (tup2 (Qaf _) e1), Qac, Qdp]; rfl
  | false =>
   rw [if_neg QnE, Qas, Qac, Qae, Qai, QbC, Qag, Qbg, Qac, Qaf, Qac, QjR, Qac, Qaz]
   have alI : ∀ {xs : List W}, (∀ x ∈ xs, ∃ i, x = W.int i)->∀ x ∈ xs, Dat 1 x := fun h x hx => by obtain ⟨i, rfl⟩ := h x hx; exact .int _ _
   cases h3 : c % 6 == 4 with
   | true =>
    refine ⟨_, .oth (k := "less") (r := [.int (c / 6 % 9 - 4), .int (5 + c / 54 % 9)]) (by decide +kernel) (alI fun x hx => ?_), ?_⟩
    ·simp only [List.mem_cons, List.not_mem_nil, or_false] at hx
     rcases hx with rfl | rfl <;> exact ⟨_, rfl⟩
    ·rw [if_pos rfl, QbA (tup3 (Qaf _) (i_sub (i_dm (QaD _) (by decide) (by decide) (by decide)) (Qaf _)) (QdJ (Qaf _) (i_dm (QaD _) (by decide) (by decide) (by decide)))), Qac, Qdp]; rfl
   | false =>
    refine ⟨_, .oth (k := "plus") (r := [.int (c / 6 % 9), .int (c / 54 % 9), .int (c / 6 % 9 + c / 54 % 9)]) (by decide +kernel) (alI fun x hx => ?_), ?_⟩
    ·simp only [List.mem_cons, List.not_mem_nil, or_false] at hx
     rcases hx with rfl | rfl | rfl <;> exact ⟨_, rfl⟩
    ·have d1 : ∀ Γ : Ga, run2 (run2 (rVar 0) (rCon (W.int 6)) Qay) (rCon (W.int 9)) Qap (some (.int c) :: Γ) st = .ok (.int (c / 6 % 9)) st := fun Γ => i_dm (QaD _) (by decide) (by decide) (by decide)
     have d2 : ∀ Γ : Ga, run2 (run2 (rVar 0) (rCon (W.int 54)) Qay) (rCon (W.int 9)) Qap (some (.int c) :: Γ) st = .ok (.int (c / 54 % 9)) st := fun Γ => i_dm (QaD _) (by decide) (by decide) (by decide)
     have e4 : ∀ Γ : Ga, runN (Qaa (rCon (W.str "plus")) (Qaa (run2 (run2 (rVar 0) (rCon (W.int 6)) Qay) (rCon (W.int 9)) Qap) (Qaa (run2 (run2 (rVar 0) (rCon (W.int 54)) Qay) (rCon (W.int 9)) Qap) (Qaa (run2 (run2 (run2 (rVar 0) (rCon (W.int 6)) Qay) (rCon (W.int 9)) Qap) (run2 (run2 (rVar 0) (rCon (W.int 54)) Qay) (rCon (W.int 9)) Qap) Qau) Qab)))) QaM (some (.int c) :: Γ) st = .ok (.tup [.str "plus", .int (c / 6 % 9), .int (c / 54 % 9), .int (c / 6 % 9 + c / 54 % 9)]) st := fun Γ => by
      rw [QbW, Qaq, Qaf, Qac, Qaq, d1, Qac, Qaq, d2, Qac, Qaq, QdJ (d1 Γ) (d2 Γ), Qac, QbB, Qac, Qac, Qac, Qac, Qac]
      exact Qek _ (show 4<=sizeLine by decide)
     rw [if_neg QnE, Qas, Qac, Qae, QbA (e4 _)]; rfl
theorem Qfa (c : Int) : ∃ gs, Gs (BefF fs k) gs/\Qbb [.int c, .lst fs, .int (k : Nat)] st = .ok (.tup gs) st := by
 obtain ⟨m0, m1⟩ := Qcn c 4 (by decide)
 obtain ⟨ys, ly, hy, e1⟩ := Qfs (cap := [0]) (src := QaG (run2 (rCon (W.int 1)) (run2 (rVar 0) (rCon (W.int 4)) Qap) Qau)) (re := run2 (run2 (run2 (rVar 1) (run2 (rCon (W.int 31)) (rVar 0) Qbf) Qau) (rCon (W.int 16807)) Qbf) (rCon (W.int 2147483647)) Qap)
  (Γ := [some (.int c), some (.lst fs), some (.int (k : Nat)), none]) (st := st) (items := QaQ 0 (1 + c % 4).toNat) (fun w => ∃ i, w = W.int i) (rng1 (QdJ (Qaf _) (QcA (QaD _) (Qaf _) (by decide))) (by omega) (by omega)) (by rw [QaW]; omega) (fun x hx => by
   obtain ⟨j, hj, rfl⟩ := Qco hx
   exact ⟨_, ⟨_, rfl⟩, QcA (QmE (QdJ (QaO _ _) (QhL (Qaf _) (QaD _) (by decide) (by decide))) (Qaf _) (by decide) (by decide)) (Qaf _) (by decide)⟩)
 rw [QaW] at ly
 obtain ⟨gs, lg, hg, e2⟩ := Qfs (cap := [1, 2]) (src := Qaw (rVar 3)) (re := runN (Qaa (run2 (rVar 0) (rCon (W.int 7)) Qay) (Qaa (rVar 1) (Qaa (rVar 2) Qab))) (Qak QbT))
  (Γ := [some (.int c), some (.lst fs), some (.int (k : Nat)), some (.lst ys)]) (st := st) (items := ys) (Gr (BefF fs k)) (QcC (Qbg _ _ _ _)) (by omega) (fun x hx => by
   obtain ⟨i, rfl⟩ := hy x hx
   obtain ⟨g, hg, eg⟩ := QmH (st := st) hF hk (i / 7)
   exact ⟨g, hg, QjW (Qfj (QaD _) (by decide) (by decide)) (QaO _ _) (QbF _ _ _) eg⟩)
 refine ⟨gs, ⟨hg, by omega⟩, ?_⟩
 unfold Qbb
 rw [QmP]
 unfold Qdj
 rw [show List.replicate (4 - 3) (none : Option W) = [none] from rfl, Qai, Qbq, e1, Qac, ks3, Qac, Qae, QbA ((Qbt e2).trans (Qdv (by omega)))]; rfl
theorem Qlz {ns : List Int} (hn : ns.length<=63) : ∃ r, Re (BefF fs k) r/\QaR [.lst (ns.map W.int), .lst fs, .int (k : Nat)] st = .ok r st := by
 generalize ec : (ns.getD (4 + k) 0 + 101 * (k : Int)) * 48271 % 2147483647 = c
 have e1 : ∀ x3 x4 : Option W, run2 (run2 (run2 (runN (Qaa (rVar 0) (Qaa (run2 (rCon (W.int 4)) (rVar 2) Qau) Qab)) (Qak QaL)) (run2 (rCon (W.int 101)) (rVar 2) Qbf) Qau) (rCon (W.int 48271)) Qbf) (rCon (W.int 2147483647)) Qap [some (.lst (ns.map W.int)), some (.lst fs), some (.int (k : Nat)), x3, x4] st = .ok (.int c) st := fun x3 x4 => by
  rw [<-ec]
  refine QcA (QmE (QdJ (QdO (y := .int ((4 + k : Nat) : Int)) (QaD _) ?_ (Qhb ns (4 + k) _ hn)) (QhL (Qaf _) (QbF _ _ _) (by decide) (by decide))) (Qaf _) (by decide) (by decide)) (Qaf _) (by decide)
  rw [QdJ (Qaf _) (QbF _ _ _)]
  congr 2
 unfold QaR
 rw [QmP]
 unfold QdX
 rw [show List.replicate (5 - 3) (none : Option W) = [none, none] from rfl, Qai, Qbq, e1, Qac, ks3, Qac, Qae, Qai, QbC, Qag, QcA (Qbg _ _ _ _) (Qaf _) (by decide), Qac, Qaf, Qac, QjR, Qac, Qaz]
 cases h1 : c % 4 == 0 with
 | true =>
  refine ⟨_, .told, ?_⟩
  rw [if_pos rfl, QbA ((Qbt (Qaf _)).trans (Qek [W.str "told"] (show 1<=sizeLine by decide))), Qac, Qdp]; rfl
 | false =>
  rw [if_neg QnE, Qas, Qac, Qae, Qai, QbC, Qag, QcA (Qbg _ _ _ _) (Qaf _) (by decide), Qac, Qaf, Qac, QmS, Qac, Qaz]
  cases h2 : decide (c % 4 < 3) with
  | true =>
   obtain ⟨gs, hg, eg⟩ := Qfa (st := st) hF hk (c / 80)
   refine ⟨_, .by_ (n := c / 4 % 20) hg, ?_⟩
   rw [if_pos rfl, QbA (tup3 (Qaf _) (i_dm (Qbg _ _ _ _) (by decide) (by decide) (by decide)) (QjW (Qfj (Qbg _ _ _ _) (by decide) (by decide)) (QaO _ _) (QbF _ _ _) eg)), Qac, Qdp]; rfl
  | false =>
   obtain ⟨m0, m1⟩ := Qcn (c / 4) 3 (by decide)
   obtain ⟨q0, q1⟩ := Qcn (c / 35) 3 (by decide)
   obtain ⟨rs, lr, hr, e2⟩ := Qfs (cap := [3, 1, 2]) (src := QaG (run2 (rCon (W.int 1)) (run2 (run2 (rVar 3) (rCon (W.int 4)) Qay) (rCon (W.int 3)) Qap) Qau)) (re := runN (Qaa (run2 (run2 (run2 (rVar 1) (rCon (W.int 80)) Qay) (run2 (rCon (W.int 977)) (rVar 0) Qbf) Qau) (rCon (W.int 2147483647)) Qap) (Qaa (rVar 2) (Qaa (rVar 3) Qab))) (Qak Qbb))
    (Γ := [some (.lst (ns.map W.int)), some (.lst fs), some (.int (k : Nat)), some (.int c), none]) (st := st) (items := QaQ 0 (1 + c / 4 % 3).toNat) (fun w => ∃ gs, w = .tup gs/\Gs (BefF fs k) gs) (rng1 (QdJ (Qaf _) (i_dm (Qbg _ _ _ _) (by decide) (by decide) (by decide))) (by omega) (by omega)) (by rw [QaW]; omega) (fun x hx => by
     obtain ⟨j, hj, rfl⟩ := Qco hx
     obtain ⟨gs, hg, eg⟩ := Qfa (st := st) hF hk ((c / 80 + 977 * (j : Int)) % 2147483647)
     exact ⟨_, ⟨gs, rfl, hg⟩, QjW (QcA (QdJ (Qfj (QaO _ _) (by decide) (by decide)) (QhL (Qaf _) (QaD _) (by decide) (by decide))) (Qaf _) (by decide)) (QbF _ _ _) (Qbg _ _ _ _) eg⟩)
   rw [QaW] at lr
   have lrep : ((List.replicate (c / 35 % 3).toNat [W.int (c / 7 % 5)]).flatten).length<=100 := by
    rw [List.length_flatten, List.map_replicate, List.sum_replicate_nat, QnW]; omega
   have ek : runN (Qaa (run2 (runN (Qaa (run2 (run2 (rVar 3) (rCon (W.int 7)) Qay) (rCon (W.int 5)) Qap) Qab) (opL false)) (run2 (run2 (rVar 3) (rCon (W.int 35)) Qay) (rCon (W.int 3)) Qap) Qbf) Qab) Qbn [some (.lst (ns.map W.int)), some (.lst fs), some (.int (k : Nat)), some (.int c), some (.lst rs)] st = .ok (.tup (List.replicate (c / 35 % 3).toNat [W.int (c / 7 % 5)]).flatten) st := by
    refine (Qbt (x := .lst (List.replicate (c / 35 % 3).toNat [W.int (c / 7 % 5)]).flatten) ?_).trans (Qdv (by omega))
    rw [Qag, list1 (i_dm (Qbg _ _ _ _) (by decide) (by decide) (by decide)), Qac, i_dm (Qbg _ _ _ _) (by decide) (by decide) (by decide), Qac]
    exact if_pos ⟨⟨by omega, by omega⟩, by rw [QnW, Nat.one_mul]; exact Qam (by omega)⟩
   refine ⟨_, .of_ (n := c / 12 % 20) (ks := (List.replicate (c / 35 % 3).toNat [W.int (c / 7 % 5)]).flatten) (fs := rs) (fun x hx => ?_) hr (by omega), ?_⟩
   ·obtain ⟨l, hl, hx⟩ := List.mem_flatten.mp hx
    rw [(List.mem_replicate.mp hl).2] at hx
    rw [List.mem_singleton.mp hx]; exact .int _ _
   ·have e5 : runN (Qaa (rCon (W.str "of")) (Qaa (run2 (run2 (rVar 3) (rCon (W.int 12)) Qay) (rCon (W.int 20)) Qap) (Qaa (runN (Qaa (run2 (runN (Qaa (run2 (run2 (rVar 3) (rCon (W.int 7)) Qay) (rCon (W.int 5)) Qap) Qab) (opL false)) (run2 (run2 (rVar 3) (rCon (W.int 35)) Qay) (rCon (W.int 3)) Qap) Qbf) Qab) Qbn) (Qaa (runN (Qaa (rVar 4) Qab) Qbn) Qab)))) QaM [some (.lst (ns.map W.int)), some (.lst fs), some (.int (k : Nat)), some (.int c), some (.lst rs)] st = .ok (.tup [.str "of", .int (c / 12 % 20), .tup (List.replicate (c / 35 % 3).toNat [W.int (c / 7 % 5)]).flatten, .tup rs]) st := by
     rw [QbW, Qaq, Qaf, Qac, Qaq, i_dm (Qbg _ _ _ _) (by decide) (by decide) (by decide), Qac, Qaq, ek, Qac, Qaq, (Qbt (QfH _ _ _ _ _)).trans (Qdv (by omega)), Qac, QbB, Qac, Qac, Qac, Qac, Qac]
     exact Qek _ (show 4<=sizeLine by decide)
    rw [if_neg QnE, Qas, Qac, Qae, Qai, Qbq, e2, Qac, ks4, Qac, Qae, QbA e5]; rfl
end
end DL.My
namespace DL.My
open PySem L2
noncomputable def Qeo (op : OpN) : RunS :=
 (sSeq (sIf (Qch (runN (Qaa (rVar 1) (Qaa (rCon (.ty "tuple")) Qab)) Qax) (runN (Qaa (rVar 1) (Qaa (rCon (.ty "list")) Qab)) Qax))
  (sSeq (sIf (Qch (run2 (runN (Qaa (rVar 0) (Qaa (rCon (.ty "list")) Qab)) Qax) (runN (Qaa (rVar 1) (Qaa (rCon (.ty "list")) Qab)) Qax) opNe) (run2 (runN (Qaa (rVar 0) (Qaa (rCon (.ty "tuple")) Qab)) Qax) (runN (Qaa (rVar 1) (Qaa (rCon (.ty "tuple")) Qab)) Qax) opNe))
  (sSeq (sRet (rCon (W.bl false)))
 Qal)
  Qal)
 (sSeq (sRet (QaZ (run2 (runN (Qaa (rVar 0) Qab) QaX) (runN (Qaa (rVar 1) Qab) QaX) opEq) (runN (Qaa (Qby false (Qaa (rVar 0) (Qaa (rVar 1) Qab)) [] (runN (Qaa (rVar 0) (Qaa (rVar 1) Qab)) (Qak op))) Qab) QgA)))
 Qal))
  Qal)
 (sSeq (sRet (QaZ (run2 (runN (Qaa (rVar 0) (Qaa (rCon (.ty "bool")) Qab)) Qax) (runN (Qaa (rVar 1) (Qaa (rCon (.ty "bool")) Qab)) Qax) opEq) (run2 (rVar 0) (rVar 1) opEq)))
 Qal))
theorem QgO {r : Run} {Γ : Ga} {s : S} {w : W} {k T : String} (h : r Γ s = .ok w s) (hk : Qdd s w = some k) (hT : kinds.contains T = true) : runN (Qaa r (Qaa (rCon (.ty T)) Qab)) Qax Γ s = .ok (.bl (QdI k T)) s := by
 rw [QbW, Qaq, h, Qac, Qaq, Qaf, Qac, QbB, Qac, Qac, Qac, ev_isi, if_pos hT, hk]
theorem Qic {wa wb : W} {xs ys : List W} {re : Run} {s : S} (ha : Qcf wa xs s) (hb : Qcf wb ys s) : ∀ (items : List W) (acc : List W), (∀ x ∈ items, re [some x, some x] s = .ok (.bl true) s)->Qbw wa wb xs ys re [] (items.zip items) acc s = .ok (acc ++ items.map fun _ => W.bl true) s
 | [], acc, _ => by
  show @ite _ (Qcf wa xs s/\Qcf wb ys s) (Classical.propDecidable _) (R.ok acc s) .stuck = _
  rw [if_pos ⟨ha, hb⟩, List.map_nil, List.append_nil]
 | x :: items, acc, h => by
  show @ite _ (Qcf wa xs s/\Qcf wb ys s) (Classical.propDecidable _) ((re [some x, some x] s).calm.bind fun y st2 => Qbw wa wb xs ys re [] (items.zip items) (acc ++ [y]) st2) .stuck = _
  rw [if_pos ⟨ha, hb⟩, h x QnI, Qcw, Qac, Qic ha hb items _ fun z hz => h z (QnN _ hz), List.append_assoc]; rfl
theorem Qga : ∀ xs : List W, Qhc (xs.map fun _ => W.bl true) = some (xs.map fun _ => true)
 | [] => rfl
 | x :: xs => by
  show (Qhc (xs.map fun _ => W.bl true)).map (true :: ·) = _
  rw [Qga xs]; rfl
theorem all_true (xs : List W) (s : S) : QgA [.lst (xs.map fun _ => W.bl true)] s = .ok (.bl true) s := by
 show (match Qhc (xs.map fun _ => W.bl true) with | some bs => R.ok (W.bl (bs.all id)) s | none => .stuck) = _
 rw [Qga]
 show R.ok (W.bl ((xs.map fun _ => true).all id)) s = _
 rw [show (xs.map fun _ => true).all id = true from by
  rw [List.all_eq_true]
  intro b hb
  obtain ⟨_, _, rfl⟩ := List.mem_map.mp hb
  rfl]
theorem Qir {op : OpN} {wa wb : W} {xs : List W} {s : S} {k : String} (hk : (k = "tuple"\/k = "list")) (ka : Qdd s wa = some k) (kb : Qdd s wb = some k) (ia : QaX [wa] s = .ok (.int (xs.length : Nat)) s) (ib : QaX [wb] s = .ok (.int (xs.length : Nat)) s)
  (hz : zipS s [wa, wb] = some (wa, wb, xs, xs)) (ha : Qcf wa xs s) (hb : Qcf wb xs s) (hl : xs.length<=1000) (h : ∀ x ∈ xs, op [x, x] s = .ok (.bl true) s) : Qeo op [some wa, some wb] s = .ok (.rt (.bl true)) s := by
 have q0 := fun T (hT : kinds.contains T = true) => QgO (T := T) (r := rVar 0) (Γ := [some wa, some wb]) (QaD _) ka hT
 have q1 := fun T (hT : kinds.contains T = true) => QgO (T := T) (r := rVar 1) (Γ := [some wa, some wb]) (QaO _ _) kb hT
 have hc : Qby false (Qaa (rVar 0) (Qaa (rVar 1) Qab)) [] (runN (Qaa (rVar 0) (Qaa (rVar 1) Qab)) (Qak op)) [some wa, some wb] s = .ok (.lst (xs.map fun _ => W.bl true)) s := by
  unfold Qby
  rw [Qaq, QaD, Qac, Qaq, QaO, Qac, QbB, Qac, Qac, Qac, hz]
  show (if (xs.zip xs).length < sizeLine then (Qbw wa wb xs xs _ [] (xs.zip xs) [] s).bind (opL false) else .stuck) = _
  rw [if_pos (Qoa (show (xs.zip xs).length<=1000 by rw [List.length_zip, Nat.min_self]; exact hl) (by decide)), Qic ha hb xs [] (fun x hx => QdO (QaD _) (QaO _ _) (h x hx)), Qac, List.nil_append]
  exact Qcz _ (by rw [QnM]; exact Qam hl)
 have e1 : Qch (runN (Qaa (rVar 1) (Qaa (rCon (.ty "tuple")) Qab)) Qax) (runN (Qaa (rVar 1) (Qaa (rCon (.ty "list")) Qab)) Qax) [some wa, some wb] s = .ok (.bl true) s := by
  rw [QkH, q1 "tuple" (by decide), Qac, Qaz]
  rcases hk with rfl | rfl
  ·rw [if_pos (by decide)]
  ·rw [if_neg (by decide), q1 "list" (by decide)]; rfl
 have e2 : Qch (run2 (runN (Qaa (rVar 0) (Qaa (rCon (.ty "list")) Qab)) Qax) (runN (Qaa (rVar 1) (Qaa (rCon (.ty "list")) Qab)) Qax) opNe) (run2 (runN (Qaa (rVar 0) (Qaa (rCon (.ty "tuple")) Qab)) Qax) (runN (Qaa (rVar 1) (Qaa (rCon (.ty "tuple")) Qab)) Qax) opNe) [some wa, some wb] s = .ok (.bl false) s := by
  rw [QkH, Qag, q0 "list" (by decide), Qac, q1 "list" (by decide), Qac, ev_neB, Qac, Qaz, beq_self_eq_true, Bool.not_true, if_neg QnE, Qag, q0 "tuple" (by decide), Qac, q1 "tuple" (by decide), Qac, ev_neB, beq_self_eq_true, Bool.not_true]
 have e3 : QaZ (run2 (runN (Qaa (rVar 0) Qab) QaX) (runN (Qaa (rVar 1) Qab) QaX) opEq) (runN (Qaa (Qby false (Qaa (rVar 0) (Qaa (rVar 1) Qab)) [] (runN (Qaa (rVar 0) (Qaa (rVar 1) Qab)) (Qak op))) Qab) QgA) [some wa, some wb] s = .ok (.bl true) s := by
  rw [QfW, Qag, (Qbt (QaD _)).trans ia, Qac, (Qbt (QaO _ _)).trans ib, Qac, QjR, Qac, Qaz, beq_self_eq_true, if_pos rfl, (Qbt hc).trans (all_true xs s)]
 unfold Qeo
 rw [Qai, QbC, e1, Qac, Qaz, if_pos rfl, Qai, QbC, e2, Qac, Qaz, if_neg QnE, Qas, Qac, Qae, QbA e3, Qac, Qdp]
theorem QkR {op : OpN} {v : W} {s : S} (h : Fl v) : Qeo op [some v, some v] s = .ok (.rt (.bl true)) s := by
 have fin : ∀ {k : String}, Qdd s v = some k->QdI k "tuple" = false->QdI k "list" = false->(run2 (rVar 0) (rVar 1) opEq [some v, some v] s = .ok (.bl true) s)->Qeo op [some v, some v] s = .ok (.rt (.bl true)) s := fun {k} hk h1 h2 he => by
  have q0 := fun T (hT : kinds.contains T = true) => QgO (T := T) (r := rVar 0) (Γ := [some v, some v]) (QaD _) hk hT
  have q1 := fun T (hT : kinds.contains T = true) => QgO (T := T) (r := rVar 1) (Γ := [some v, some v]) (QaO _ _) hk hT
  have e1 : Qch (runN (Qaa (rVar 1) (Qaa (rCon (.ty "tuple")) Qab)) Qax) (runN (Qaa (rVar 1) (Qaa (rCon (.ty "list")) Qab)) Qax) [some v, some v] s = .ok (.bl false) s := by
   rw [QkH, q1 "tuple" (by decide), Qac, Qaz, h1, if_neg QnE, q1 "list" (by decide), h2]
  have e3 : QaZ (run2 (runN (Qaa (rVar 0) (Qaa (rCon (.ty "bool")) Qab)) Qax) (runN (Qaa (rVar 1) (Qaa (rCon (.ty "bool")) Qab)) Qax) opEq) (run2 (rVar 0) (rVar 1) opEq) [some v, some v] s = .ok (.bl true) s := by
   rw [QfW, Qag, q0 "bool" (by decide), Qac, q1 "bool" (by decide), Qac, ev_eqB, Qac, Qaz, beq_self_eq_true, if_pos rfl, he]
  unfold Qeo
  rw [Qai, QbC, e1, Qac, Qaz, if_neg QnE, Qas, Qac, Qae, QbA e3]
 cases h with
 | int _ => exact fin rfl (by decide) (by decide) (by rw [Qag, QaD, Qac, QaO, Qac, QjR, beq_self_eq_true])
 | str _ => exact fin rfl (by decide) (by decide) (by rw [Qag, QaD, Qac, QaO, Qac, QhS, beq_self_eq_true])
theorem Qnv {v : W} {s : S} (h : Fl v) : Qbd [v, v] s = .ok (.bl true) s := by
 unfold Qbd
 rw [QfU, show Qdm = Qeo QbY from rfl, show List.replicate (2 - 2) (none : Option W) = [] from rfl, QkR h]; rfl
theorem Qnu {f : W} {s : S} (h : Qbx f) : Qbc [f, f] s = .ok (.bl true) s := by
 obtain ⟨_, h⟩ := h
 obtain ⟨xs, rfl, hx, hl, _⟩ := h.flat
 unfold Qbc
 rw [QfU, show Qdl = Qeo Qbd from rfl, show List.replicate (2 - 2) (none : Option W) = [] from rfl, Qir (xs := xs) (k := "tuple") (.inl rfl) rfl rfl (Qja _) (Qja _) rfl True.intro True.intro (by omega) (fun x hm => Qnv (hx x hm))]; rfl
theorem Qis {xs : List W} {n : Nat} {s : S} (hm : s.mu n = some (.lst xs)) (hx : ∀ f ∈ xs, Qbx f) (hl : xs.length<=12) : QaS [.ref n, .lst xs] s = .ok (.bl true) s := by
 have ka : Qdd s (.ref n) = some "list" := by
  show MO.kind (s.mu n) = _
  rw [hm]; rfl
 have ia : QaX [.ref n] s = .ok (.int (xs.length : Nat)) s := by
  show (match MO.items (s.mu n) with | some xs => R.ok (W.int xs.length) s | none => .stuck) = _
  rw [hm]; rfl
 have hz : zipS s [.ref n, .lst xs] = some (.ref n, .lst xs, xs, xs) := by
  show (match MO.items (s.mu n), some xs with
   | some xs, some ys => some (W.ref n, W.lst _, xs, ys)
   | _, _ => none) = _
  rw [hm]; rfl
 unfold QaS
 rw [QfU, show Qdk = Qeo Qbc from rfl, show List.replicate (2 - 2) (none : Option W) = [] from rfl, Qir (xs := xs) (k := "list") (.inr rfl) ka rfl ia (QgR _) hz hm True.intro (by omega) (fun x hm => Qnu (hx x hm))]; rfl
theorem row_ok {ns : List Int} (hn : ns.length<=63) {fs : List W} (hF : QnC fs) (st : S) : ∃ ps, Qde ps/\fs = ps.map (·.1) /\
  ∀ Γ : Ga, Qav false (QaG (runN (Qaa (rVar 1) Qab) QaX)) [1, 0] (rCon (.bl true)) (runN (Qaa (run2 (rVar 1) (rVar 0) Qah) (Qaa (runN (Qaa (rVar 2) (Qaa (rVar 1) (Qaa (rVar 0) Qab))) (Qak QaR)) Qab)) QaM) (some (.lst (ns.map W.int)) :: some (.lst fs) :: Γ) st = .ok (.lst (rowW ps)) st := by
 have hr : ∀ k, ∃ r, k < fs.length->Re (BefF fs k) r/\QaR [.lst (ns.map W.int), .lst fs, .int (k : Nat)] st = .ok r st := fun k => by
  by_cases h : k < fs.length
  ·obtain ⟨r, h1, h2⟩ := Qlz (st := st) hF h hn
   exact ⟨r, fun _ => ⟨h1, h2⟩⟩
  ·exact ⟨.non, fun z => absurd z h⟩
 have rr := fun k => Classical.choose_spec (hr k)
 generalize eR : (fun k => Classical.choose (hr k)) = rs at rr
 have rr : ∀ k, k < fs.length->Re (BefF fs k) (rs k)/\QaR [.lst (ns.map W.int), .lst fs, .int (k : Nat)] st = .ok (rs k) st := fun k hk => by rw [<-eR]; exact rr k hk
 have l12 := hF.1
 have pa : ∀ (k : Nat) f r, ((List.range fs.length).map fun k => (fs.getD k W.non, rs k))[k]? = some (f, r)->fs[k]? = some f/\k < fs.length/\r = rs k := fun k f r h => by
  rw [QnT] at h
  have hk : k < fs.length := by
   by_cases hk : k < fs.length
   ·exact hk
   ·rw [List.getElem?_eq_none (by rw [List.length_range]; omega)] at h; cases h
  rw [List.getElem?_range hk] at h
  have h' : (fs.getD k W.non, rs k) = (f, r) := by simpa using h
  injection h' with h1 h2
  rw [QnQ, QnF hk] at h1
  have h1 : fs[k] = f := h1
  exact ⟨by rw [QnF hk, h1], hk, h2.symm⟩
 have pb : ∀ (k : Nat) f, fs[k]? = some f->((List.range fs.length).map fun k => (fs.getD k W.non, rs k))[k]? = some (f, rs k) := fun k f h => by
  have hk : k < fs.length := (List.getElem?_eq_some_iff.mp h).1
  rw [QnT, List.getElem?_range hk]
  show some (fs.getD k W.non, rs k) = _
  rw [QnQ, h]; rfl
 refine ⟨(List.range fs.length).map fun k => (fs.getD k W.non, rs k), ⟨by rw [QnM, List.length_range]; exact l12, fun k f r h => ?_⟩, ?_, fun Γ => ?_⟩
 ·obtain ⟨h1, h2, rfl⟩ := pa k f r h
  exact ⟨hF.2 k f h1, (rr k h2).1.mono fun g ⟨j, hj, hg⟩ => ⟨j, rs j, hj, pb j g hg⟩⟩
 ·rw [List.map_map]
  apply List.ext_getElem?
  intro k
  rw [QnT]
  by_cases hk : k < fs.length
  ·rw [List.getElem?_range hk, QnF hk]
   show _ = some (fs.getD k W.non)
   rw [QnQ, QnF hk]; rfl
  ·rw [List.getElem?_eq_none (by omega), List.getElem?_eq_none (by rw [List.length_range]; omega)]; rfl
 ·have hc := Qcx (cap := [1, 0]) (src := QaG (runN (Qaa (rVar 1) Qab) QaX)) (re := runN (Qaa (run2 (rVar 1) (rVar 0) Qah) (Qaa (runN (Qaa (rVar 2) (Qaa (rVar 1) (Qaa (rVar 0) Qab))) (Qak QaR)) Qab)) QaM) (Γ := some (.lst (ns.map W.int)) :: some (.lst fs) :: Γ) (st := st) (items := QaQ 0 fs.length)
   (fun w => match w with | .int i => .tup [fs.getD i.toNat W.non, rs i.toNat] | _ => .non) (by
    have := rng1 (a := runN (Qaa (rVar 1) Qab) QaX) (Γ := some (.lst (ns.map W.int)) :: some (.lst fs) :: Γ) (s := st) ((Qbt (QaO _ _)).trans (QgR fs)) (by omega) (by omega)
    rwa [Int.toNat_natCast] at this) (by rw [QaW]; exact Qoa l12 (by decide)) (fun x hx => by
     obtain ⟨k, hk, rfl⟩ := Qco hx
     show runN _ QaM [some (.int (k : Nat)), some (.lst fs), some (.lst (ns.map W.int))] st = .ok (.tup [fs.getD (Int.toNat (k : Nat)) W.non, rs (Int.toNat (k : Nat))]) st
     rw [Int.toNat_natCast]
     refine tup2 ?_ (QjW (QbF _ _ _) (QaO _ _) (QaD _) (rr k hk).2)
     rw [Qag, QaO, Qac, QaD, Qac]
     exact Qdr _ _ _ (QdP _ _ _ (by rw [QnQ, QnF hk]; rfl)))
  refine hc.trans (congrArg (fun z => R.ok (W.lst z) st) ?_)
  unfold rowW QaQ
  rw [List.map_map, List.map_map]
  apply List.map_congr_left
  intro k _
  show W.tup [fs.getD (Int.toNat (0 + (k : Int))) W.non, rs (Int.toNat (0 + (k : Int)))] = _
  rw [Int.zero_add, Int.toNat_natCast]; rfl
theorem row_dat {ps : List (W × W)} (h : Qde ps) : Dat 7 (.lst (rowW ps)) := by
 refine .lst fun x hx => ?_
 unfold rowW at hx
 obtain ⟨⟨f, r⟩, hp, rfl⟩ := List.mem_map.mp hx
 obtain ⟨i, hi, e⟩ := List.getElem_of_mem hp
 obtain ⟨h1, h2⟩ := h.2 i f r (by rw [QnF hi, e])
 refine .tup fun y hy => ?_
 rcases List.mem_cons.mp hy with rfl | hy
 ·exact (Qcv h1).mono 5 (by decide)
 ·rw [List.mem_singleton.mp hy]
  exact Re.dat (fun g hg => h.bef hg) h2
theorem idx_last {row : List W} {n : Nat} {p : W} {st : S} (hm : st.mu n = some (.lst (row ++ [p]))) : Qah (.ref n) (.int (-1)) st = .ok p st := by
 have ed : Qdt st (.ref n) = none := by
  show (match st.mu n with | some (.dct ks ws) => some (ks, ws) | _ => none) = _
  rw [hm]
 unfold Qah
 rw [ed]
 show (match MO.items (st.mu n) with
   | some ws => (match atI ws (-1) with | some w => R.ok w st | none => .stuck)
   | none => .stuck) = _
 rw [hm]
 show (match atI (row ++ [p]) (-1) with | some w => R.ok w st | none => .stuck) = _
 rw [Qno]
theorem eq_self {w : W} {n : Nat} (h : Dat n w) (hn : n<=10) (s : S) : opEq w w s = .ok (.bl true) s := by
 show (match (match (none : Option Bool) with
  | some c => some c
  | none => (match eqD 12 w w with
   | some c => some c
   | none => (match frz 0 s.mu 12 w, frz 0 s.mu 12 w with
    | some a', some b' => eqD 12 a' b'
    | _, _ => none))) with
  | some r => R.ok (W.bl r) s
  | none => .stuck) = _
 rw [h.eq 12 (by omega)]
theorem law_true (ns : List Int) (hns : ns.length<=63) : ∃ st', op_law [.lst (ns.map W.int)] st0 = .ok (.bl true) st' := by
 obtain ⟨fs, hF, hl1, ef⟩ := facts_ok hns st0
 obtain ⟨ps, hR, hfs, er⟩ := row_ok hns hF st0
 have lps : ps.length = fs.length := by rw [hfs, QnM]
 have l12 := hF.1
 obtain ⟨Γ1, s1, el, x5, x6, x7, rfl, rfl⟩ := QjJ (i := 5) (body := QjI) (Γ := [some (.lst (ns.map W.int)), some (.lst fs), some (.lst (rowW ps)), some (.lst (rowW ps)), some (.ref st0.nxt), none, none, none, none]) (s := st0.new (.lst []))
  (fun k Γ s => ∃ x5 x6 x7, Γ = [some (.lst (ns.map W.int)), some (.lst fs), some (.lst (rowW ps)), some (.lst (rowW ps)), some (.ref st0.nxt), x5, x6, x7, none]/\s = st0.new (.lst ((hGo [] (ps.take k)).map W.int)))
  ps.length ⟨none, none, none, rfl, rfl⟩ (fun k Γ s hk ⟨x5, x6, x7, hΓ, hs⟩ => by
   subst hΓ hs
   obtain ⟨y6, y7, e⟩ := law_turn (st := st0) hR hfs hk (.lst (ns.map W.int)) x6 x7
   exact ⟨_, _, e, _, _, _, rfl, rfl⟩)
 rw [List.take_of_length_le (QnL _)] at el
 obtain ⟨qs, f, r, hq⟩ : ∃ qs f r, ps = qs ++ [(f, r)] := by
  refine ⟨ps.dropLast, (ps.getLast (fun e => by rw [e] at lps; simp at lps; omega)).1, (ps.getLast (fun e => by rw [e] at lps; simp at lps; omega)).2, ?_⟩
  exact (List.dropLast_concat_getLast _).symm
 have hgo : hGo [] ps = hGo [] qs ++ [hOf (hGo [] qs) r] := by rw [hq, QeG]
 have hh := fun s => QhN (by rw [<-hq]; exact hR : Qde (qs ++ [(f, r)])) s
 rw [<-hq] at hh
 have hk := Qhv hR
 have hT : ∀ g ∈ toldF ps, Qbx g := Qhn fun p hp => (hk p hp).1
 have lT : (toldF ps).length<=12 := QnV (Qhm ps) hR.1
 have hO : ∀ g ∈ ordF (toldF ps), Qbx g := QjC hT
 have lO : (ordF (toldF ps)).length<=12 := by unfold ordF; rw [QcV]; exact lT
 generalize eH : st0.new (.lst ((hGo [] ps).map W.int)) = sH at el
 have mH : sH.mu st0.nxt = some (.lst ((hGo [] ps).map W.int)) := by rw [<-eH]; exact Qbs _ _
 have nH : st0.nxt < sH.nxt := by rw [<-eH]; exact Nat.lt_succ_self _
 have e8 : ∀ x5 x6 x7 : Option W, runN (Qaa (Qav false (Qaw (rVar 2)) [] (run2 (run2 (rVar 0) (rCon (W.int 1)) Qah) (runN (Qaa (rCon (W.str "told")) Qab) QaM) opEq) (run2 (rVar 0) (rCon (W.int 0)) Qah)) Qab) (Qak QbS) [some (.lst (ns.map W.int)), some (.lst fs), some (.lst (rowW ps)), some (.lst (rowW ps)), some (.ref st0.nxt), x5, x6, x7, none] sH = .ok (.lst (ordF (toldF ps))) sH := fun x5 x6 x7 => by
  refine QcR ?_ (Qky hT lT)
  unfold Qav
  rw [QcC (QbF _ _ _), Qac, if_pos (Qoa (show (rowW ps).length<=12 by unfold rowW; rw [QnM]; exact hR.1) (by decide))]
  show ((Qbe _ _ [] (rowW ps) [] sH).bind (opL false)) = _
  rw [Qft ps [] (fun p hp => (hk p hp).2), Qac, List.nil_append]
  exact Qcz _ (Qam (by omega))
 have lv := Qml hR
 generalize eL : ordF (toldF ps) = L at e8 lv hO lO
 have m2 : (sH.new (.lst L)).mu sH.nxt = some (.lst L) := Qbs _ _
 have m2H : (sH.new (.lst L)).mu st0.nxt = some (.lst ((hGo [] ps).map W.int)) := (QeY sH _ _ nH).trans mH
 have a1 := Qis m2 hO lO
 have eI : ∀ Γ : Ga, run2 (rVar 4) (run1 (rCon (W.int 1)) QhA) Qah (some (.lst (ns.map W.int)) :: some (.lst fs) :: some (.lst (rowW ps)) :: some (.lst (rowW ps)) :: some (.ref st0.nxt) :: Γ) (sH.new (.lst L)) = .ok (.int (hOf (hGo [] qs) r)) (sH.new (.lst L)) := fun Γ => by
  rw [Qag, QfH, Qac, QgQ, Qaf, Qac, QmQ, Qac]
  exact idx_last (row := (hGo [] qs).map W.int) (by rw [m2H, hgo, List.map_append]; rfl)
 have c1 : ∀ x5 x6 : Option W, Qch (QdA (runN (Qaa (rVar 7) (Qaa (rVar 8) Qab)) (Qak QaS))) (run2 (runN (Qaa (rVar 3) Qab) (Qak QaT)) (run2 (rVar 4) (run1 (rCon (W.int 1)) QhA) Qah) opNe) [some (.lst (ns.map W.int)), some (.lst fs), some (.lst (rowW ps)), some (.lst (rowW ps)), some (.ref st0.nxt), x5, x6, some (.ref sH.nxt), some (.lst L)] (sH.new (.lst L)) = .ok (.bl false) (sH.new (.lst L)) := fun x5 x6 => by
  rw [QkH, ev_not, QdO (ev_v7 _ _ _ _ _ _ _ _) (ev_v8 _ _ _ _ _ _ _ _ _) a1, Qac, Qmu, Qac, Qaz, Bool.not_true, if_neg QnE, Qag, QcR (Qbg _ _ _ _) (hh _), Qac, eI, Qac, ev_neI, beq_self_eq_true, Bool.not_true]
 have z1 : ∀ Γ : Ga, ∀ s : S, runN (Qaa (rCon (W.str "z")) Qab) QaM Γ s = .ok (.tup [.str "z"]) s := fun _ _ => (Qbt (Qaf _)).trans (Qek [W.str "z"] (show 1<=sizeLine by decide))
 have ap : ∀ x5 x6 : Option W, runM "list" (rVar 7) (Qaa (runN (Qaa (rCon (W.str "z")) Qab) QaM) Qab) QaV [some (.lst (ns.map W.int)), some (.lst fs), some (.lst (rowW ps)), some (.lst (rowW ps)), some (.ref st0.nxt), x5, x6, some (.ref sH.nxt), some (.lst L)] (sH.new (.lst L)) = .ok .non (sH.new (.lst (L ++ [.tup [.str "z"]]))) := fun x5 x6 => Qdb (ev_v7 _ _ _ _ _ _ _ _) (z1 _ _) (by omega)
 generalize e3 : sH.new (.lst (L ++ [.tup [.str "z"]])) = s3 at ap
 have a2 := Qis (n := s3.nxt) (s := s3.new (.lst L)) (Qbs _ _) hO lO
 have c2 : ∀ x5 x6 : Option W, QaZ (runN (Qaa (runN (Qaa (rVar 3) Qab) (Qak Qba)) (Qaa (rVar 8) Qab)) (Qak QaS)) (run2 (rVar 3) (rVar 2) opEq) [some (.lst (ns.map W.int)), some (.lst fs), some (.lst (rowW ps)), some (.lst (rowW ps)), some (.ref st0.nxt), x5, x6, some (.ref sH.nxt), some (.lst L)] s3 = .ok (.bl true) (s3.new (.lst L)) := fun x5 x6 => by
  rw [QfW, QbW, Qaq, QcR (Qbg _ _ _ _) (lv s3), Qac, Qaq, ev_v8, Qac, QbB, Qac, Qac, Qac, QdM, a2, Qcw, Qac, Qaz, if_pos rfl, Qag, Qbg, Qac, QbF, Qac, eq_self (row_dat hR) (by decide)]
 have rg : QaG (runN (Qaa (rVar 2) Qab) QaX) [some (.lst (ns.map W.int)), some (.lst fs), some (.lst (rowW ps)), some (.lst (rowW ps)), some (.ref st0.nxt), none, none, none, none] (st0.new (.lst [])) = .ok (QaQ 0 ps.length) (st0.new (.lst [])) := by
  have := rng1 (a := runN (Qaa (rVar 2) Qab) QaX) (Γ := [some (.lst (ns.map W.int)), some (.lst fs), some (.lst (rowW ps)), some (.lst (rowW ps)), some (.ref st0.nxt), none, none, none, none]) (s := st0.new (.lst [])) (n := ((rowW ps).length : Nat)) ((Qbt (QbF _ _ _)).trans (QgR (rowW ps))) (by omega) (by unfold rowW; rw [QnM]; omega)
  rwa [Int.toNat_natCast, show (rowW ps).length = ps.length from QnM _] at this
 have nl : ∀ Γ : Ga, runN Qab (opL true) Γ st0 = .ok (.ref st0.nxt) (st0.new (.lst [])) := fun _ => rfl
 refine ⟨st0, ?_⟩
 unfold QjI at el
 unfold op_law
 rw [QcO]
 unfold r_law
 rw [show List.replicate (9 - 1) (none : Option W) = [none, none, none, none, none, none, none, none] from rfl, Qai, Qbq, QcR (QaD _) ef, Qac, ks1, Qac, Qae, Qai, Qbq, er, Qac, ks2, Qac, Qae, Qai, Qbq, (Qbt (QbF _ _ _)).trans (listL (show (rowW ps).length<=1000 by unfold rowW; rw [QnM]; omega)), Qac, ks3, Qac, Qae, Qai, Qbq, nl, Qac, ks4, Qac, Qae,
  Qai, QfV, rg, Qac, el, Qac, Qae, Qai, Qbq, e8, Qac, ks8, Qac, Qae, Qai, Qbq, QcR (Qbg _ _ _ _) (lv sH), Qac, ks7, Qac, Qae, Qai, QbC, c1, Qac, Qaz, if_neg QnE, Qas, Qac, Qae, Qai, Qfn, ap, Qac, Qac, Qae, Qeg (c2 _ _), Qel]
 exact QeE (fun m hm => absurd hm (Nat.not_lt_zero _)) rfl
end DL.My
open PySem PySem.W PyProof.Rows
set_option maxRecDepth 100000 in
set_option maxHeartbeats 0 in
theorem PySem.Challenge.cw_whyfacts_k18_heights_and_leaves_holds : PySem.Challenge.rw_whyfacts_k18_heights_and_leaves.Holds := by
 w_on; o_law; k_head; (case hw => w_witness2)
 k_fill
 refine DL.walkD (l := PySem.Challenge.rw_whyfacts_k18_heights_and_leaves) (op := DL.My.op_law) (k := 21) (x := "_law_script") rfl rfl ⟨rfl, by decide, by decide⟩ (fun w h Y => PySem.W.kIn_of Y) DL.My.law_true ?F
 case F =>
  intro w mg fa h KX G hmg
  refine' DL.My.all_mk KX G hmg ?b_all ?b_bool ?b_int ?b_isinstance ?b_len ?b_list ?b_max ?b_range ?b_sorted ?b_str ?b_tuple ?b_zip ?d_grounds_in ?d_facts_of_grounds ?d_rests_on ?d_height_of ?d_rank_of_value ?d_rank_of ?d_leaves_of ?d_l_cell ?d_l_word ?d_l_facts ?d_l_ground ?d_l_grounds ?d_l_reason ?d_l_named ?d_l_alike ?d_l_key ?d_l_sorted ?d_law
  (case b_all => k_is)
  (case b_bool => k_is)
  (case b_int => k_is)
  (case b_isinstance => k_is)
  (case b_len => k_is)
  (case b_list => k_is)
  (case b_max => k_is)
  (case b_range => k_is)
  (case b_sorted => k_is)
  (case b_str => k_is)
  (case b_tuple => k_is)
  (case b_zip => k_is)
  (case d_grounds_in => refine' DL.DIn.mk' ?z1a ?z1b ?z1c ?z1d; (case z1a => k_is); (case z1b => k_is); (case z1c => k_is); (case z1d => k_is))
  (case d_facts_of_grounds => refine' DL.DIn.mk' ?z2a ?z2b ?z2c ?z2d; (case z2a => k_is); (case z2b => k_is); (case z2c => k_is); (case z2d => k_is))
  (case d_rests_on => refine' DL.DIn.mk' ?z3a ?z3b ?z3c ?z3d; (case z3a => k_is); (case z3b => k_is); (case z3c => k_is); (case z3d => k_is))
  (case d_height_of => refine' DL.DIn.mk' ?z4a ?z4b ?z4c ?z4d; (case z4a => k_is); (case z4b => k_is); (case z4c => k_is); (case z4d => k_is))
  (case d_rank_of_value => refine' DL.DIn.mk' ?z5a ?z5b ?z5c ?z5d; (case z5a => k_is); (case z5b => k_is); (case z5c => k_is); (case z5d => k_is))
  (case d_rank_of => refine' DL.DIn.mk' ?z6a ?z6b ?z6c ?z6d; (case z6a => k_is); (case z6b => k_is); (case z6c => k_is); (case z6d => k_is))
  (case d_leaves_of => refine' DL.DIn.mk' ?z7a ?z7b ?z7c ?z7d; (case z7a => k_is); (case z7b => k_is); (case z7c => k_is); (case z7d => k_is))
  (case d_l_cell => refine' DL.DIn.mk' ?z8a ?z8b ?z8c ?z8d; (case z8a => k_is); (case z8b => k_is); (case z8c => k_is); (case z8d => k_is))
  (case d_l_word => refine' DL.DIn.mk' ?z9a ?z9b ?z9c ?z9d; (case z9a => k_is); (case z9b => k_is); (case z9c => k_is); (case z9d => k_is))
  (case d_l_facts => refine' DL.DIn.mk' ?z10a ?z10b ?z10c ?z10d; (case z10a => k_is); (case z10b => k_is); (case z10c => k_is); (case z10d => k_is))
  (case d_l_ground => refine' DL.DIn.mk' ?z11a ?z11b ?z11c ?z11d; (case z11a => k_is); (case z11b => k_is); (case z11c => k_is); (case z11d => k_is))
  (case d_l_grounds => refine' DL.DIn.mk' ?z12a ?z12b ?z12c ?z12d; (case z12a => k_is); (case z12b => k_is); (case z12c => k_is); (case z12d => k_is))
  (case d_l_reason => refine' DL.DIn.mk' ?z13a ?z13b ?z13c ?z13d; (case z13a => k_is); (case z13b => k_is); (case z13c => k_is); (case z13d => k_is))
  (case d_l_named => refine' DL.DIn.mk' ?z14a ?z14b ?z14c ?z14d; (case z14a => k_is); (case z14b => k_is); (case z14c => k_is); (case z14d => k_is))
  (case d_l_alike => refine' DL.DIn.mk' ?z15a ?z15b ?z15c ?z15d; (case z15a => k_is); (case z15b => k_is); (case z15c => k_is); (case z15d => k_is))
  (case d_l_key => refine' DL.DIn.mk' ?z16a ?z16b ?z16c ?z16d; (case z16a => k_is); (case z16b => k_is); (case z16c => k_is); (case z16d => k_is))
  (case d_l_sorted => refine' DL.DIn.mk' ?z17a ?z17b ?z17c ?z17d; (case z17a => k_is); (case z17b => k_is); (case z17c => k_is); (case z17d => k_is))
  (case d_law => refine' DL.DIn.mk' ?z18a ?z18b ?z18c ?z18d; (case z18a => k_is); (case z18b => k_is); (case z18c => k_is); (case z18d => k_is))
