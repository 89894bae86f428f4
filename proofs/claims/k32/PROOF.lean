import PyProof.Rows.All
import Wide.All
import OpenK.AllK
import Wide.FinOn
import Lean
import PyProof.EqAt
import PyProof.EqKinds
import PyProof.TupleCall
import PySem.Challenge.RW_whyfacts_k32_groups_of_too_many
set_option Elab.async false
set_option linter.all false
set_option maxRecDepth 100000
set_option maxHeartbeats 4000000
theorem QlQ : type_of% @Bool.false_ne_true := @Bool.false_ne_true
theorem QlR : type_of% @List.getElem?_eq_getElem := @List.getElem?_eq_getElem
theorem QlS : type_of% @PySem.Heap.get?_push_of_some := @PySem.Heap.get?_push_of_some
theorem QlT : type_of% @List.mem_append_right := @List.mem_append_right
theorem QlU : type_of% @List.mem_cons_self := @List.mem_cons_self
theorem QlV : type_of% @PySem.Heap.lt_size := @PySem.Heap.lt_size
theorem QlW : type_of% @List.size_toArray := @List.size_toArray
theorem QlX : type_of% @Nat.le_refl := @Nat.le_refl
theorem QlY : type_of% @List.length_map := @List.length_map
theorem QlZ : type_of% @List.mem_cons_of_mem := @List.mem_cons_of_mem
theorem Qma : type_of% @List.length_append := @List.length_append
theorem Qmb : type_of% @Nat.lt_of_lt_of_le := @Nat.lt_of_lt_of_le
theorem Qmd : type_of% @PySem.Heap.get?_push_size := @PySem.Heap.get?_push_size
theorem Qme : type_of% @Nat.ne_of_lt := @Nat.ne_of_lt
theorem Qmf : type_of% @List.getElem?_map := @List.getElem?_map
theorem Qmg : type_of% @List.length_cons := @List.length_cons
theorem Qmh : type_of% @Nat.le_trans := @Nat.le_trans
theorem Qmi : type_of% @List.length_singleton := @List.length_singleton
theorem Qmj : type_of% @Bool.and_eq_true := @Bool.and_eq_true
theorem Qmk : type_of% @Nat.lt_irrefl := @Nat.lt_irrefl
theorem Qml : type_of% @List.drop_eq_getElem_cons := @List.drop_eq_getElem_cons
theorem Qmm : type_of% @Nat.lt_of_le_of_lt := @Nat.lt_of_le_of_lt
theorem Qmn : type_of% @PySem.wpAny_bind := @PySem.wpAny_bind
theorem Qmo : type_of% @if_pos := @if_pos
theorem Qmp : type_of% @if_neg := @if_neg
theorem Qmq : type_of% @Eq.trans := @Eq.trans
theorem Qmr : type_of% @PySem.wpAny_pure := @PySem.wpAny_pure
theorem Qms : type_of% @List.map_cons := @List.map_cons
theorem Qmt : type_of% @PySem.wpAny_mono := @PySem.wpAny_mono
theorem Qmu : type_of% @Option.some.inj := @Option.some.inj
theorem Qmv : type_of% @List.all_eq_true := @List.all_eq_true
theorem Qmw : type_of% @decide_eq_false := @decide_eq_false
namespace L2
open PySem PySem.Spec PyProof.Rows
abbrev Key := Sum Int Str
def tf : Key->Value->Bool
 | .inl k, v => Value.isInt k v
 | .inr x, v => Value.isStrOf x v
def keyH (w : World) : Key->Int
 | .inl k => hashInt k
 | .inr x => hashStr w x
theorem keyIs_shape : ∀ {k : Key} {v : Value}, tf k v = true->(∃ i t, k = Sum.inl i/\v = Value.int i t)\/(∃ x t, k = Sum.inr x/\v = Value.str x t)
 | .inl i, v, h => by
  obtain ⟨t, e⟩ := Value.isInt_shape (k := i) (v := v) h
  exact .inl ⟨i, t, rfl, e⟩
 | .inr x, v, h => by
  obtain ⟨t, e⟩ := Value.isStrOf_shape (x := x) (v := v) h
  exact .inr ⟨x, t, rfl, e⟩
theorem QjT (i : Int) (t : Tok) : tf (.inl i) (.int i t) = true := by simp [tf, Value.isInt]
theorem QjS (x : Str) (t : Tok) : tf (.inr x) (.str x t) = true := by simp [tf, Value.isStrOf]
theorem key_ll (a b : Int) : decide ((Sum.inl a : Key) = Sum.inl b) = (a == b) := by
 by_cases e : a = b
 ·subst e; simp
 ·have h : ¬ (Sum.inl a : Key) = Sum.inl b := fun q => e (Sum.inl.inj q)
  rw [Qmw h]
  exact (beq_eq_false_iff_ne.mpr e).symm
theorem key_rr (a b : Str) : decide ((Sum.inr a : Key) = Sum.inr b) = decide (a = b) := by
 by_cases e : a = b
 ·subst e; simp
 ·have h : ¬ (Sum.inr a : Key) = Sum.inr b := fun q => e (Sum.inr.inj q)
  rw [Qmw h, Qmw e]
theorem key_lr (a : Int) (b : Str) : decide ((Sum.inl a : Key) = Sum.inr b) = false := Qmw (fun q => nomatch q)
theorem key_rl (a : Str) (b : Int) : decide ((Sum.inr a : Key) = Sum.inl b) = false := Qmw (fun q => nomatch q)
def fg (prog : Program) (w : World) : PySem.KeyKind prog w Key where
 is := tf
 hash := keyH w
 inj := fun v a b ha hb => by
  rcases keyIs_shape ha with ⟨i, t, rfl, rfl⟩ | ⟨x, t, rfl, rfl⟩
  ·rcases keyIs_shape hb with ⟨j, u, rfl, e⟩ | ⟨y, u, rfl, e⟩
   ·injection e with e1 _; rw [e1]
   ·exact nomatch e
  ·rcases keyIs_shape hb with ⟨j, u, rfl, e⟩ | ⟨y, u, rfl, e⟩
   ·exact nomatch e
   ·injection e with e1 _; rw [e1]
 byValue := fun k v h => by
  rcases keyIs_shape h with ⟨i, t, rfl, rfl⟩ | ⟨x, t, rfl, rfl⟩ <;> rfl
 pyHash := fun hv h => by
  rcases keyIs_shape hv with ⟨i, t, rfl, rfl⟩ | ⟨x, t, rfl, rfl⟩
  ·exact wpAny_pyHash_int h
  ·exact wpAny_pyHash_str h
 eqBool := fun hu hv h => by
  rcases keyIs_shape hu with ⟨i, t, rfl, rfl⟩ | ⟨x, t, rfl, rfl⟩
  ·rcases keyIs_shape hv with ⟨j, u, rfl, rfl⟩ | ⟨y, u, rfl, rfl⟩
   ·rw [key_ll] at h; exact wpAny_eqBool_int h
   ·rw [key_lr] at h; exact SeqAt.EqAt.int_str i t y u _ _ _ _ h
  ·rcases keyIs_shape hv with ⟨j, u, rfl, rfl⟩ | ⟨y, u, rfl, rfl⟩
   ·rw [key_rl] at h; exact SeqAt.EqAt.str_int x t j u _ _ _ _ h
   ·rw [key_rr] at h; exact wpAny_eqBool_str h
 «strs» := fun k x t v h => by
  rcases keyIs_shape h with ⟨i, u, rfl, e⟩ | ⟨y, u, rfl, e⟩
  ·exact nomatch e
  ·injection e with e1 _
   subst e1
   cases v <;> rfl
theorem Qii (prog : Program) (w : World) (i : Int) (t : Tok) : (fg prog w).is (.inl i) (.int i t) = true := QjT i t
theorem Qih (prog : Program) (w : World) (x : Str) (t : Tok) : (fg prog w).is (.inr x) (.str x t) = true := QjS x t
inductive V where
 | non | bl (b : Bool) | int (i : Int) | str (x : Str) | byt (b : Array UInt8) | flt (b : UInt64) | ref (a : Addr) | ty (n : String)
 deriving DecidableEq
def aq : V->Value->Prop
 | .non, u => u = Value.none
 | .bl b, u => u = Value.bool b
 | .int i, u => ∃ t, u = Value.int i t
 | .str x, u => ∃ t, u = Value.str x t
 | .byt b, u => ∃ t, u = Value.bytes b t
 | .flt b, u => ∃ t, u = Value.float b t
 | .ref a, u => u = Value.ref a
 | .ty n, u => u = Value.type n
abbrev bb : List V->List Value->Prop := Paired aq
theorem bb.length {xs : List V} {us : List Value} (r : bb xs us) : xs.length = us.length := Paired.length r
theorem bb.get : ∀ {xs : List V} {us : List Value} {i : Nat} {x : V}, bb xs us->xs[i]? = some x->∃ u, us[i]? = some u/\aq x u
 | _, _, _, _, .nil, e => by simp at e
 | _, _, 0, _, .cons r _, e => by simp at e; subst e; exact ⟨_, rfl, r⟩
 | _, _, i + 1, x, .cons _ t, e => by
  obtain ⟨u, h1, h2⟩ := bb.get (i := i) (x := x) t (by simpa using e)
  exact ⟨u, by simpa using h1, h2⟩
theorem bb.set {x : V} {u : Value} (r : aq x u) : ∀ {xs : List V} {us : List Value} (i : Nat), bb xs us->bb (xs.set i x) (us.set i u)
 | _, _, _, .nil => .nil
 | _, _, 0, .cons _ t => .cons r t
 | _, _, i + 1, .cons q t => .cons q (bb.set r i t)
theorem bb.append : ∀ {xs ys : List V} {us ws : List Value}, bb xs us->bb ys ws->bb (xs ++ ys) (us ++ ws)
 | _, _, _, _, .nil, s => s
 | _, _, _, _, .cons r t, s => .cons r (bb.append t s)
theorem bb.take : ∀ {xs : List V} {us : List Value} (n : Nat), bb xs us->bb (xs.take n) (us.take n)
 | _, _, 0, _ => .nil
 | _, _, _ + 1, .nil => .nil
 | _, _, n + 1, .cons r t => .cons r (bb.take n t)
theorem bb.drop : ∀ {xs : List V} {us : List Value} (n : Nat), bb xs us->bb (xs.drop n) (us.drop n)
 | _, _, 0, r => r
 | _, _, _ + 1, .nil => .nil
 | _, _, n + 1, .cons _ t => bb.drop n t
def jo : Option V->Option Value->Prop
 | some v, some u => aq v u
 | none, none => True
 | _, _ => False
def KV {κ : Type} : List (κ × V)->List (κ × Value)->Prop := Paired fun (p : κ × V) (q : κ × Value) => p.1 = q.1/\aq p.2 q.2
def kV : Key->V
 | .inl i => .int i
 | .inr x => .str x
inductive HO where
 | lst (xs : List V)
 | tup (xs : List V)
 | dK (kvs : List (Key × V)) | dT (kvs : List (List Key × V))
 | set (S : Int->Bool) (n : Nat)
 | ins (C dx : Addr) (fs : List (Str × V))
 | own (x : Addr)
 | xd (fs : List (Str × V))
 | met (f x : Addr)
 | rng (lo hi : Int)
 | frz (o : Obj) (u : HO)
 | tbl (ps : Array Value)
 | ext (φ : Heap->Prop)
abbrev Hp := Addr->Option HO
def upd (H : Hp) (a : Addr) (o : HO) : Hp := fun b => if b = a then some o else H b
theorem cn {H : Hp} {a : Addr} {o : HO} : upd H a o a = some o := by unfold upd; rw [Qmo rfl]
theorem bo {H : Hp} {a b : Addr} {o : HO} (h : b ≠ a) : upd H a o b = H b := by unfold upd; rw [Qmp h]
theorem ne_of {H : Hp} {a b : Addr} {o u : HO} (h : H a = some o) (h' : H b = some u) (d : o ≠ u) : a ≠ b := by
 intro e; subst e; rw [h] at h'; exact d (Qmu h')
theorem il {H : Hp} {a b : Addr} {o : HO} (h : H a = some o) (h' : H b = none) : a ≠ b := by
 intro e; subst e; rw [h] at h'; cases h'
section
variable (P : Program) (w : World)
def dm (H : Hp) (h : Heap) (a : Addr) : HO->Prop
 | .lst xs => xs.length<=sizeLine/\∃ (its : List Value) (n : Nat), bb xs its/\h.get? a = some { cls := .type "list", data := .seq its.toArray n }
 | .tup xs => xs.length<=sizeLine/\∃ its : List Value, bb xs its/\IsTup h a its.toArray
 | .dK kvs => kvs.length<=sizeLine/\(a == sysModules) = false/\∃ vs, KV kvs vs/\h.DictOf (fg P w) a vs
 | .dT kvs => kvs.length<=sizeLine/\(a == sysModules) = false/\∃ xs : List (List Key × Addr × Value),
   Paired (fun (p : List Key × V) (q : List Key × Addr × Value) => p.1 = q.1/\H q.2.1 = some (.tup (p.1.map kV))/\aq p.2 q.2.2) kvs xs /\
   ∃ o es ep, h.get? a = some o/\o.ExactDict/\o.data = .dict es ep/\es.toList = xs.map (entryOfKey (tupleKind (fg P w)))/\(xs.map (·.1)).Nodup
 | .set S n => h.SetOf (intKind P w) a S n
 | .ins C dx fs => H dx = some (.own a)/\fs.length<=1000/\dx ≠ a/\h.get? a = some (PySem.W.instObj C dx) /\
   ∃ mA, h.Ns1 dx mA/\(∀ f, jo (fs.lookup f) (mA f))/\PySem.Within mA (fs.map (·.1))
 | .own _ => ∃ o, h.get? a = some o
 | .xd fs => ∃ mA, h.Ns1 a mA/\∀ f, jo (fs.lookup f) (mA f)
 | .rng lo hi => ∃ t u v, h.get? a = some { cls := .type "range", data := .fields #[.int lo t, .int hi u, .int 1 v] }
 | .frz o u => h.get? a = some o/\dm H h a u
 | .tbl ps => h.get? a = some { cls := .none, data := .fields ps }
 | .met f x => h.get? a = some (PySem.W.methodObj (.ref f) (.ref x))
 | .ext φ => φ h/\(∃ o, h.get? a = some o)/\∀ h1 h2 : Heap, φ h1->(∀ o, h1.get? a = some o->h2.get? a = some o)->φ h2
def HOk (H : Hp) (h : Heap) : Prop := ∀ a o, H a = some o->dm P w H h a o
end
section
variable {P : Program} {w : World} {H H' : Hp} {h h' : Heap} {a : Addr} {o : HO}
theorem dm.lt (x : dm P w H h a o) : a < h.objs.size := by
 cases o with
 | lst xs => obtain ⟨_, _, _, _, e⟩ := x; exact QlV e
 | tup xs => obtain ⟨_, _, _, p⟩ := x; exact p.lt
 | dK kvs => obtain ⟨_, _, _, _, o, _, _, e, _⟩ := x; exact QlV e
 | dT kvs => obtain ⟨_, _, _, _, o, _, _, e, _⟩ := x; exact QlV e
 | set S n => obtain ⟨o, _, _, _, e, _⟩ := x; exact QlV e
 | ins C dx fs => obtain ⟨_, _, _, e, _⟩ := x; exact QlV e
 | own y => obtain ⟨_, e⟩ := x; exact QlV e
 | xd fs => obtain ⟨_, ⟨_, _, _, e, _⟩, _⟩ := x; exact QlV e
 | rng lo hi => obtain ⟨_, _, _, e⟩ := x; exact QlV e
 | frz ob u => obtain ⟨e, _⟩ := x; exact QlV e
 | tbl ps => exact QlV (show h.get? a = some _ from x)
 | met f y => exact QlV (show h.get? a = some _ from x)
 | ext φ => obtain ⟨_, ⟨_, e⟩, _⟩ := x; exact QlV e
theorem Paired.mapP {α β : Type} {F G : α->β->Prop} : ∀ {l₁ : List α} {l₂ : List β}, Paired F l₁ l₂->(∀ a b, F a b->G a b)->Paired G l₁ l₂
 | _, _, .nil, _ => .nil
 | _, _, .cons r t, f => .cons (f _ _ r) (Paired.mapP t f)
theorem dm.stay (x : dm P w H h a o) (k : ∀ b u, (b = a\/H b = some (.own a))->h.get? b = some u->h'.get? b = some u)
  (ho : ∀ b, H b = some (.own a)->H' b = some (.own a)) (ht : ∀ b xs, H b = some (.tup xs)->H' b = some (.tup xs)) : dm P w H' h' a o := by
 induction o with
 | lst xs => obtain ⟨z, its, n, r, e⟩ := x; exact ⟨z, its, n, r, k _ _ (.inl rfl) e⟩
 | tup xs => obtain ⟨z, its, r, ob, e, c⟩ := x; exact ⟨z, its, r, ob, k _ _ (.inl rfl) e, c⟩
 | dK kvs => obtain ⟨z, y, vs, r, ob, es, ep, e, c⟩ := x; exact ⟨z, y, vs, r, ob, es, ep, k _ _ (.inl rfl) e, c⟩
 | dT kvs =>
  obtain ⟨z, y, xs, r, ob, es, ep, e, c⟩ := x
  exact ⟨z, y, xs, Paired.mapP r fun p q z => ⟨z.1, ht _ _ z.2.1, z.2.2⟩, ob, es, ep, k _ _ (.inl rfl) e, c⟩
 | set S n => obtain ⟨ob, es, ep, t, e, c⟩ := x; exact ⟨ob, es, ep, t, k _ _ (.inl rfl) e, c⟩
 | ins C dx fs =>
  obtain ⟨d, z, ne, e, mA, ⟨od, es, ep, e2, c⟩, r⟩ := x
  exact ⟨ho _ d, z, ne, k _ _ (.inl rfl) e, mA, ⟨od, es, ep, k _ _ (.inr d) e2, c⟩, r⟩
 | own y => obtain ⟨ob, e⟩ := x; exact ⟨ob, k _ _ (.inl rfl) e⟩
 | xd fs => obtain ⟨mA, ⟨od, es, ep, e, c⟩, r⟩ := x; exact ⟨mA, ⟨od, es, ep, k _ _ (.inl rfl) e, c⟩, r⟩
 | rng lo hi => obtain ⟨t, u, v, e⟩ := x; exact ⟨t, u, v, k _ _ (.inl rfl) e⟩
 | frz ob u ih => obtain ⟨e, q⟩ := x; exact ⟨k _ _ (.inl rfl) e, ih q⟩
 | tbl ps =>
  have e : h.get? a = some { cls := .none, data := .fields ps } := x
  show h'.get? a = some { cls := .none, data := .fields ps }
  exact k a _ (.inl rfl) e
 | met f y =>
  have e : h.get? a = some (PySem.W.methodObj (.ref f) (.ref y)) := x
  show h'.get? a = some (PySem.W.methodObj (.ref f) (.ref y))
  exact k a _ (.inl rfl) e
 | ext φ => obtain ⟨p, ⟨o, e⟩, st⟩ := x; exact ⟨st _ _ p fun o q => k _ _ (.inl rfl) q, ⟨o, k _ _ (.inl rfl) e⟩, st⟩
theorem HOk.lt (x : HOk P w H h) (e : H a = some o) : a < h.objs.size := (x a o e).lt
theorem HOk.fresh (x : HOk P w H h) (e : h.objs.size<=a) : H a = none := by
 cases q : H a with
 | none => rfl
 | some u => exact absurd (Qmb (x.lt q) e) (Qmk _)
theorem HOk.kept (x : HOk P w H h) (k : ∀ b u, h.get? b = some u->h'.get? b = some u) : HOk P w H h' := fun a o e =>
 (x a o e).stay (fun b u _ q => k b u q) (fun _ q => q) fun _ _ q => q
theorem HOk.laid (x : HOk P w H h) (k : ∀ b u, h.get? b = some u->h'.get? b = some u) (hp : h.objs.size<=a) (new : dm P w (upd H a o) h' a o) : HOk P w (upd H a o) h' := fun b u e => by
 have hn := x.fresh hp
 by_cases hb : b = a
 ·subst hb; rw [cn] at e; cases e; exact new
 ·rw [bo hb] at e
  exact (x b u e).stay (fun c v _ q => k c v q) (fun c q => by rw [bo (il q hn)]; exact q) fun c xs q => by rw [bo (il q hn)]; exact q
end
def Rd (H : Hp) (a : Addr) (u : HO) : Prop := H a = some u\/∃ o, H a = some (.frz o u)
theorem Rd.ok {P : Program} {w : World} {H : Hp} {h : Heap} {a : Addr} {u : HO} (r : Rd H a u) (x : HOk P w H h) : dm P w H h a u := by
 rcases r with r | ⟨o, r⟩
 ·exact x a u r
 ·obtain ⟨_, q⟩ := x a _ r
  exact q
def Mut : Option HO->Prop
 | some (.lst _) => True
 | some (.dK _) => True
 | some (.dT _) => True
 | some (.set _ _) => True
 | some (.ins _ _ _) => True
 | some (.ext _) => True
 | _ => False
section
variable {P : Program} {w : World} {H : Hp} {h h' : Heap} {x e : Addr} {o' : HO}
theorem HOk.write (ok : HOk P w H h) (mu : Mut (H x)) (he : e = x\/H e = some (.own x)) (k : ∀ b u, b ≠ e->h.get? b = some u->h'.get? b = some u) (heo : ∃ u, h'.get? e = some u)
  (new : dm P w (upd H x o') h' x o') : HOk P w (upd H x o') h' := fun b u q => by
 have nown : ∀ c y, H c = some (.own y)->c ≠ x := fun c y r z => by subst z; rw [r] at mu; exact mu
 have ntup : ∀ c xs, H c = some (.tup xs)->c ≠ x := fun c xs r z => by subst z; rw [r] at mu; exact mu
 by_cases hb : b = x
 ·subst hb; rw [cn] at q; cases q; exact new
 ·rw [bo hb] at q
  by_cases hbe : b = e
  ·have q' : H b = some (.own x) := by
    rcases he with z | z
    ·exact absurd (hbe.trans z) hb
    ·rw [hbe]; exact z
   rw [q] at q'; cases q'
   obtain ⟨v, hv⟩ := heo
   exact ⟨v, by rw [hbe]; exact hv⟩
  ·refine (ok b u q).stay (fun c v hc r => k c v ?_ r) (fun c r => by rw [bo (nown c b r)]; exact r) fun c xs r => by rw [bo (ntup c xs r)]; exact r
   rcases hc with rfl | hc
   ·exact hbe
   ·rintro rfl
    rcases he with z | z
    ·exact nown c b hc z
    ·rw [hc] at z; cases z; exact hb rfl
end
structure Un (fs ex : List Addr) (H H' : Hp) (h h' : Heap) : Prop where
 keep : ∀ b o, h.get? b = some o->H b = none->b ∉ fs->b ∉ ex->h'.get? b = some o
 slot : ∀ b o, h.get? b = some o->H b = none->b ∈ fs->b ∉ ex->∃ sl, h'.get? b = some { o with slots := sl }
 free : ∀ b o, h.get? b = some o->H b = none->b ∉ ex->H' b = none
 there : ∀ b o, h.get? b = some o->b ∉ ex->∃ o', h'.get? b = some o'
 tups : ∀ b xs, H b = some (.tup xs)->H' b = some (.tup xs)
 frzs : ∀ b o u, H b = some (.frz o u)->H' b = some (.frz o u)
 tbls : ∀ b ps, H b = some (.tbl ps)->∃ more, H' b = some (.tbl (ps ++ more))
section
variable {fs fs' ex ex' : List Addr} {H H1 H2 : Hp} {h h1 h2 h' : Heap} {a x e : Addr} {o : HO}
theorem Un.any (u : Un fs ex H H1 h h1) {b : Addr} {ob : Obj} (q : h.get? b = some ob) (n : H b = none) (hx : b ∉ ex) : ∃ sl, h1.get? b = some { ob with slots := sl } := by
 by_cases hb : b ∈ fs
 ·exact u.slot b ob q n hb hx
 ·exact ⟨ob.slots, u.keep b ob q n hb hx⟩
theorem Un.kept (k : ∀ b u, h.get? b = some u->h'.get? b = some u) : Un fs ex H H h h' :=
 ⟨fun b ob q _ _ _ => k b ob q, fun b ob q _ _ _ => ⟨ob.slots, k b ob q⟩, fun _ _ _ n _ => n, fun b ob q _ => ⟨ob, k b ob q⟩, fun _ _ q => q, fun _ _ _ q => q, fun _ ps q => ⟨#[], by rw [q]; simp⟩⟩
theorem Un.refl : Un fs ex H H h h := Un.kept fun _ _ q => q
theorem Un.laid (k : ∀ b u, h.get? b = some u->h'.get? b = some u) (hp : h.objs.size<=a) (hn : H a = none) : Un fs ex H (upd H a o) h h' where
 keep := fun b u q _ _ _ => k b u q
 slot := fun b u q _ _ _ => ⟨u.slots, k b u q⟩
 free := fun b u q n _ => by rw [bo (Qme (Qmb (QlV q) hp))]; exact n
 there := fun b u q _ => ⟨u, k b u q⟩
 tups := fun b xs q => by rw [bo (il q hn)]; exact q
 frzs := fun b u xs q => by rw [bo (il q hn)]; exact q
 tbls := fun b ps q => ⟨#[], by rw [bo (il q hn), q]; simp⟩
theorem Un.write (mu : Mut (H x)) (he : e = x\/H e = some (.own x)) (k : ∀ b u, b ≠ e->h.get? b = some u->h'.get? b = some u) (heo : ∃ u, h'.get? e = some u) : Un fs ex H (upd H x o) h h' := by
 have hx : ∀ b, H b = none->b ≠ x := fun b n z => by subst z; rw [n] at mu; exact mu
 have hb : ∀ b, H b = none->b ≠ e := fun b n z => by
  subst z
  rcases he with r | r
  ·exact hx b n r
  ·rw [n] at r; cases r
 have hm : ∀ b u, H b = some u->¬ Mut (some u)->b ≠ x := fun b u q nm z => by subst z; rw [q] at mu; exact nm mu
 refine ⟨fun b u q n _ _ => k b u (hb b n) q, fun b u q n _ _ => ⟨u.slots, k b u (hb b n) q⟩, fun b u q n _ => by rw [bo (hx b n)]; exact n, fun b u q _ => ?_,
  fun b xs q => by rw [bo (hm b _ q fun z => z)]; exact q, fun b u xs q => by rw [bo (hm b _ q fun z => z)]; exact q, fun b ps q => ⟨#[], by rw [bo (hm b _ q fun z => z), q]; simp⟩⟩
 by_cases hbe : b = e
 ·subst hbe; exact heo
 ·exact ⟨u, k b u hbe q⟩
end
def trk (h : Heap) (H : Hp) : List Addr := (List.range h.objs.size).filter fun a => (H a).isSome
def na (h : Heap) (H : Hp) : Heap := PySem.W.hideAll h (trk h H)
theorem QjW (h : Heap) (H : Hp) : (na h H).objs.size = h.objs.size := PySem.W.hideAll_size _ _
theorem Qlr {h : Heap} {H : Hp} {b : Addr} {o : Obj} (e : h.get? b = some o) (n : H b = none) : (na h H).get? b = some o :=
 PySem.W.hideAll_get _ e fun hm => by
  have q : (H b).isSome = true := (List.mem_filter.mp hm).2
  rw [n] at q; simp at q
theorem of_hidT {h : Heap} {H : Hp} {b : Addr} {o : Obj} (e : (na h H).get? b = some o) : h.get? b = some o/\H b = none := by
 have e' : h.get? b = some o := PySem.W.of_hideAll (trk h H) e
 refine ⟨e', ?_⟩
 cases q : H b with
 | none => rfl
 | some x =>
  have hm : b ∈ trk h H := List.mem_filter.mpr ⟨List.mem_range.mpr (QlV e'), by simp [q]⟩
  have z : (na h H).get? b = none := PySem.W.hideAll_none (trk h H) hm
  rw [z] at e; cases e
structure Mod (K : PySem.W.Frag) (mg : Str->Option Value) (base : Heap) : Prop where
 kin : K.In base
 glob : base.Ns mainGlobals mg
 blt : ∃ mb, base.Ns builtinsNs mb/\∀ x : Str, x ≠ "__name__"->mb x = bootBuiltins x
 nolimit : base.NoLimit
structure Cx where
 prog : Program
 w : World
 K : PySem.W.Frag
 mg : Str->Option Value
 base : Heap
 A : Around
 N : List Str
 s₀ : Shared
 H₀ : Hp
 env : Env
 outer : List Env
 stack : List Env
 ex : List Addr
 fn : Str->Bool
 calm : Bool
 pn : List (Addr × Obj)
 xe : Value->Shared->Prop
def frs (l : List Env) : List Addr := l.filterMap (·.frame)
abbrev Cx.fs (X : Cx) : List Addr := frs X.outer
def Vis (sc : Scope) (x : Str) : Prop := sc.names.lookup x = some .local\/sc.names.lookup x = some .cell\/sc.names.lookup x = some .free
def Loc (sc : Scope) (x : Str) : Prop := sc.names.lookup x = some .local\/sc.names.lookup x = some .cell
def Look (env : Env) (h : Heap) (m : Str->Option Value) (x : Str) (u : Value) : Prop :=
 (env.kindOf x = some .local/\m x = some u)\/((env.kindOf x = some .cell\/env.kindOf x = some .free)/\∃ c, env.cells.lookup x = some c/\h.IsCell c (some u))
structure Cx.Ok (X : Cx) : Prop where
 mod : Mod X.K X.mg X.base
 kind : X.env.scope.kind = .function
 glob : X.env.globals = mainGlobals
 blt : X.env.builtins = builtinsNs
 above : X.s₀.heap.objs.size<=X.env.locals
 inj : ∀ x y c, X.env.cells.lookup x = some c->X.env.cells.lookup y = some c->x = y
 has : ∀ x, (X.env.kindOf x = some .cell\/X.env.kindOf x = some .free)->∃ c, X.env.cells.lookup x = some c
 cab : ∀ x c, X.fn x = true->X.env.cells.lookup x = some c->X.s₀.heap.objs.size<=c
 hd : X.calm = true->X.A.handled = none
 frames : X.A.frames = some X.stack
 stk : X.stack = X.outer\/(X.stack = X.env :: X.outer/\X.env.frame = some X.env.locals)
 exf : ∀ b ∈ X.ex, b ≠ X.env.locals/\∀ x c, X.env.cells.lookup x = some c->c ≠ b
 bs : ∀ b o, X.base.get? b = some o->X.s₀.heap.get? b = some o/\X.H₀ b = none
 bsz : X.base.objs.size<=X.s₀.heap.objs.size
 noex : ∀ b o, X.base.get? b = some o->b ∉ X.ex
 exfs : ∀ b ∈ X.ex, b ∉ X.fs
 funs : X.s₀.heap.FunFrames X.base X.outer
 frf : ∀ b ∈ X.fs, X.H₀ b = none
structure Inv (X : Cx) (QlP : List (Addr × Obj)) (σ : List (Option V)) (H : Hp) (s : Shared) : Prop where
 ok : X.Ok
 os : s.os = X.s₀.os
 bare : AllBare s.gens
 base : Un X.fs X.ex X.H₀ H X.s₀.heap s.heap
 loc : ∃ m, s.heap.Ns X.env.locals m/\∀ (i : Nat) (x : Str) (v : V), X.N[i]? = some x->σ[i]? = some (some v)->Vis X.env.scope x->∃ u, aq v u/\Look X.env s.heap m x u
 cell : ∀ x c, X.env.cells.lookup x = some c->∃ v, s.heap.IsCell c v
 free : H X.env.locals = none
 freeC : ∀ x c, X.env.cells.lookup x = some c->H c = none
 pin : ∀ p ∈ X.pn ++ QlP, s.heap.get? p.1 = some p.2/\H p.1 = none/\p.1 ≠ X.env.locals/\p.1 ∉ X.fs/\∀ v, p.2.data ≠ .cell v
 hok : HOk X.prog X.w H s.heap
 len : σ.length = X.N.length
section
variable {X : Cx} {QlP : List (Addr × Obj)} {σ : List (Option V)} {H H' : Hp} {s : Shared} {h' : Heap}
theorem Cx.Ok.nofr (ok : X.Ok) {b : Addr} {o : Obj} (e : X.base.get? b = some o) : b ∉ X.fs := fun hb => by
 have := (ok.funs.mem hb).1
 rw [e] at this; cases this
theorem Inv.bs (I : Inv X QlP σ H s) : ∀ b o, X.base.get? b = some o->s.heap.get? b = some o/\H b = none := fun b o e =>
 ⟨I.base.keep b o (I.ok.bs b o e).1 (I.ok.bs b o e).2 (I.ok.nofr e) (I.ok.noex b o e), I.base.free b o (I.ok.bs b o e).1 (I.ok.bs b o e).2 (I.ok.noex b o e)⟩
theorem Inv.bk (I : Inv X QlP σ H s) : ∀ b o, X.base.get? b = some o->s.heap.get? b = some o := fun b o e => (I.bs b o e).1
theorem Inv.mod (I : Inv X QlP σ H s) : Mod X.K X.mg X.base := I.ok.mod
theorem Inv.kIn (I : Inv X QlP σ H s) : X.K.In s.heap := I.ok.mod.kin.keeps I.bk
theorem Inv.lt (I : Inv X QlP σ H s) : X.env.locals < s.heap.objs.size := let ⟨_, hn, _⟩ := I.loc; hn.lt
theorem Inv.sz (I : Inv X QlP σ H s) : X.s₀.heap.objs.size<=s.heap.objs.size := Qmh I.ok.above (Nat.le_of_lt I.lt)
theorem Inv.nofs (I : Inv X QlP σ H s) {a : Addr} (h : s.heap.objs.size<=a) : a ∉ X.fs := fun hb => by
 obtain ⟨_, o, ho, _⟩ := I.ok.funs.mem hb
 exact absurd (Qmb (QlV ho) (Qmh I.sz h)) (Qmk _)
theorem Inv.cne (I : Inv X QlP σ H s) : ∀ x c, X.env.cells.lookup x = some c->c ≠ X.env.locals := fun x c e z => by
 obtain ⟨v, o, ho, hd⟩ := I.cell x c e
 obtain ⟨m, ⟨o', es, ep, ho', hd', _⟩, _⟩ := I.loc
 rw [z, ho'] at ho; cases ho; rw [hd'] at hd; cases hd
theorem Inv.funs (I : Inv X QlP σ H s) : s.heap.FunFrames X.base X.outer := by
 have all : ∀ (l : List Env), (∀ b ∈ frs l, b ∈ X.fs)->X.s₀.heap.FunFrames X.base l->s.heap.FunFrames X.base l := by
  intro l
  induction l with
  | nil => intro _ _; trivial
  | cons env r ih =>
   intro hs hl
   obtain ⟨hk, ⟨L, o, hf, hn, ho, hd⟩, hr⟩ := hl
   have hL : L ∈ X.fs := hs L (by unfold frs; rw [List.filterMap_cons, hf]; exact QlU)
   obtain ⟨sl, e⟩ := I.base.slot L o ho (I.ok.frf L hL) hL fun z => I.ok.exfs L z hL
   exact ⟨hk, ⟨L, _, hf, hn, e, hd⟩, ih (fun b hb => hs b (by unfold frs; rw [List.filterMap_cons, hf]; exact QlZ _ hb)) hr⟩
 exact all X.outer (fun _ hb => hb) I.ok.funs
theorem Inv.stack (I : Inv X QlP σ H s) : s.heap.FunFrames X.base X.stack := by
 rcases I.ok.stk with e | ⟨e, hf⟩
 ·rw [e]; exact I.funs
 ·rw [e]
  obtain ⟨m, hn, _⟩ := I.loc
  refine .cons (by rw [I.ok.kind]; decide) hf hn ?_ I.funs
  exact Heap.get?_none_of_le (Qmh I.ok.bsz I.ok.above)
theorem Inv.stkSub (I : Inv X QlP σ H s) : ∀ b ∈ frs X.stack, b ∈ X.env.locals :: X.fs := fun b hb => by
 rcases I.ok.stk with e | ⟨e, hf⟩
 ·rw [e] at hb; exact QlZ _ hb
 ·rw [e] at hb
  unfold frs at hb
  rw [List.filterMap_cons, hf] at hb
  exact hb
theorem Inv.stkFree (I : Inv X QlP σ H s) : ∀ b ∈ frs X.stack, H b = none := fun b hb => by
 rcases List.mem_cons.mp (I.stkSub b hb) with e | hb
 ·rw [e]; exact I.free
 ·obtain ⟨_, o, ho, _⟩ := I.ok.funs.mem hb
  exact I.base.free b o ho (I.ok.frf b hb) fun z => I.ok.exfs b z hb
theorem Inv.step {g' : Array GenState} {t' : Nat} {d' : Drawn} {ch : List Addr} (I : Inv X QlP σ H s)
  (hch : ∀ b ∈ ch, (b ∈ X.ex\/X.s₀.heap.objs.size<=b)/\b ≠ X.env.locals/\(∀ x c, X.env.cells.lookup x = some c->c ≠ b)/\∀ p ∈ X.pn ++ QlP, p.1 ≠ b)
  (keep : ∀ b o, b ≠ X.env.locals->b ∉ X.fs->b ∉ ch->s.heap.get? b = some o->H b = none->h'.get? b = some o)
  (slot : ∀ b o, b ≠ X.env.locals->b ∈ X.fs->b ∉ ch->s.heap.get? b = some o->H b = none->∃ sl, h'.get? b = some { o with slots := sl }) (free : ∀ b o, b ∉ ch->s.heap.get? b = some o->H b = none->H' b = none)
  (there : ∀ b o, b ∉ ch->s.heap.get? b = some o->∃ o', h'.get? b = some o')
  (tups : ∀ b xs, H b = some (.tup xs)->H' b = some (.tup xs)) (frzs : ∀ b o u, H b = some (.frz o u)->H' b = some (.frz o u)) (tbls : ∀ b ps, H b = some (.tbl ps)->∃ more, H' b = some (.tbl (ps ++ more)))
  (ns : ∀ m, s.heap.Ns X.env.locals m->h'.Ns X.env.locals m) (hok : HOk X.prog X.w H' h') (hg : AllBare g') :
  Inv X QlP σ H' { s with heap := h', gens := g', drawn := d', toks := t' } := by
 have neL : ∀ b o, X.s₀.heap.get? b = some o->b ≠ X.env.locals := fun b o e => Qme (Qmb (QlV e) I.ok.above)
 have neC : ∀ b o, X.s₀.heap.get? b = some o->b ∉ X.ex->b ∉ ch := fun b o e hx hb => by
  rcases (hch b hb).1 with z | z
  ·exact hx z
  ·exact absurd (Qmb (QlV e) z) (Qmk _)
 have cellK : ∀ x c, X.env.cells.lookup x = some c->∀ v, s.heap.IsCell c v->h'.IsCell c v := fun x c e v ⟨o, ho, hd⟩ => by
  have nch : c ∉ ch := fun z => (hch c z).2.2.1 x c e rfl
  by_cases hc : c ∈ X.fs
  ·obtain ⟨sl, q⟩ := slot c o (I.cne x c e) hc nch ho (I.freeC x c e)
   exact ⟨_, q, hd⟩
  ·exact ⟨o, keep c o (I.cne x c e) hc nch ho (I.freeC x c e), hd⟩
 refine ⟨I.ok, I.os, hg, ⟨fun b o e n hb hx => ?_, fun b o e n hb hx => ?_, fun b o e n hx => ?_, fun b o e hx => ?_, fun b xs e => tups b xs (I.base.tups b xs e), fun b o xs e => frzs b o xs (I.base.frzs b o xs e), fun b ps e => ?_⟩, ?_, fun x c e => ?_, ?_, fun x c e => ?_, fun p hp => ?_, hok, I.len⟩
 ·exact keep b o (neL b o e) hb (neC b o e hx) (I.base.keep b o e n hb hx) (I.base.free b o e n hx)
 ·obtain ⟨sl, e1⟩ := I.base.slot b o e n hb hx
  obtain ⟨sl', e2⟩ := slot b _ (neL b o e) hb (neC b o e hx) e1 (I.base.free b o e n hx)
  exact ⟨sl', e2⟩
 ·obtain ⟨o', e1⟩ := I.base.there b o e hx
  exact free b o' (neC b o e hx) e1 (I.base.free b o e n hx)
 ·obtain ⟨o', e1⟩ := I.base.there b o e hx
  exact there b o' (neC b o e hx) e1
 ·obtain ⟨m1, e1⟩ := I.base.tbls b ps e
  obtain ⟨m2, e2⟩ := tbls b _ e1
  exact ⟨m1 ++ m2, by rw [e2, Array.append_assoc]⟩
 ·obtain ⟨m, hn, hl⟩ := I.loc
  refine ⟨m, ns m hn, fun i x v e1 e2 e3 => ?_⟩
  obtain ⟨u, r, l⟩ := hl i x v e1 e2 e3
  refine ⟨u, r, ?_⟩
  rcases l with l | ⟨k, c, e, z⟩
  ·exact .inl l
  ·exact .inr ⟨k, c, e, cellK x c e _ z⟩
 ·obtain ⟨v, z⟩ := I.cell x c e
  exact ⟨v, cellK x c e v z⟩
 ·obtain ⟨m, ⟨o, _, _, ho, _⟩, _⟩ := I.loc
  exact free _ o (fun z => (hch _ z).2.1 rfl) ho I.free
 ·obtain ⟨v, o, ho, hd⟩ := I.cell x c e
  exact free c o (fun z => (hch c z).2.2.1 x c e rfl) ho (I.freeC x c e)
 ·obtain ⟨e, n, ne, nf, d⟩ := I.pin p hp
  have nch : p.1 ∉ ch := fun z => (hch p.1 z).2.2.2 p hp rfl
  exact ⟨keep p.1 p.2 ne nf nch e n, free p.1 p.2 nch e n, ne, nf, d⟩
theorem Inv.un {t' : Nat} (I : Inv X QlP σ H s) (u : Un X.fs [] H H' s.heap h') (hok : HOk X.prog X.w H' h') : Inv X QlP σ H' { s with heap := h', toks := t' } := by
 obtain ⟨m, ⟨o, es, ep, ho, r⟩, _⟩ := id I.loc
 obtain ⟨sl, hL⟩ := u.any ho I.free (by simp)
 exact I.step (g' := s.gens) (d' := s.drawn) (ch := []) (fun _ z => nomatch z) (fun b o _ hb _ e n => u.keep b o e n hb (by simp)) (fun b o _ hb _ e n => u.slot b o e n hb (by simp)) (fun b o _ e n => u.free b o e n (by simp)) (fun b o _ e => u.there b o e (by simp)) u.tups u.frzs u.tbls (fun m' hm => by
  obtain ⟨o', es', ep', ho', r'⟩ := hm
  rw [ho] at ho'; cases ho'
  exact ⟨_, es', ep', hL, r'⟩) hok I.bare
theorem Inv.call {g' : Array GenState} {t' : Nat} {d' : Drawn} {ch : List Addr} (I : Inv X QlP σ H s) (u : Un (frs X.stack) ch H H' s.heap h') (hok : HOk X.prog X.w H' h') (hg : AllBare g')
  (hch : ∀ b ∈ ch, (b ∈ X.ex\/X.s₀.heap.objs.size<=b)/\b ≠ X.env.locals/\(∀ x c, X.env.cells.lookup x = some c->c ≠ b)/\∀ p ∈ X.pn ++ QlP, p.1 ≠ b) :
  Inv X QlP σ H' { s with heap := h', gens := g', drawn := d', toks := t' } := by
 obtain ⟨m, ⟨o, es, ep, ho, r⟩, _⟩ := id I.loc
 obtain ⟨sl, hL⟩ := u.any ho I.free fun z => (hch _ z).2.1 rfl
 exact I.step (ch := ch) hch (fun b o hL hb hc e n => u.keep b o e n (fun z => (List.mem_cons.mp (I.stkSub b z)).elim hL hb) hc) (fun b o _ _ hc e n => u.any e n hc) (fun b o hc e n => u.free b o e n hc) (fun b o hc e => u.there b o e hc) u.tups u.frzs u.tbls (fun m' hm => by
  obtain ⟨o', es', ep', ho', r'⟩ := hm
  rw [ho] at ho'; cases ho'
  exact ⟨_, es', ep', hL, r'⟩) hok hg
theorem Inv.turned {t' : Nat} {it : Addr} (I : Inv X QlP σ H s) (k : ∀ b o, b ≠ it->s.heap.get? b = some o->h'.get? b = some o) (hn : H it = none) (hL : it ≠ X.env.locals)
  (h1 : it ∈ X.ex\/X.s₀.heap.objs.size<=it) (h2 : ∀ x c, X.env.cells.lookup x = some c->c ≠ it) (h3 : ∀ p ∈ X.pn ++ QlP, p.1 ≠ it) : Inv X QlP σ H { s with heap := h', toks := t' } := by
 have nit : ∀ b u, H b = some u->b ≠ it := fun b u e z => by rw [z, hn] at e; cases e
 refine I.step (g' := s.gens) (d' := s.drawn) (ch := [it]) (fun b hb => ?_) (fun b o _ _ hc e _ => k b o (fun z => hc (by simp [z])) e) (fun b o _ _ hc e _ => ⟨o.slots, k b o (fun z => hc (by simp [z])) e⟩) (fun _ _ _ _ n => n)
  (fun b o hc e => ⟨o, k b o (fun z => hc (by simp [z])) e⟩) (fun _ _ e => e) (fun _ _ _ e => e) (fun b ps e => ⟨#[], by rw [e]; simp⟩) (fun m hm => ?_) (fun b u e => ?_) I.bare
 ·have e : b = it := by simpa using hb
  subst e
  exact ⟨h1, hL, h2, h3⟩
 ·obtain ⟨o, es, ep, ho, r⟩ := hm
  exact ⟨o, es, ep, k _ o (Ne.symm hL) ho, r⟩
 ·refine (I.hok b u e).stay (fun c v hc q => k c v ?_ q) (fun _ q => q) fun _ _ q => q
  rcases hc with z | z
  ·rw [z]; exact nit b u e
  ·exact nit c _ z
theorem Inv.tok (I : Inv X QlP σ H s) (t : Nat) : Inv X QlP σ H { s with toks := t } := I.un (h' := s.heap) (t' := t) Un.refl I.hok
theorem Inv.kept {t' : Nat} (I : Inv X QlP σ H s) (k : ∀ b u, s.heap.get? b = some u->h'.get? b = some u) : Inv X QlP σ H { s with heap := h', toks := t' } := I.un (Un.kept k) (I.hok.kept k)
theorem Inv.laid {a : Addr} {o : HO} {t' : Nat} (I : Inv X QlP σ H s) (k : ∀ b u, s.heap.get? b = some u->h'.get? b = some u) (hp : s.heap.objs.size<=a) (new : dm X.prog X.w (upd H a o) h' a o) :
  Inv X QlP σ (upd H a o) { s with heap := h', toks := t' } := I.un (Un.laid k hp (I.hok.fresh hp)) (I.hok.laid k hp new)
theorem Inv.write {x e : Addr} {o : HO} {t' : Nat} (I : Inv X QlP σ H s) (mu : Mut (H x)) (he : e = x\/H e = some (.own x)) (k : ∀ b u, b ≠ e->s.heap.get? b = some u->h'.get? b = some u) (heo : ∃ u, h'.get? e = some u)
  (new : dm X.prog X.w (upd H x o) h' x o) : Inv X QlP σ (upd H x o) { s with heap := h', toks := t' } := I.un (Un.write mu he k heo) (I.hok.write mu he k heo new)
theorem Inv.weak {σ' : List (Option V)} (I : Inv X QlP σ H s) (hl : σ'.length = σ.length) (w : ∀ (i : Nat) v, σ'[i]? = some (some v)->σ[i]? = some (some v)) : Inv X QlP σ' H s :=
 ⟨I.ok, I.os, I.bare, I.base, let ⟨m, hn, hl'⟩ := I.loc; ⟨m, hn, fun i x v e1 e2 e3 => hl' i x v e1 (w i v e2) e3⟩, I.cell, I.free, I.freeC, I.pin, I.hok, hl.trans I.len⟩
theorem Inv.pins_of {pins' : List (Addr × Obj)} (I : Inv X QlP σ H s) (h : ∀ p ∈ pins', s.heap.get? p.1 = some p.2/\H p.1 = none/\p.1 ≠ X.env.locals/\p.1 ∉ X.fs/\∀ v, p.2.data ≠ .cell v) : Inv X pins' σ H s :=
 ⟨I.ok, I.os, I.bare, I.base, I.loc, I.cell, I.free, I.freeC, fun p hp => (List.mem_append.mp hp).elim (fun z => I.pin p (List.mem_append_left _ z)) (h p), I.hok, I.len⟩
theorem Qba {N : List Str} (hN : N.Nodup) {i j : Nat} {x : Str} (a : N[i]? = some x) (b : N[j]? = some x) : i = j := by
 obtain ⟨h1, e1⟩ := List.getElem?_eq_some_iff.mp a
 obtain ⟨h2, e2⟩ := List.getElem?_eq_some_iff.mp b
 exact (List.getElem_inj hN).mp (e1.trans e2.symm)
theorem Qjf {M : Model} {A : Around} {E : Value->Shared->Prop} {i : Nat} {x : Str} {v : V} {u : Value} {Q : Unit->Shared->Prop} (I : Inv X QlP σ H s) (hN : X.N.Nodup) (hi : X.N[i]? = some x) (hx : Loc X.env.scope x) (r : aq v u)
  (h : ∀ s', Inv X QlP (σ.set i (some v)) H s'->(∃ a, Heap.SameBut a s.heap s'.heap/\(a = X.env.locals\/X.env.cells.lookup x = some a))->Q () s') (hf : X.fn x = true\/X.env.scope.names.lookup x = some .local := by first | exact .inl rfl | exact .inr rfl | assumption) : wpAny M A (storeName X.env x u) Q E s := by
 obtain ⟨m, hn, hl⟩ := id I.loc
 have hcls : (X.env.scope.kind == .class || (X.env.scope.kind == .module && X.env.locals != X.env.globals)) = false := by rw [I.ok.kind]; rfl
 have hiσ : i < σ.length := by rw [I.len]; exact (List.getElem?_eq_some_iff.mp hi).1
 have cne := I.cne
 have tracked : ∀ {a : Addr} {h' : Heap}, (∃ o, s.heap.get? a = some o/\H a = none)->Heap.SameBut a s.heap h'->HOk X.prog X.w H h' := fun {a h'} ha hs b ob e => by
  obtain ⟨_, _, hfree⟩ := ha
  refine (I.hok b ob e).stay (fun c w' hc q => (hs.2 c ?_).trans q) (fun _ q => q) fun _ _ q => q
  rintro rfl
  rcases hc with rfl | hc
  ·rw [hfree] at e; cases e
  ·rw [hfree] at hc; cases hc
 rcases hx with hk | hk
 ·refine wpAny_storeName_local hk hn (fun h' hn' hs => ?_) hcls
  obtain ⟨oL, _, _, hoL, _⟩ := id hn
  refine h _ ⟨I.ok, I.os, I.bare, ⟨fun b o e n hb hx => ?_, fun b o e n hb hx => ?_, I.base.free, fun b o e hx => ?_, I.base.tups, I.base.frzs, I.base.tbls⟩, ⟨_, hn', fun j y v' e1 e2 e3 => ?_⟩, fun y c e => ?_, I.free, I.freeC, fun p hp => ?_, tracked ⟨oL, hoL, I.free⟩ hs, by simpa using I.len⟩ ⟨_, hs, .inl rfl⟩
  ·exact (hs.2 b (Qme (Qmb (QlV e) I.ok.above))).trans (I.base.keep b o e n hb hx)
  ·obtain ⟨sl, e1⟩ := I.base.slot b o e n hb hx
   exact ⟨sl, (hs.2 b (Qme (Qmb (QlV e) I.ok.above))).trans e1⟩
  ·obtain ⟨o', e1⟩ := I.base.there b o e hx
   exact ⟨o', (hs.2 b (Qme (Qmb (QlV e) I.ok.above))).trans e1⟩
  ·by_cases hj : j = i
   ·subst hj
    rw [hi] at e1; cases e1
    rw [List.getElem?_set_self hiσ] at e2
    cases e2
    exact ⟨u, r, .inl ⟨hk, by simp⟩⟩
   ·rw [List.getElem?_set_ne (Ne.symm hj)] at e2
    obtain ⟨u', r', q⟩ := hl j y v' e1 e2 e3
    refine ⟨u', r', ?_⟩
    rcases q with ⟨k, e⟩ | ⟨k, c, e, z⟩
    ·refine .inl ⟨k, ?_⟩
     have : y ≠ x := fun e => hj (Qba hN e1 (e ▸ hi))
     simp [this, e]
    ·exact .inr ⟨k, c, e, z.sameBut hs (cne y c e)⟩
  ·obtain ⟨w', z⟩ := I.cell y c e
   exact ⟨w', z.sameBut hs (cne y c e)⟩
  ·obtain ⟨e, n, ne, nf, d⟩ := I.pin p hp
   exact ⟨(hs.2 p.1 ne).trans e, n, ne, nf, d⟩
 ·have hfn : X.fn x = true := by
   rcases hf with z | z
   ·exact z
   ·rw [z] at hk; cases hk
  obtain ⟨c, hc⟩ := I.ok.has x (.inl hk)
  obtain ⟨w', z⟩ := I.cell x c hc
  refine wpAny_storeName_cell I.ok.kind hk hc z (fun h' hc' hs => ?_)
  obtain ⟨oc, hoc, hocd⟩ := id z
  refine h { s with heap := h' } ⟨I.ok, I.os, I.bare, ⟨fun b o e n hb hx => ?_, fun b o e n hb hx => ?_, I.base.free, fun b o e hx => ?_, I.base.tups, I.base.frzs, I.base.tbls⟩, ⟨m, hn.sameBut hs (Ne.symm (cne x c hc)), fun j y v' e1 e2 e3 => ?_⟩, fun y c' e => ?_, I.free, I.freeC, fun p hp => ?_, tracked ⟨oc, hoc, I.freeC x c hc⟩ hs, by simpa using I.len⟩ ⟨c, hs, .inr hc⟩
  ·exact (hs.2 b (Qme (Qmb (QlV e) (I.ok.cab x c hfn hc)))).trans (I.base.keep b o e n hb hx)
  ·obtain ⟨sl, e1⟩ := I.base.slot b o e n hb hx
   exact ⟨sl, (hs.2 b (Qme (Qmb (QlV e) (I.ok.cab x c hfn hc)))).trans e1⟩
  ·obtain ⟨o', e1⟩ := I.base.there b o e hx
   exact ⟨o', (hs.2 b (Qme (Qmb (QlV e) (I.ok.cab x c hfn hc)))).trans e1⟩
  ·by_cases hj : j = i
   ·subst hj
    rw [hi] at e1; cases e1
    rw [List.getElem?_set_self hiσ] at e2
    cases e2
    exact ⟨u, r, .inr ⟨.inl hk, c, hc, hc'⟩⟩
   ·rw [List.getElem?_set_ne (Ne.symm hj)] at e2
    obtain ⟨u', r', q⟩ := hl j y v' e1 e2 e3
    refine ⟨u', r', ?_⟩
    rcases q with q | ⟨k, c', e, z'⟩
    ·exact .inl q
    ·refine .inr ⟨k, c', e, z'.sameBut hs ?_⟩
     rintro rfl
     exact hj (Qba hN e1 (I.ok.inj _ _ _ e hc ▸ hi))
  ·by_cases hcc : c' = c
   ·subst hcc; exact ⟨_, hc'⟩
   ·obtain ⟨w2, z2⟩ := I.cell y c' e
    exact ⟨w2, z2.sameBut hs hcc⟩
  ·obtain ⟨e, n, ne, nf, d⟩ := I.pin p hp
   refine ⟨(hs.2 p.1 ?_).trans e, n, ne, nf, d⟩
   intro q
   rw [q, hoc] at e
   have q' : oc = p.2 := Qmu e
   exact d w' (by rw [<-q']; exact hocd)
theorem wx {M : Model} {A : Around} {E : Value->Shared->Prop} {i : Nat} {x : Str} {v : V} {u : Value} {Q : Unit->Shared->Prop} (I : Inv X QlP σ H s) (hN : X.N.Nodup) (hi : X.N[i]? = some x) (hx : Loc X.env.scope x) (r : aq v u)
  (h : ∀ s', Inv X QlP (σ.set i (some v)) H s'->Q () s') (hf : X.fn x = true\/X.env.scope.names.lookup x = some .local := by first | exact .inl rfl | exact .inr rfl | assumption) : wpAny M A (storeName X.env x u) Q E s :=
 Qjf I hN hi hx r (fun s' I' _ => h s' I') hf
theorem Inv.call' {s' : Shared} {ch : List Addr} (I : Inv X QlP σ H s) (ho : s'.os = s.os) (u : Un (frs X.stack) ch H H' s.heap s'.heap) (hok : HOk X.prog X.w H' s'.heap) (hg : AllBare s'.gens)
  (hch : ∀ b ∈ ch, (b ∈ X.ex\/X.s₀.heap.objs.size<=b)/\b ≠ X.env.locals/\(∀ x c, X.env.cells.lookup x = some c->c ≠ b)/\∀ p ∈ X.pn ++ QlP, p.1 ≠ b) : Inv X QlP σ H' s' := by
 obtain ⟨h', g', d', t', o'⟩ := s'
 have e : o' = s.os := ho
 subst e
 exact I.call (g' := g') (t' := t') (d' := d') u hok hg hch
end
abbrev XK := Value->Option Addr->Hp->Prop
abbrev St := List (Option V)
abbrev VK := V->Hp->Prop
abbrev TE := St->Hp->VK->Prop
abbrev TT := St->Hp->(Bool->Hp->Prop)->Prop
abbrev TA := St->Hp->(List V->Hp->Prop)->Prop
structure Ends where
 nx : St->Hp->Prop
 rt : VK
 bk : St->Hp->Prop := fun _ _ => False
 ct : St->Hp->Prop := fun _ _ => False
abbrev TS := Ends->St->Hp->Prop
def EP (X : Cx) (QlP : List (Addr × Obj)) (σ : St) (Q : VK) (u : Value) (s' : Shared) : Prop := ∃ v H', Inv X QlP σ H' s'/\aq v u/\Q v H'
def TP (X : Cx) (QlP : List (Addr × Obj)) (σ : St) (Q : Bool->Hp->Prop) (b : Bool) (s' : Shared) : Prop := ∃ H', Inv X QlP σ H' s'/\Q b H'
def AP (X : Cx) (QlP : List (Addr × Obj)) (σ : St) (Q : List V->Hp->Prop) (us : List Value) (s' : Shared) : Prop := ∃ vs H', Inv X QlP σ H' s'/\bb vs us/\Q vs H'
def SP (X : Cx) (QlP : List (Addr × Obj)) (D : Ends) (f : Flow) (s' : Shared) : Prop :=
 match f with
 | .next => ∃ σ' H', Inv X QlP σ' H' s'/\D.nx σ' H'
 | .brk => ∃ σ' H', Inv X QlP σ' H' s'/\D.bk σ' H'
 | .cont => ∃ σ' H', Inv X QlP σ' H' s'/\D.ct σ' H'
 | .ret u => ∃ v σ' H', Inv X QlP σ' H' s'/\aq v u/\D.rt v H'
def PE (X : Cx) (e : Expr) (t : TE) : Prop :=
 ∀ (QlP : List (Addr × Obj)) (s : Shared) (σ : St) (H : Hp) (Q : VK), Inv X QlP σ H s->t σ H Q->wpAny (model X.prog X.w) X.A (eval e X.env) (EP X QlP σ Q) X.xe s
def PT (X : Cx) (e : Expr) (t : TT) : Prop :=
 ∀ (QlP : List (Addr × Obj)) (s : Shared) (σ : St) (H : Hp) (Q : Bool->Hp->Prop), Inv X QlP σ H s->t σ H Q->wpAny (model X.prog X.w) X.A (isTrue e X.env (eval e X.env)) (TP X QlP σ Q) X.xe s
def PW (X : Cx) (e : Expr) (t : TT) : Prop :=
 ∀ (whole : Sem Value) (QlP : List (Addr × Obj)) (s : Shared) (σ : St) (H : Hp) (Q : Bool->Hp->Prop), Inv X QlP σ H s->t σ H Q->wpAny (model X.prog X.w) X.A (isTrue e X.env whole) (TP X QlP σ Q) X.xe s
theorem PW.pt {X : Cx} {e : Expr} {t : TT} (h : PW X e t) : PT X e t := h _
def PA (X : Cx) (es : List Expr) (t : TA) : Prop :=
 ∀ (pos : Pos) (QlP : List (Addr × Obj)) (s : Shared) (σ : St) (H : Hp) (Q : List V->Hp->Prop), Inv X QlP σ H s->t σ H Q->wpAny (model X.prog X.w) X.A (spliced (backTo pos (starEach es X.env))) (AP X QlP σ Q) X.xe s
def PS (X : Cx) (st : Stmt) (t : TS) : Prop :=
 ∀ (QlP : List (Addr × Obj)) (s : Shared) (σ : St) (H : Hp) (D : Ends), Inv X QlP σ H s->t D σ H->wpAny (model X.prog X.w) X.A (exec st X.env) (SP X QlP D) X.xe s
def PSs (X : Cx) (st : List Stmt) (t : TS) : Prop :=
 ∀ (QlP : List (Addr × Obj)) (s : Shared) (σ : St) (H : Hp) (D : Ends), Inv X QlP σ H s->t D σ H->wpAny (model X.prog X.w) X.A (execs st X.env) (SP X QlP D) X.xe s
theorem thn {α : Type} {t : Sem α} {Q Q' : α->Shared->Prop} {M : Model} {A : Around} {E : Value->Shared->Prop} {s : Shared} (h : wpAny M A t Q E s) (hQ : ∀ a s, Q a s->Q' a s) : wpAny M A t Q' E s := Qmt h hQ fun _ _ x => x
section
variable {X : Cx}
def tVar (i : Nat) : TE := fun σ H Q => ∃ v, σ[i]? = some (some v)/\Q v H
def tC (v : V) : TE := fun _ H Q => Q v H
theorem pe_var {i : Nat} {x : Str} {pos : Pos} (hN : X.N[i]? = some x) (hv : Vis X.env.scope x) (hd : (x == ("__debug__" : Str)) = false := by decide) (hcd : (x == ("__classdict__" : Str)) = false := by decide) : PE X (.Name x pos) (tVar i) := by
 intro QlP s σ H Q I h
 obtain ⟨v, e, h⟩ := h
 obtain ⟨m, hn, hl⟩ := I.loc
 obtain ⟨u, r, l⟩ := hl i x v hN e hv
 have fin : EP X QlP σ Q u s := ⟨v, H, I, r, h⟩
 rcases l with ⟨hk, hm⟩ | ⟨hk, c, hc, hcell⟩
 ·exact wpAny_Name (wpAny_loadName_local I.ok.kind hk hn hm fin) hd
 ·rcases hk with hk | hk
  ·exact wpAny_Name (wpAny_loadName_cell I.ok.kind hk hc hcell fin) hd
  ·exact wpAny_Name (wpAny_loadName_free I.ok.kind hk hc hcell fin hcd) hd
theorem pe_int {i j pos} : PE X (.Constant (.int i) j pos) (tC (.int i)) := fun _ _ _ H _ I h => wpAny_Constant_int ⟨.int i, H, I.tok _, ⟨_, rfl⟩, h⟩
theorem pe_bl {b j pos} : PE X (.Constant (.bool b) j pos) (tC (.bl b)) := fun _ _ _ H _ I h => Constant_bool ⟨.bl b, H, I, rfl, h⟩
theorem pe_non {j pos} : PE X (.Constant .none j pos) (tC .non) := fun _ _ _ H _ I h => Constant_none ⟨.non, H, I, rfl, h⟩
theorem pe_str {x j pos} : PE X (.Constant (.str x) j pos) (tC (.str x)) := fun _ _ _ H _ I h => Calls.Constant_str ⟨.str x, H, I.tok _, ⟨_, rfl⟩, h⟩
def Gl (X : Cx) (x : Str) : Prop := X.env.kindOf x = some .globalImplicit
theorem xm {E : Value->Shared->Prop} {QlP : List (Addr × Obj)} {s : Shared} {σ : St} {H : Hp} {x : Str} {u : Value} {pos : Pos} {Q : Value->Shared->Prop} (I : Inv X QlP σ H s) (hg : Gl X x) (hm : X.mg x = some u) (h : Q u s)
  (hd : (x == ("__debug__" : Str)) = false := by decide) : wpAny (model X.prog X.w) X.A (eval (.Name x pos) X.env) Q E s :=
 Calls.Name_function_global I.ok.kind hg (Calls.loadGlobal_global (by rw [I.ok.glob]; exact I.mod.glob.keeps I.bk) hm h) hd
theorem sj {E : Value->Shared->Prop} {QlP : List (Addr × Obj)} {s : Shared} {σ : St} {H : Hp} {x : Str} {u : Value} {pos : Pos} {Q : Value->Shared->Prop} (I : Inv X QlP σ H s) (hg : Gl X x) (hm : X.mg x = none) (hv : bootBuiltins x = some u) (h : Q u s)
  (hn : x ≠ "__name__" := by decide) (hd : (x == ("__debug__" : Str)) = false := by decide) : wpAny (model X.prog X.w) X.A (eval (.Name x pos) X.env) Q E s := by
 obtain ⟨mb, h1, h2⟩ := I.mod.blt
 exact Calls.Name_function_global I.ok.kind hg (Calls.loadGlobal_builtin (by rw [I.ok.glob]; exact I.mod.glob.keeps I.bk) hm (by rw [I.ok.blt]; exact h1.keeps I.bk) ((h2 x hn).trans hv) h) hd
theorem Qaa {x : Str} {v : V} {u : Value} {pos : Pos} (hg : Gl X x) (hm : X.mg x = some u) (r : aq v u) (hd : (x == ("__debug__" : Str)) = false := by decide) : PE X (.Name x pos) (tC v) :=
 fun _ _ _ H _ I h => xm I hg hm ⟨v, H, I, r, h⟩ hd
theorem Qfv {x : Str} {v : V} {u : Value} {pos : Pos} (hg : Gl X x) (hm : X.mg x = none) (hv : bootBuiltins x = some u) (r : aq v u) (hn : x ≠ "__name__" := by decide) (hd : (x == ("__debug__" : Str)) = false := by decide) : PE X (.Name x pos) (tC v) :=
 fun _ _ _ H _ I h => sj I hg hm hv ⟨v, H, I, r, h⟩ hn hd
variable {a b : Expr} {ta tb : TE} {pos : Pos}
def tB (t : TE) : TT := fun σ H Q => t σ H fun x H1 => ∃ c, x = .bl c/\Q c H1
theorem pt_val {e : Expr} {t : TE} (h : PE X e t) (he : ∀ whole, isTrue e X.env whole = (do let v <-whole; standAt e.pos; holding [v] (truthy v)) := by intro _; rfl) : PT X e (tB t) := by
 intro QlP s σ H Q I hw
 refine isTrue_plain (thn (h QlP s σ H _ I hw) fun v s1 ⟨x, H1, I1, r1, q1⟩ => ?_) (he _)
 obtain ⟨d, rfl, q⟩ := q1
 cases r1
 exact wpAny_truthy_bool ⟨H1, I1, q⟩
variable {tA tB' : TT} {rest : List Expr}
def tAnd (t u : TT) : TT := fun σ H Q => t σ H fun c H1 => if c = true then u σ H1 Q else Q false H1
def tOr (t u : TT) : TT := fun σ H Q => t σ H fun c H1 => if c = true then Q true H1 else u σ H1 Q
def tNot (t : TT) : TT := fun σ H Q => t σ H fun c H1 => Q (!c) H1
theorem pw_and1 (ha : PT X a tA) : PW X (.BoolOp .And [a] pos) tA := by
 intro wh QlP s σ H Q I h
 refine isTrue_and (thn (ha QlP s σ H Q I h) fun c s1 e => ?_)
 cases c with
 | true => exact isTrue_and_nil e
 | false => exact e
theorem pw_or1 (ha : PT X a tA) : PW X (.BoolOp .Or [a] pos) tA := by
 intro wh QlP s σ H Q I h
 refine isTrue_or (thn (ha QlP s σ H Q I h) fun c s1 e => ?_)
 cases c with
 | false => exact isTrue_or_nil e
 | true => exact e
theorem pw_and (ha : PT X a tA) (hb : PW X (.BoolOp .And (b :: rest) pos) tB') : PW X (.BoolOp .And (a :: b :: rest) pos) (tAnd tA tB') := by
 intro wh QlP s σ H Q I h
 refine isTrue_and (thn (ha QlP s σ H _ I h) fun c s1 ⟨H1, I1, q1⟩ => ?_)
 cases c with
 | true => exact hb wh QlP s1 σ H1 Q I1 q1
 | false => exact ⟨H1, I1, q1⟩
theorem pw_or (ha : PT X a tA) (hb : PW X (.BoolOp .Or (b :: rest) pos) tB') : PW X (.BoolOp .Or (a :: b :: rest) pos) (tOr tA tB') := by
 intro wh QlP s σ H Q I h
 refine isTrue_or (thn (ha QlP s σ H _ I h) fun c s1 ⟨H1, I1, q1⟩ => ?_)
 cases c with
 | true => exact ⟨H1, I1, q1⟩
 | false => exact hb wh QlP s1 σ H1 Q I1 q1
theorem pt_not (ha : PT X a tA) : PT X (.UnaryOp .Not a pos) (tNot tA) := by
 intro QlP s σ H Q I h
 exact isTrue_not (ha QlP s σ H (fun c H1 => Q (!c) H1) I h)
def tAndV (ta tb : TE) : TE := fun σ H Q => ta σ H fun x H1 => ∃ c, x = .bl c/\if c = true then tb σ H1 Q else Q (.bl false) H1
def tOrV (ta tb : TE) : TE := fun σ H Q => ta σ H fun x H1 => ∃ c, x = .bl c/\if c = true then Q (.bl true) H1 else tb σ H1 Q
def tNotV (ta : TE) : TE := fun σ H Q => ta σ H fun x H1 => ∃ c, x = .bl c/\Q (.bl (!c)) H1
theorem pe_one {op} {t : TE} (h : PE X a t) : PE X (.BoolOp op [a] pos) t := fun QlP s σ H Q I hw => BoolOp_one (h QlP s σ H Q I hw)
theorem pe_and (ha : PE X a ta) (hb : PE X (.BoolOp .And (b :: rest) pos) tb) : PE X (.BoolOp .And (a :: b :: rest) pos) (tAndV ta tb) := by
 intro QlP s σ H Q I h
 refine BoolOp_and (thn (ha QlP s σ H _ I h) fun v s1 ⟨x, H1, I1, r1, q1⟩ => ?_)
 obtain ⟨c, rfl, q1⟩ := q1
 cases r1
 refine wpAny_truthy_bool ?_
 cases c with
 | true => exact hb QlP s1 σ H1 Q I1 q1
 | false => exact ⟨.bl false, H1, I1, rfl, q1⟩
theorem pe_or (ha : PE X a ta) (hb : PE X (.BoolOp .Or (b :: rest) pos) tb) : PE X (.BoolOp .Or (a :: b :: rest) pos) (tOrV ta tb) := by
 intro QlP s σ H Q I h
 refine BoolOp_or (thn (ha QlP s σ H _ I h) fun v s1 ⟨x, H1, I1, r1, q1⟩ => ?_)
 obtain ⟨c, rfl, q1⟩ := q1
 cases r1
 refine wpAny_truthy_bool ?_
 cases c with
 | false => exact hb QlP s1 σ H1 Q I1 q1
 | true => exact ⟨.bl true, H1, I1, rfl, q1⟩
theorem pe_not (ha : PE X a ta) : PE X (.UnaryOp .Not a pos) (tNotV ta) := by
 intro QlP s σ H Q I h
 refine UnaryOp_ (thn (ha QlP s σ H _ I h) fun v s1 ⟨x, H1, I1, r1, q1⟩ => ?_)
 obtain ⟨c, rfl, q1⟩ := q1
 cases r1
 exact not_of (wpAny_truthy_bool ⟨.bl (!c), H1, I1, rfl, q1⟩)
def tIf (t : TT) (ta tb : TE) : TE := fun σ H Q => t σ H fun c H1 => if c = true then ta σ H1 Q else tb σ H1 Q
theorem QkO {c : Expr} (hc : PT X c tA) (ha : PE X a ta) (hb : PE X b tb) : PE X (.IfExp c a b pos) (tIf tA ta tb) := by
 intro QlP s σ H Q I h
 refine wpAny_IfExp (thn (hc QlP s σ H _ I h) fun d s1 ⟨H1, I1, q1⟩ => ?_)
 cases d with
 | true => exact ha QlP s1 σ H1 Q I1 q1
 | false => exact hb QlP s1 σ H1 Q I1 q1
end
def SqL (K : PySem.W.Frag) (H : Hp) (a : Addr) (xs : List V) : Prop :=
 Rd H a (.lst xs) ∨
  ∃ (o : Obj) (its : Array Value) (n : Nat), K.lookup a = some o/\o.cls = .type "list"/\o.dict = none/\o.data = .seq its n/\its.size<=sizeLine/\bb xs its.toList
def SqT (K : PySem.W.Frag) (H : Hp) (a : Addr) (xs : List V) : Prop :=
 Rd H a (.tup xs) ∨
  ∃ (o : Obj) (its : Array Value) (n : Nat), K.lookup a = some o/\o.cls = .type "tuple"/\o.data = .seq its n/\its.size<=sizeLine/\bb xs its.toList
def absV : Value->Option V
 | .none => some .non
 | .bool b => some (.bl b)
 | .int i _ => some (.int i)
 | .str x _ => some (.str x)
 | .bytes b _ => some (.byt b)
 | .float b _ => some (.flt b)
 | .ref a => some (.ref a)
 | .type n => some (.ty n)
 | _ => none
theorem aq.abs {x : V} {u : Value} (r : aq x u) : absV u = some x := by
 cases x with
 | non => cases r; rfl
 | bl _ => cases r; rfl
 | int _ => obtain ⟨t, rfl⟩ := r; rfl
 | str _ => obtain ⟨t, rfl⟩ := r; rfl
 | byt _ => obtain ⟨t, rfl⟩ := r; rfl
 | flt _ => obtain ⟨t, rfl⟩ := r; rfl
 | ref _ => cases r; rfl
 | ty _ => cases r; rfl
theorem aq.inj {x y : V} {u : Value} (r : aq x u) (q : aq y u) : x = y := Qmu (r.abs.symm.trans q.abs)
theorem bb.inj : ∀ {xs ys : List V} {us : List Value}, bb xs us->bb ys us->xs = ys
 | _, _, _, .nil, .nil => rfl
 | _, _, _, .cons r t, .cons r' t' => by rw [r.inj r', bb.inj t t']
section
variable {X : Cx} {QlP : List (Addr × Obj)} {σ : St} {H : Hp} {s : Shared} {a : Addr} {xs ys : List V}
theorem SqL.of {K : PySem.W.Frag} (h : H a = some (.lst xs)) : SqL K H a xs := .inl (.inl h)
theorem Inv.list (I : Inv X QlP σ H s) (h : SqL X.K H a xs) : ∃ its : List Value, bb xs its/\PlainL s.heap a its.toArray/\xs.length<=sizeLine := by
 rcases h with h | ⟨o, its, n, hk, hc, hd, hs, hz, r⟩
 ·obtain ⟨z, its, n, r, e⟩ := h.ok I.hok
  exact ⟨its, r, ⟨_, n, e, rfl, rfl, rfl⟩, z⟩
 ·refine ⟨its.toList, r, ⟨o, n, I.kIn a o hk, hc, hd, by simpa using hs⟩, ?_⟩
  have e := r.length
  simp only [Array.length_toList] at e
  omega
theorem Inv.tuple (I : Inv X QlP σ H s) (h : SqT X.K H a xs) : ∃ its : List Value, bb xs its/\IsTup s.heap a its.toArray/\xs.length<=sizeLine := by
 rcases h with h | ⟨o, its, n, hk, hc, hs, hz, r⟩
 ·obtain ⟨z, its, r, p⟩ := h.ok I.hok
  exact ⟨its, r, p, z⟩
 ·refine ⟨its.toList, r, ⟨o, I.kIn a o hk, hc, n, by simpa using hs⟩, ?_⟩
  have e := r.length
  simp only [Array.length_toList] at e
  omega
theorem Inv.list_inj (I : Inv X QlP σ H s) (h : SqL X.K H a xs) (h' : SqL X.K H a ys) : xs = ys := by
 obtain ⟨its, r, ⟨o, n, e, _, _, d⟩, _⟩ := I.list h
 obtain ⟨its', r', ⟨o', n', e', _, _, d'⟩, _⟩ := I.list h'
 rw [e] at e'; cases e'
 rw [d] at d'
 injection d' with d1 _
 have : its = its' := by simpa using congrArg Array.toList d1
 subst this
 exact r.inj r'
theorem Inv.tuple_inj (I : Inv X QlP σ H s) (h : SqT X.K H a xs) (h' : SqT X.K H a ys) : xs = ys := by
 obtain ⟨its, r, ⟨o, e, _, n, d⟩, _⟩ := I.tuple h
 obtain ⟨its', r', ⟨o', e', _, n', d'⟩, _⟩ := I.tuple h'
 rw [e] at e'; cases e'
 rw [d] at d'
 injection d' with d1 _
 have : its = its' := by simpa using congrArg Array.toList d1
 subst this
 exact r.inj r'
end
abbrev Cx.wish (X : Cx) (E : Value->Shared->Prop) : Cx := { X with xe := E }
abbrev Cx.nox (X : Cx) : Cx := X.wish fun _ _ => False
theorem Cx.Ok.wish {X : Cx} (ok : X.Ok) (E : Value->Shared->Prop) : (X.wish E).Ok :=
 ⟨ok.mod, ok.kind, ok.glob, ok.blt, ok.above, ok.inj, ok.has, ok.cab, ok.hd, ok.frames, ok.stk, ok.exf, ok.bs, ok.bsz, ok.noex, ok.exfs, ok.funs, ok.frf⟩
theorem Cx.Ok.unwish {X : Cx} {E : Value->Shared->Prop} (ok : (X.wish E).Ok) : X.Ok :=
 ⟨ok.mod, ok.kind, ok.glob, ok.blt, ok.above, ok.inj, ok.has, ok.cab, ok.hd, ok.frames, ok.stk, ok.exf, ok.bs, ok.bsz, ok.noex, ok.exfs, ok.funs, ok.frf⟩
section
variable {X : Cx} {QlP : List (Addr × Obj)} {σ : St} {H : Hp} {s : Shared} {E : Value->Shared->Prop}
theorem Inv.wish (I : Inv X QlP σ H s) (E : Value->Shared->Prop) : Inv (X.wish E) QlP σ H s := ⟨I.ok.wish E, I.os, I.bare, I.base, I.loc, I.cell, I.free, I.freeC, I.pin, I.hok, I.len⟩
theorem Inv.unwish (I : Inv (X.wish E) QlP σ H s) : Inv X QlP σ H s := ⟨I.ok.unwish, I.os, I.bare, I.base, I.loc, I.cell, I.free, I.freeC, I.pin, I.hok, I.len⟩
theorem SP.unwish {D : Ends} {f : Flow} {s' : Shared} (h : SP (X.wish E) QlP D f s') : SP X QlP D f s' := by
 cases f with
 | next => obtain ⟨σ', H', I, q⟩ := h; exact ⟨σ', H', I.unwish, q⟩
 | brk => obtain ⟨σ', H', I, q⟩ := h; exact ⟨σ', H', I.unwish, q⟩
 | cont => obtain ⟨σ', H', I, q⟩ := h; exact ⟨σ', H', I.unwish, q⟩
 | ret u => obtain ⟨v, σ', H', I, r, q⟩ := h; exact ⟨v, σ', H', I.unwish, r, q⟩
theorem PSs.nox {st : List Stmt} {t : TS} (h : PSs X.nox st t) : PSs X st t := fun QlP s σ H D I hw =>
 Qmt (h QlP s σ H D (I.wish _) hw) (fun _ _ q => q.unwish) fun _ _ z => False.elim z
end
section
variable {X : Cx} {st : Stmt} {rest : List Stmt} {t u : TS} {e : Expr} {te : TE} {pos : Pos}
def tNext : TS := fun D σ H => D.nx σ H
def tSeq (t u : TS) : TS := fun D σ H => t { D with nx := u D } σ H
theorem pss_nil : PSs X [] tNext := fun _ _ σ H _ I h => wpAny_execs_nil ⟨σ, H, I, h⟩
theorem QkI (h1 : PS X st t) (h2 : PSs X rest u) : PSs X (st :: rest) (tSeq t u) := by
 intro QlP s σ H D I h
 refine wpAny_execs_cons (thn (h1 QlP s σ H { D with nx := u D } I h) fun f s1 q => ?_)
 cases f with
 | next =>
  obtain ⟨σ', H', I', q⟩ := q
  exact h2 QlP s1 σ' H' D I' q
 | ret v => exact q
 | brk => exact q
 | cont => exact q
def tBreak : TS := fun D σ H => D.bk σ H
def tCont : TS := fun D σ H => D.ct σ H
theorem ps_pass : PS X (.Pass pos) tNext := fun _ _ σ H _ I h => wpAny_Pass ⟨σ, H, I, h⟩
theorem QkL : PS X (.Break pos) tBreak := fun _ _ σ H _ I h => wpAny_Break ⟨σ, H, I, h⟩
theorem Qif : PS X (.Continue pos) tCont := fun _ _ σ H _ I h => wpAny_Continue ⟨σ, H, I, h⟩
theorem Inv.quiet {QlP : List (Addr × Obj)} {σ : St} {H : Hp} {s : Shared} (I : Inv X QlP σ H s) : interactive X.env = false := by simp [interactive, I.ok.kind]
def tDrop (te : TE) : TS := fun D σ H => te σ H fun _ H1 => D.nx σ H1
theorem ps_expr (he : PE X e te) (hs : swapsWith e none pos.line X.env = pure false := by rfl) : PS X (.Expr e pos) (tDrop te) := by
 intro QlP s σ H D I h
 exact wpAny_Expr_any (thn (he QlP s σ H _ I h) fun v s1 ⟨x, H1, I1, r1, q1⟩ => ⟨σ, H1, I1, q1⟩) I.quiet hs
def tRet (te : TE) : TS := fun D σ H => te σ H D.rt
theorem ps_ret (he : PE X e te) : PS X (.Return (some e) pos) (tRet te) := by
 intro QlP s σ H D I h
 exact wpAny_Return_some (thn (he QlP s σ H _ I h) fun v s1 ⟨x, H1, I1, r1, q1⟩ => ⟨x, σ, H1, I1, r1, q1⟩)
def tRetN : TS := fun D _ H => D.rt .non H
theorem ps_retN : PS X (.Return none pos) tRetN := fun _ _ σ H _ I h => wpAny_Return_none ⟨.non, σ, H, I, rfl, h⟩
def tIfS (c : TT) (t u : TS) : TS := fun D σ H => c σ H fun b H1 => if b = true then t D σ H1 else u D σ H1
theorem ps_if {c : Expr} {a b : List Stmt} {tc : TT} (hc : PT X c tc) (ha : PSs X a t) (hb : PSs X b u) : PS X (.If c a b pos) (tIfS tc t u) := by
 intro QlP s σ H D I h
 refine wpAny_If (thn (hc QlP s σ H _ I h) fun d s1 ⟨H1, I1, q1⟩ => ?_)
 cases d with
 | true => exact ha QlP s1 σ H1 D I1 q1
 | false => exact hb QlP s1 σ H1 D I1 q1
end
abbrev TG := V->St->Hp->(St->Hp->Prop)->Prop
abbrev TGs := List V->St->Hp->(St->Hp->Prop)->Prop
def PG (X : Cx) (target : Expr) (t : TG) : Prop :=
 ∀ (QlP : List (Addr × Obj)) (s : Shared) (σ : St) (H : Hp) (v : V) (u : Value) (Q : St->Hp->Prop), Inv X QlP σ H s->aq v u->t v σ H Q ->
  wpAny (model X.prog X.w) X.A (assign target X.env u) (fun _ s' => ∃ σ' H', Inv X QlP σ' H' s'/\Q σ' H') X.xe s
def PGs (X : Cx) (ts : List Expr) (t : TGs) : Prop :=
 ∀ (QlP : List (Addr × Obj)) (s : Shared) (σ : St) (H : Hp) (vs : List V) (us : List Value) (Q : St->Hp->Prop), Inv X QlP σ H s->bb vs us->t vs σ H Q ->
  wpAny (model X.prog X.w) X.A (assignInOrder ((assignEach ts X.env).map (·.2)) us) (fun _ s' => ∃ σ' H', Inv X QlP σ' H' s'/\Q σ' H') X.xe s
abbrev yn := V->V->V->Hp->(Hp->Prop)->Prop
def PSet (X : Cx) (t : yn) : Prop :=
 ∀ (QlP : List (Addr × Obj)) (s : Shared) (σ : St) (H : Hp) (o i v : V) (ov iv u : Value) (Q : Hp->Prop), Inv X QlP σ H s->aq o ov->aq i iv->aq v u->t o i v H Q ->
  wpAny (model X.prog X.w) X.A (setItem ov iv u) (fun _ s' => ∃ H', Inv X QlP σ H' s'/\Q H') X.xe s
section
variable {X : Cx} {pos : Pos}
def jm (i : Nat) : TG := fun v σ H Q => Q (σ.set i (some v)) H
theorem zz {i : Nat} {x : Str} (hN : X.N.Nodup) (hi : X.N[i]? = some x) (hx : Loc X.env.scope x) (hf : X.fn x = true\/X.env.scope.names.lookup x = some .local := by first | exact .inl rfl | exact .inr rfl | assumption) : PG X (.Name x pos) (jm i) := by
 intro QlP s σ H v u Q I r h
 exact wpAny_assign_Name (wx I hN hi hx r (fun s' I' => ⟨_, H, I', h⟩) hf)
def gNil : TGs := fun vs σ H Q => vs = []/\Q σ H
def gCons (t : TG) (u : TGs) : TGs := fun vs σ H Q => ∃ v r, vs = v :: r/\t v σ H fun σ' H' => u r σ' H' Q
theorem Qbl : PGs X [] gNil := by
 intro QlP s σ H vs us Q I r h
 obtain ⟨e, h⟩ := h
 subst e
 cases r
 exact assignInOrder_nil ⟨σ, H, I, h⟩
theorem qu {e : Expr} {es : List Expr} {t : TG} {u : TGs} (h1 : PG X e t) (h2 : PGs X es u)
  (hs : (assignEach (e :: es) X.env).map (·.2) = assign e X.env :: (assignEach es X.env).map (·.2) := by rfl) : PGs X (e :: es) (gCons t u) := by
 intro QlP s σ H vs us Q I r h
 obtain ⟨v, vr, e1, h⟩ := h
 subst e1
 cases r with
 | cons r rr =>
  rw [hs]
  refine assignInOrder_cons (thn (h1 QlP s σ H _ _ _ I r h) fun _ s1 ⟨σ1, H1, I1, q1⟩ => ?_)
  exact h2 QlP s1 σ1 H1 _ _ Q I1 rr q1
def gTup (K : PySem.W.Frag) (n : Nat) (t : TGs) : TG := fun v σ H Q => ∃ a xs, v = .ref a/\SqT K H a xs/\xs.length = n/\t xs σ H Q
theorem QbJ {es : List Expr} {k : Nat} {t : TGs} {n : Nat} (hc : X.calm = true) (h : PGs X es t)
  (hn : (assignEach es X.env).length = n := by rfl) (hst : (assignEach es X.env).findIdx? (·.1) = none := by rfl) : PG X (.Tuple es k pos) (gTup X.K n t) := by
 intro QlP s σ H v u Q I r hw
 obtain ⟨a, xs, e1, hq, hl, hw⟩ := hw
 subst e1
 cases r
 obtain ⟨its, rv, ht, hz⟩ := I.tuple hq
 refine assign_Tuple_tuple (I.ok.hd hc) ht (by simp [hn, <-hl, rv.length]) hst fun h' hx => ?_
 have I1 : Inv X QlP σ H { s with heap := h' } := I.kept (t' := s.toks) fun b o e => hx b o (Qme (QlV e)) e
 exact h QlP _ σ H xs _ Q I1 (by simpa using rv) hw
def gSub (to ti : TE) (t : yn) : TG := fun v σ H Q => to σ H fun o H1 => ti σ H1 fun i H2 => t o i v H2 fun H3 => Q σ H3
theorem pg_sub {o i : Expr} {to ti : TE} {t : yn} (ho : PE X o to) (hi : PE X i ti) (hs : PSet X t)
  (ha : ∀ v, assign (.Subscript o i pos) X.env v = (do
   let ov <-holding [v] (eval o X.env)
   let iv <-holding [v, ov] (eval i X.env)
   standAt pos
   holding [v, ov, iv] (setItem ov iv v)
   release [v, ov, iv] []) := by intro _; rfl) : PG X (.Subscript o i pos) (gSub to ti t) := by
 intro QlP s σ H v u Q I r h
 rw [ha]
 refine Qmn (wpAny_holding (thn (ho QlP s σ H _ I h) fun ov s1 ⟨x, H1, I1, r1, q1⟩ => ?_))
 refine Qmn (wpAny_holding (thn (hi QlP s1 σ H1 _ I1 q1) fun iv s2 ⟨y, H2, I2, r2, q2⟩ => ?_))
 refine Qmn (wpAny_standAt (Qmn (wpAny_holding (thn (hs QlP s2 σ H2 x y v ov iv u _ I2 r1 r2 r q2) fun _ s3 ⟨H3, I3, q3⟩ => ?_))))
 exact wpAny_release ⟨σ, H3, I3, q3⟩
def qa (te : TE) (g : TG) : TS := fun D σ H => te σ H fun x H1 => g x σ H1 D.nx
theorem ps_asg {tg e : Expr} {te : TE} {g : TG} (he : PE X e te) (hg : PG X tg g) (hs : swapsWithSole [tg] e pos.line X.env = pure false := by rfl) (hw : swappedStores [tg] e X.env = pure none := by rfl)
  (h1 : (assignEach [tg] X.env).map (·.2) = [assign tg X.env] := by rfl) : PS X (.Assign [tg] e pos) (qa te g) := by
 intro QlP s σ H D I h
 refine wpAny_Assign_stores (thn (he QlP s σ H _ I h) fun v s1 ⟨x, H1, I1, r1, q1⟩ => ?_) hs hw
 rw [h1]
 exact thn (hg QlP s1 σ H1 x v _ I1 r1 q1) fun _ s2 q => q
theorem ps_set {i : Nat} {x : Str} {e : Expr} {te : TE} {pos' : Pos} (hN : X.N.Nodup) (hi : X.N[i]? = some x) (hx : Loc X.env.scope x) (he : PE X e te) (hs : swapsWith e (some (.Name x pos')) pos.line X.env = pure false := by rfl) (hf : X.fn x = true\/X.env.scope.names.lookup x = some .local := by first | exact .inl rfl | exact .inr rfl | assumption) :
  PS X (.Assign [.Name x pos'] e pos) (qa te (jm i)) := by
 intro QlP s σ H D I h
 refine wpAny_Assign_Name (thn (he QlP s σ H _ I h) fun v s1 ⟨y, H1, I1, r1, q1⟩ => ?_) hs
 exact wx I1 hN hi hx r1 (fun s2 I2 => ⟨_, H1, I2, q1⟩) hf
end
section
variable {X : Cx} {pos : Pos}
end
structure It where
 go : Nat->Hp->Prop
 yld : Nat->Hp->V->Hp->Prop
 stop : Nat->Hp->Prop
def fj (X : Cx) (QlP : List (Addr × Obj)) (H : Hp) (b : Addr) : Prop :=
 H b = none/\b ≠ X.env.locals/\b ∉ X.fs/\(b ∈ X.ex\/X.s₀.heap.objs.size<=b)/\(∀ x c, X.env.cells.lookup x = some c->c ≠ b)/\∀ p ∈ X.pn ++ QlP, p.1 ≠ b
theorem Inv.fpOk {X : Cx} {QlP : List (Addr × Obj)} {σ : St} {H H' : Hp} {s : Shared} {b : Addr} (I : Inv X QlP σ H s) (hb : s.heap.objs.size<=b) (hn : H' b = none) : fj X QlP H' b := by
 refine ⟨hn, Nat.ne_of_gt (Qmb I.lt hb), I.nofs hb, .inr (Qmh I.sz hb), fun x c e z => ?_, fun p hp z => ?_⟩
 ·obtain ⟨v, q⟩ := I.cell x c e
  exact absurd (Qmb q.lt (by rw [z]; exact hb)) (Qmk _)
 ·exact absurd (Qmb (QlV (I.pin p hp).1) (by rw [z]; exact hb)) (Qmk _)
structure Turn (P : Program) (w : World) (K : PySem.W.Frag) (tg : Expr) (J : It) (fp : List Addr) (it : Addr) (tn : Nat->Heap->Prop) : Prop where
 mem : it ∈ fp
 obj : ∀ i h, tn i h->∀ b ∈ fp, ∃ o, h.get? b = some o/\∀ v, o.data ≠ .cell v
 keep : ∀ i h h', tn i h->(∀ b ∈ fp, ∀ o, h.get? b = some o->h'.get? b = some o)->tn i h'
 item : ∀ (X : Cx), X.prog = P->X.w = w->X.K = K->X.calm = true->∀ (i : Nat) (QlP : List (Addr × Obj)) (s : Shared) (σ : St) (H : Hp) (E : Value->Shared->Prop), Inv X QlP σ H s->(∀ b ∈ fp, fj X QlP H b)->tn i s.heap->J.go i H ->
  wpAny (model P w) X.A (pyNext (.ref it)) (fun r s1 => ∃ u, r = some u /\
   wpAny (model P w) X.A (letOwnedTupleGo tg (.ref it) u) (fun _ s2 => ∃ x H', Inv X QlP σ H' s2/\aq x u/\J.yld i H x H'/\tn (i + 1) s2.heap/\∀ b ∈ fp, H' b = none) E s1) E s
 done : ∀ (X : Cx), X.prog = P->X.w = w->X.K = K->X.calm = true->∀ (i : Nat) (QlP : List (Addr × Obj)) (s : Shared) (σ : St) (H : Hp) (E : Value->Shared->Prop), Inv X QlP σ H s->(∀ b ∈ fp, fj X QlP H b)->tn i s.heap->J.stop i H ->
  wpAny (model P w) X.A (pyNext (.ref it)) (fun r s1 => r = none/\Inv X QlP σ H s1) E s
 self : ∀ (A : Around) (i : Nat) (s : Shared) (Q : Value->Shared->Prop) (E : Value->Shared->Prop), tn i s.heap->Q (.ref it) s->wpAny (model P w) A (pyIter (.ref it)) Q E s
abbrev TI := St->Hp->(It->Hp->Prop)->Prop
def PIE (X : Cx) (QlP : List (Addr × Obj)) (σ : St) (tg : Expr) (R : It->Hp->Prop) (itv : Value) (s2 : Shared) : Prop :=
 ∃ (it : Addr) (fp : List Addr) (tn : Nat->Heap->Prop) (J : It) (H' : Hp), itv = .ref it/\Inv X QlP σ H' s2/\Turn X.prog X.w X.K tg J fp it tn/\tn 0 s2.heap/\(∀ b ∈ fp, fj X QlP H' b)/\R J H'
def PI (X : Cx) (tg iter : Expr) (wi : TI) : Prop :=
 ∀ (QlP : List (Addr × Obj)) (s : Shared) (σ : St) (H : Hp) (R : It->Hp->Prop), Inv X QlP σ H s->wi σ H R ->
  wpAny (model X.prog X.w) X.A (eval iter X.env) (fun v s1 => wpAny (model X.prog X.w) X.A (pyIter v) (PIE X QlP σ tg R) X.xe s1) X.xe s
theorem Qcb {M : Model} {A : Around} {E : Value->Shared->Prop} {s : Shared} {tg : Expr} {it : Addr} {u : Value} {o : Obj} {n : String} {vs : Array Value} {Q : Unit->Shared->Prop} (ho : s.heap.get? it = some o) (hc : o.cls = .type n) (hd : o.data = .fields vs)
    (hn : ["enumerate", "zip", "dict_itemiterator", "dict_reverseitemiterator", "odict_iterator", "itertools.zip_longest", "itertools.pairwise"].contains n = false) (hQ : Q () s) : wpAny M A (letOwnedTupleGo tg (.ref it) u) Q E s := by
  unfold letOwnedTupleGo
  cases tg <;> first
    | exact Qmr hQ
    | (cases u <;> first
        | exact Qmr hQ
        | (refine Qmn (wpAny_load ho ?_)
           rw [hc, hd]
           show wpAny M A (if (["enumerate", "zip", "dict_itemiterator", "dict_reverseitemiterator", "odict_iterator", "itertools.zip_longest", "itertools.pairwise"].contains n && vs[0]? == some (rawInt _)) = true then _ else _) Q E s
           rw [Qmp (by intro h; rw [hn, Bool.false_and] at h; cases h)]
           exact Qmr hQ))
def Itl (K : PySem.W.Frag) (a : Addr) : It :=
 ⟨fun i H => ∃ xs x, SqL K H a xs/\xs[i]? = some x, fun i H x H' => H' = H/\∀ xs, SqL K H a xs->xs[i]? = some x, fun i H => ∃ xs, SqL K H a xs/\xs.length<=i⟩
def Itt (K : PySem.W.Frag) (a : Addr) : It :=
 ⟨fun i H => ∃ xs x, SqT K H a xs/\xs[i]? = some x, fun i H x H' => H' = H/\∀ xs, SqT K H a xs->xs[i]? = some x, fun i H => ∃ xs, SqT K H a xs/\xs.length<=i⟩
def Itr (lo : Int) (n : Nat) : It := ⟨fun i _ => i < n, fun i H x H' => H' = H/\x = .int (lo + i), fun i _ => n<=i⟩
theorem QdH {P : Program} {w : World} {K : PySem.W.Frag} {tg : Expr} (a it : Addr) : Turn P w K tg (Itl K a) [it] it (fun i h => h.IsListIter it a i) where
 mem := by simp
 obj := fun i h st b hb => by
  have e : b = it := by simpa using hb
  subst e
  obtain ⟨o, e, c, d⟩ := st
  exact ⟨o, e, fun v z => by rw [d] at z; cases z⟩
 keep := fun i h h' st k => st.at fun o e => k it (by simp) o e
 item := by
  intro X hP hw hK hc i QlP s σ H E I hf st hg
  subst hP hw hK
  obtain ⟨xs, x, hq, hx⟩ := hg
  obtain ⟨its, rv, p, hz⟩ := I.list hq
  obtain ⟨u, hu, ru⟩ := rv.get hx
  obtain ⟨f0, f1, f2, f3, f4, f5⟩ := hf it (by simp)
  refine wpAny_pyNext_list_item st p.isList (x := u) (by simpa using hu) fun h' st' sb => ?_
  have I1 : Inv X QlP σ H { s with heap := h' } := I.turned (t' := s.toks) (fun b o hb e => (sb.2 b hb).trans e) f0 f1 f3 f4 f5
  obtain ⟨o, e, c, d⟩ := id st'
  exact ⟨u, rfl, Qcb (s := { s with heap := h' }) e c d (by decide) ⟨x, H, I1, ru, ⟨rfl, fun ys hy => by rw [I.list_inj hy hq]; exact hx⟩, st', fun b hb => (hf b hb).1⟩⟩
 done := by
  intro X hP hw hK hc i QlP s σ H E I hf st hg
  subst hP hw hK
  obtain ⟨xs, hq, hx⟩ := hg
  obtain ⟨its, rv, p, hz⟩ := I.list hq
  obtain ⟨f0, f1, f2, f3, f4, f5⟩ := hf it (by simp)
  have hl := rv.length
  exact wpAny_pyNext_list_end (I.ok.hd hc) st p.isList (by simp; omega) fun h' eb => ⟨rfl, I.turned (t' := s.toks) (fun b o hb e => eb b o hb e) f0 f1 f3 f4 f5⟩
 self := fun _ _ _ _ _ st h => wpAny_pyIter_listiter st h
theorem Qix {P : Program} {w : World} {K : PySem.W.Frag} {tg : Expr} (a it : Addr) : Turn P w K tg (Itt K a) [it] it (fun i h => h.IsTupleIter it a i) where
 mem := by simp
 obj := fun i h st b hb => by
  have e : b = it := by simpa using hb
  subst e
  obtain ⟨o, e, c, d⟩ := st
  exact ⟨o, e, fun v z => by rw [d] at z; cases z⟩
 keep := fun i h h' st k => st.at fun o e => k it (by simp) o e
 item := by
  intro X hP hw hK hc i QlP s σ H E I hf st hg
  subst hP hw hK
  obtain ⟨xs, x, hq, hx⟩ := hg
  obtain ⟨its, rv, p, hz⟩ := I.tuple hq
  obtain ⟨u, hu, ru⟩ := rv.get hx
  obtain ⟨f0, f1, f2, f3, f4, f5⟩ := hf it (by simp)
  refine wpAny_pyNext_tuple_item st (show s.heap.IsTuple a its.toArray from p) (x := u) (by simpa using hu) fun h' st' sb => ?_
  have I1 : Inv X QlP σ H { s with heap := h' } := I.turned (t' := s.toks) (fun b o hb e => (sb.2 b hb).trans e) f0 f1 f3 f4 f5
  obtain ⟨o, e, c, d⟩ := id st'
  exact ⟨u, rfl, Qcb (s := { s with heap := h' }) e c d (by decide) ⟨x, H, I1, ru, ⟨rfl, fun ys hy => by rw [I.tuple_inj hy hq]; exact hx⟩, st', fun b hb => (hf b hb).1⟩⟩
 done := by
  intro X hP hw hK hc i QlP s σ H E I hf st hg
  subst hP hw hK
  obtain ⟨xs, hq, hx⟩ := hg
  obtain ⟨its, rv, p, hz⟩ := I.tuple hq
  obtain ⟨f0, f1, f2, f3, f4, f5⟩ := hf it (by simp)
  have hl := rv.length
  exact wpAny_pyNext_tuple_end (I.ok.hd hc) st (show s.heap.IsTuple a its.toArray from p) (by simp; omega) fun h' eb => ⟨rfl, I.turned (t' := s.toks) (fun b o hb e => eb b o hb e) f0 f1 f3 f4 f5⟩
 self := fun _ _ _ _ _ st h => wpAny_pyIter_tupleiter st h
theorem Qiy {P : Program} {w : World} {K : PySem.W.Frag} {tg : Expr} (it : Addr) (lo : Int) (n : Nat) : Turn P w K tg (Itr lo n) [it] it (fun i h => IsRangeIter h it (lo + (i : Nat) * 1) ((n : Int) - (i : Nat)) 1) where
 mem := by simp
 obj := fun i h st b hb => by
  have e : b = it := by simpa using hb
  subst e
  exact ⟨_, st, fun v z => by
   have z' : Data.fields _ = Data.cell v := z
   cases z'⟩
 keep := fun i h h' st k => k it (by simp) _ st
 item := by
  intro X hP hw hK hc i QlP s σ H E I hf st hg
  subst hP hw hK
  obtain ⟨f0, f1, f2, f3, f4, f5⟩ := hf it (by simp)
  have W := Walks.range (prog := X.prog) (w := X.w) (I.ok.hd hc) it lo 1 n
  refine W.item i s _ _ hg st fun v h' tk hv st' kk => ?_
  obtain ⟨t, rfl⟩ := hv
  have I1 : Inv X QlP σ H { s with heap := h', toks := tk } := I.turned (fun b o hb e => kk b o (by simpa using hb) e) f0 f1 f3 f4 f5
  refine ⟨_, rfl, Qcb (s := { s with heap := h', toks := tk }) (n := "range_iterator") st' rfl rfl (by decide) ⟨.int (lo + i), H, I1, ⟨t, ?_⟩, ⟨rfl, rfl⟩, st', fun b hb => (hf b hb).1⟩⟩
  rw [Int.mul_one]
 done := by
  intro X hP hw hK hc i QlP s σ H E I hf st hg
  subst hP hw hK
  obtain ⟨f0, f1, f2, f3, f4, f5⟩ := hf it (by simp)
  exact wpAny_pyNext_range_end (I.ok.hd hc) st (by have : n<=i := hg; omega) fun h' eb => ⟨rfl, I.turned (t' := s.toks) (fun b o hb e => eb b o hb e) f0 f1 f3 f4 f5⟩
 self := fun _ _ _ _ _ st h => wpAny_pyIter_rangeiter st h
section
variable {X : Cx} {tg : Expr}
def iList (K : PySem.W.Frag) (tl : TE) : TI := fun σ H R => tl σ H fun x H1 => ∃ a, x = .ref a/\(∃ xs, SqL K H1 a xs)/\R (Itl K a) H1
theorem Qft {l : Expr} {tl : TE} (hl : PE X l tl) : PI X tg l (iList X.K tl) := by
 intro QlP s σ H R I h
 refine thn (hl QlP s σ H _ I h) fun v s1 ⟨x, H1, I1, r1, q1⟩ => ?_
 obtain ⟨a, e, ⟨xs, hq⟩, q⟩ := q1
 subst e
 cases r1
 obtain ⟨its, rv, p, hz⟩ := I1.list hq
 refine wpAny_pyIter_list p.isList ?_
 refine ⟨s1.heap.objs.size, [s1.heap.objs.size], _, _, H1, rfl, I1.kept (t' := s1.toks) fun b o e => QlS _ e, QdH a _, ⟨_, Qmd _ rfl, rfl, rfl⟩, fun b hb => ?_, q⟩
 have e : b = s1.heap.objs.size := by simpa using hb
 subst e
 exact I1.fpOk (QlX _) (I1.hok.fresh (QlX _))
theorem Qex {QlP : List (Addr × Obj)} {σ : St} {H : Hp} {s : Shared} {R : It->Hp->Prop} {E : Value->Shared->Prop} {lo hi : Int} {t u v : Tok} {tk : Nat} (I : Inv X QlP σ H s) (h1 : -(2 ^ 62)<=lo) (h2 : lo < 2 ^ 62) (h3 : -(2 ^ 62)<=hi) (h4 : hi < 2 ^ 62)
  (q : R (Itr lo (hi - lo).toNat) H) : wpAny (model X.prog X.w) X.A (pyIter (.ref s.heap.objs.size)) (PIE X QlP σ tg R) E { s with heap := s.heap.push { cls := .type "range", data := .fields #[.int lo t, .int hi u, .int 1 v] }, toks := tk } := by
 refine wpAny_pyIter_range (IsRange.new ..) (small_one h1 h2 h3 h4) ?_
 have I1 : Inv X QlP σ H { s with heap := s.heap.push { cls := .type "range", data := .fields #[.int lo t, .int hi u, .int 1 v] }, toks := tk } := I.kept fun b o e => QlS _ e
 refine ⟨(s.heap.push { cls := .type "range", data := .fields #[.int lo t, .int hi u, .int 1 v] }).objs.size, [(s.heap.push { cls := .type "range", data := .fields #[.int lo t, .int hi u, .int 1 v] }).objs.size], _, _, H, rfl,
  I1.kept (t' := tk) fun b o e => QlS _ e, Qiy _ lo (hi - lo).toNat, ?_, fun b hb => ?_, q⟩
 ·have e1 : lo + ((0 : Nat) : Int) * 1 = lo := by simp
  have e2 : (((hi - lo).toNat : Nat) : Int) - ((0 : Nat) : Int) = Builtin.Range.rangeSize lo hi 1 := by rw [rangeSize_one]; split <;> omega
  show IsRangeIter _ _ (lo + ((0 : Nat) : Int) * 1) ((((hi - lo).toNat : Nat) : Int) - ((0 : Nat) : Int)) 1
  rw [e1, e2]
  exact Qmd _ rfl
 ·have e : b = (s.heap.push { cls := .type "range", data := .fields #[.int lo t, .int hi u, .int 1 v] }).objs.size := by simpa using hb
  subst e
  exact I1.fpOk (QlX _) (I1.hok.fresh (QlX _))
def iRng1 (ta : TA) : TI := fun σ H R => ta σ H fun vs H1 => ∃ j : Int, vs = [.int j]/\-(2 ^ 62)<=j/\j < 2 ^ 62/\R (Itr 0 j.toNat) H1
def iRng2 (ta : TA) : TI := fun σ H R => ta σ H fun vs H1 => ∃ i j : Int, vs = [.int i, .int j]/\(-(2 ^ 62)<=i/\i < 2 ^ 62/\-(2 ^ 62)<=j/\j < 2 ^ 62)/\R (Itr i (j - i).toNat) H1
theorem Qjy {a : Expr} {ta : TA} {p pos : Pos} (hg : Gl X "range") (hm : X.mg "range" = none) (ha : PA X [a] ta) (hs : starEach [a] X.env = [(false, eval a X.env)] := by rfl) : PI X tg (.Call (.Name "range" p) [a] [] pos) (iRng1 ta) := by
 intro QlP s σ H R I h
 refine Call_ (sj I hg hm boot_range (PyProof.Rows.callWith_type1 (thn (ha pos QlP s σ H _ I h) fun us s1 ⟨vs, H1, I1, r1, q1⟩ => ?_) hs rfl))
 obtain ⟨j, e, q1, q2, q⟩ := q1
 subst e
 cases r1 with
 | cons r rr =>
  cases rr
  obtain ⟨t, rfl⟩ := r
  exact call_range_1 (Qex I1 (by omega) (by omega) q1 q2 (by simpa using q))
theorem Qjx {a b : Expr} {ta : TA} {p pos : Pos} (hg : Gl X "range") (hm : X.mg "range" = none) (ha : PA X [a, b] ta) (hs : starEach [a, b] X.env = [(false, eval a X.env), (false, eval b X.env)] := by rfl) (hs2 : starEach [b] X.env = [(false, eval b X.env)] := by rfl) :
  PI X tg (.Call (.Name "range" p) [a, b] [] pos) (iRng2 ta) := by
 intro QlP s σ H R I h
 refine Call_ (sj I hg hm boot_range (PyProof.Rows.callWith_type1 (thn (ha pos QlP s σ H _ I h) fun us s1 ⟨vs, H1, I1, r1, q1⟩ => ?_) (by rw [hs, hs2]) (by rw [hs2]; rfl)))
 obtain ⟨i, j, e, ⟨q1, q2, q3, q4⟩, q⟩ := q1
 subst e
 cases r1 with
 | cons r rr =>
  cases rr with
  | cons r' rr =>
   cases rr
   obtain ⟨t, rfl⟩ := r
   obtain ⟨t', rfl⟩ := r'
   exact call_range_2 (Qex I1 q1 q2 q3 q4 q)
def tFor (wi : TI) (g : TG) (tb : TS) : TS := fun D σ H => wi σ H fun J H1 => ∃ W : Nat->Nat->St->Hp->Prop, (∃ m, W 0 m σ H1)/\∀ i m σ H, W i m σ H ->
 (J.stop i H/\D.nx σ H)\/(J.go i H/\∃ N : St->Hp->Prop, (∀ σ' H', N σ' H'->∃ m', m' < m/\W (i + 1) m' σ' H')/\∀ x H', J.yld i H x H'->g x σ H' fun σ2 H2 => tb { D with nx := N, ct := N, bk := D.nx } σ2 H2)
def sf (fp : List Addr) (h : Heap) : List (Addr × Obj) := fp.filterMap fun b => (h.get? b).map fun o => (b, o)
theorem qk {fp : List Addr} {h : Heap} {b : Addr} {o : Obj} (hb : b ∈ fp) (e : h.get? b = some o) : (b, o) ∈ sf fp h := List.mem_filterMap.mpr ⟨b, hb, by rw [e]; rfl⟩
theorem QjL {fp : List Addr} {h : Heap} {p : Addr × Obj} (hp : p ∈ sf fp h) : p.1 ∈ fp/\h.get? p.1 = some p.2 := by
 obtain ⟨b, hb, e⟩ := List.mem_filterMap.mp hp
 cases q : h.get? b with
 | none => rw [q] at e; cases e
 | some o =>
  rw [q] at e
  have e' : (b, o) = p := Qmu e
  subst e'
  exact ⟨hb, q⟩
theorem Inv.pinned {QlP : List (Addr × Obj)} {σ : St} {H : Hp} {s : Shared} {fp : List Addr} (I : Inv X QlP σ H s) (hf : ∀ b ∈ fp, fj X QlP H b) (ho : ∀ b ∈ fp, ∃ o, s.heap.get? b = some o/\∀ v, o.data ≠ .cell v) : Inv X (QlP ++ sf fp s.heap) σ H s :=
 I.pins_of fun p hp => (List.mem_append.mp hp).elim (fun z => I.pin p (QlT _ z)) fun z => by
  obtain ⟨hb, e⟩ := QjL z
  obtain ⟨f0, f1, f2, _⟩ := hf p.1 hb
  obtain ⟨o, e', d⟩ := ho p.1 hb
  rw [e] at e'; cases e'
  exact ⟨e, f0, f1, f2, d⟩
theorem Inv.unpinned {QlP pl : List (Addr × Obj)} {σ : St} {H : Hp} {s : Shared} (I : Inv X (QlP ++ pl) σ H s) : Inv X QlP σ H s := I.pins_of fun p hp => I.pin p (QlT _ (List.mem_append_left _ hp))
theorem QbH {iter : Expr} {body : List Stmt} {wi : TI} {g : TG} {tb : TS} {pos : Pos} (hp : PassesOwn (model X.prog X.w) X.A X.env X.xe) (hc : X.calm = true) (hi : PI X tg iter wi) (hg : PG X tg g) (hb : PSs X body tb)
  (hs : ∀ x, foldedSetIterable iter X.env x = pure x := by intro _; rfl) : PS X (.For tg iter body [] pos) (tFor wi g tb) := by
 intro QlP s σ H D I h
 refine wpAny_For (thn (hi QlP s σ H _ I h) fun v s1 h1 => thn h1 fun itv s2 h2 => ?_) hs
 obtain ⟨it, fp, tn, J, H2, e, I2, T, st2, f2, W, ⟨m0, w0⟩, turn⟩ := h2
 subst e
 have stat : ∀ {H' : Hp}, (∀ b ∈ fp, H' b = none)->∀ b ∈ fp, fj X QlP H' b := fun hn b hb => ⟨hn b hb, (f2 b hb).2⟩
 refine codeAny_forLoop_any (fun n s' => ∃ i σ' H', Inv X QlP σ' H' s'/\tn i s'.heap/\(∀ b ∈ fp, H' b = none)/\W i n σ' H') ?_ m0 ⟨0, σ, H2, I2, st2, fun b hb => (f2 b hb).1, w0⟩
 rintro n s3 ⟨i, σ3, H3, I3, st3, fr3, w3⟩
 rcases turn i n σ3 H3 w3 with ⟨stop, qn⟩ | ⟨go, N, hN, step⟩
 ·refine wpAny_passesOwn hp (thn (T.done X rfl rfl rfl hc i QlP s3 σ3 H3 X.xe I3 (stat fr3) st3 stop) fun r s4 ⟨hr, I4⟩ => ?_)
  subst hr
  exact wpAny_execs_nil ⟨σ3, H3, I4, qn⟩
 ·refine wpAny_passesOwn hp (thn (T.item X rfl rfl rfl hc i QlP s3 σ3 H3 X.xe I3 (stat fr3) st3 go) fun r s4 ⟨u, hr, h4⟩ => ?_)
  subst hr
  refine wpAny_passesOwn hp (thn h4 fun _ s5 ⟨x, H5, I5, r5, y5, st5, fr5⟩ => ?_)
  have I5' := I5.pinned (stat fr5) (T.obj _ _ st5)
  refine wpAny_passesOwn hp (thn (hg _ s5 σ3 H5 x u _ I5' r5 (step x H5 y5)) fun _ s6 ⟨σ6, H6, I6, q6⟩ => ?_)
  refine wpAny_passesOwn hp (thn (hb _ s6 σ6 H6 _ I6 q6) fun f s7 q7 => ?_)
  have again : ∀ {σ7 : St} {H7 : Hp}, Inv X (QlP ++ sf fp s5.heap) σ7 H7 s7->N σ7 H7->∃ m, m < n/\∃ i σ' H', Inv X QlP σ' H' s7/\tn i s7.heap/\(∀ b ∈ fp, H' b = none)/\W i m σ' H' := fun {σ7 H7} I7 n7 => by
   obtain ⟨m', hm, w7⟩ := hN σ7 H7 n7
   refine ⟨m', hm, i + 1, σ7, H7, I7.unpinned, T.keep _ _ _ st5 fun b hb o e => (I7.pin (b, o) (QlT _ (QlT _ (qk hb e)))).1, fun b hb => ?_, w7⟩
   obtain ⟨o, e, d⟩ := T.obj _ _ st5 b hb
   exact (I7.pin (b, o) (QlT _ (QlT _ (qk hb e)))).2.1
  cases f with
  | next => obtain ⟨σ7, H7, I7, n7⟩ := q7; exact again I7 n7
  | cont => obtain ⟨σ7, H7, I7, n7⟩ := q7; exact again I7 n7
  | brk => obtain ⟨σ7, H7, I7, q7⟩ := q7; exact ⟨σ7, H7, I7.unpinned, q7⟩
  | ret v => obtain ⟨x7, σ7, H7, I7, r7, q7⟩ := q7; exact ⟨x7, σ7, H7, I7.unpinned, r7, q7⟩
end
abbrev R2 := V->V->Hp->VK->Prop
def OpR (X : Cx) (f : Value->Value->Sem Value) (r : R2) : Prop :=
 ∀ (QlP : List (Addr × Obj)) (s : Shared) (σ : St) (H : Hp) (x y : V) (v u : Value) (Q : VK), Inv X QlP σ H s->aq x v->aq y u->r x y H Q ->
  wpAny (model X.prog X.w) X.A (f v u) (EP X QlP σ Q) X.xe s
def UnR (X : Cx) (f : Value->Sem Value) (r : V->Hp->VK->Prop) : Prop :=
 ∀ (QlP : List (Addr × Obj)) (s : Shared) (σ : St) (H : Hp) (x : V) (v : Value) (Q : VK), Inv X QlP σ H s->aq x v->r x H Q ->
  wpAny (model X.prog X.w) X.A (f v) (EP X QlP σ Q) X.xe s
def ls (X : Cx) (f : Value) (r : List V->Hp->VK->Prop) : Prop :=
 ∀ (QlP : List (Addr × Obj)) (s : Shared) (σ : St) (H : Hp) (xs : List V) (us : List Value) (Q : VK), Inv X QlP σ H s->bb xs us->r xs H Q ->
  wpAny (model X.prog X.w) X.A (call f us) (EP X QlP σ Q) X.xe s
def tOp (r : R2) (ta tb : TE) : TE := fun σ H Q => ta σ H fun x H1 => tb σ H1 fun y H2 => r x y H2 Q
def tUn (r : V->Hp->VK->Prop) (ta : TE) : TE := fun σ H Q => ta σ H fun x H1 => r x H1 Q
def rI (C : Int->Int->Prop) (g : Int->Int->V) : R2 := fun x y H Q => ∃ i j, x = .int i/\y = .int j/\C i j/\Q (g i j) H
def rI0 (g : Int->Int->V) : R2 := fun x y H Q => ∃ i j, x = .int i/\y = .int j/\Q (g i j) H
def rU (g : Int->V) : V->Hp->VK->Prop := fun x H Q => ∃ i, x = .int i/\Q (g i) H
section
variable {X : Cx} {a b c : Expr} {ta tb tc : TE} {pos : Pos}
theorem binT (ha : PE X a ta) (hb : PE X b tb) {QlP : List (Addr × Obj)} {s : Shared} {σ : St} {H : Hp} {R : V->V->Hp->Prop} (I : Inv X QlP σ H s)
  (h : ta σ H fun x H1 => tb σ H1 fun y H2 => R x y H2) {Q : Value->Shared->Prop} {f : Value->Value->Sem Value}
  (hf : ∀ v u s2 x y H2, Inv X QlP σ H2 s2->aq x v->aq y u->R x y H2->wpAny (model X.prog X.w) X.A (f v u) Q X.xe s2) :
  wpAny (model X.prog X.w) X.A (eval a X.env) (fun v s₁ => wpAny (model X.prog X.w) X.A (eval b X.env) (fun u s₂ => wpAny (model X.prog X.w) X.A (f v u) Q X.xe s₂) X.xe s₁) X.xe s := by
 refine thn (ha QlP s σ H _ I h) fun v s1 ⟨x, H1, I1, r1, q1⟩ => ?_
 refine thn (hb QlP s1 σ H1 _ I1 q1) fun u s2 ⟨y, H2, I2, r2, q2⟩ => ?_
 exact hf v u s2 x y H2 I2 r1 r2 q2
theorem pe_op {op : Operator} {r : R2} (ho : OpR X (binaryOp op) r) (ha : PE X a ta) (hb : PE X b tb) : PE X (.BinOp a op b pos) (tOp r ta tb) := by
 intro QlP s σ H Q I h
 exact wpAny_BinOp (binT ha hb I h fun v u s2 x y H2 I2 rx ry q => ho QlP s2 σ H2 x y v u Q I2 rx ry q)
theorem pe_un {op : UnaryOp} {r : V->Hp->VK->Prop} (ho : UnR X (unaryOp op) r) (ha : PE X a ta) : PE X (.UnaryOp op a pos) (tUn r ta) := by
 intro QlP s σ H Q I h
 exact UnaryOp_ (thn (ha QlP s σ H _ I h) fun v s1 ⟨x, H1, I1, r1, q1⟩ => ho QlP s1 σ H1 x v Q I1 r1 q1)
theorem opI {f : Value->Value->Sem Value} {C : Int->Int->Prop} {g : Int->Int->Int}
  (rule : ∀ (i j : Int) (t u : Tok) (s : Shared) (Q : Value->Shared->Prop) (E : Value->Shared->Prop), C i j->Q (.int (g i j) s.toks) { s with toks := s.toks + 1 }->wpAny (model X.prog X.w) X.A (f (.int i t) (.int j u)) Q E s) :
  OpR X f (rI C fun i j => .int (g i j)) := by
 intro QlP s σ H x y v u Q I rx ry h
 obtain ⟨i, j, rfl, rfl, hc, q⟩ := h
 obtain ⟨t, rfl⟩ := rx
 obtain ⟨t', rfl⟩ := ry
 exact rule i j t t' s _ _ hc ⟨.int (g i j), H, I.tok _, ⟨_, rfl⟩, q⟩
theorem opI0 {f : Value->Value->Sem Value} {g : Int->Int->Int}
  (rule : ∀ (i j : Int) (t u : Tok) (s : Shared) (Q : Value->Shared->Prop) (E : Value->Shared->Prop), Q (.int (g i j) s.toks) { s with toks := s.toks + 1 }->wpAny (model X.prog X.w) X.A (f (.int i t) (.int j u)) Q E s) :
  OpR X f (rI0 fun i j => .int (g i j)) := by
 intro QlP s σ H x y v u Q I rx ry h
 obtain ⟨i, j, rfl, rfl, q⟩ := h
 obtain ⟨t, rfl⟩ := rx
 obtain ⟨t', rfl⟩ := ry
 exact rule i j t t' s _ _ ⟨.int (g i j), H, I.tok _, ⟨_, rfl⟩, q⟩
theorem opB0 {f : Value->Value->Sem Value} {g : Int->Int->Bool}
  (rule : ∀ (i j : Int) (t u : Tok) (s : Shared) (Q : Value->Shared->Prop) (E : Value->Shared->Prop), Q (.bool (g i j)) s->wpAny (model X.prog X.w) X.A (f (.int i t) (.int j u)) Q E s) :
  OpR X f (rI0 fun i j => .bl (g i j)) := by
 intro QlP s σ H x y v u Q I rx ry h
 obtain ⟨i, j, rfl, rfl, q⟩ := h
 obtain ⟨t, rfl⟩ := rx
 obtain ⟨t', rfl⟩ := ry
 exact rule i j t t' s _ _ ⟨.bl (g i j), H, I, rfl, q⟩
def CDiv (i j : Int) : Prop := 0 < j/\j < 1073741824
def qc (i j : Int) : Prop := (-(2 ^ 64) < i/\i < 2 ^ 64)\/(-(2 ^ 64) < j/\j < 2 ^ 64)
theorem qc.ok {i j : Int} (h : qc i j) : IntMulOk i j := by
 rcases h with ⟨h1, h2⟩ | ⟨h1, h2⟩
 ·exact .of_left (intBits_le_64 h1 h2)
 ·exact .of_right (intBits_le_64 h1 h2)
theorem op_add : OpR X (binaryOp .Add) (rI0 fun i j => .int (i + j)) := opI0 fun _ _ _ _ _ _ _ q => add_int q
theorem op_sub : OpR X (binaryOp .Sub) (rI0 fun i j => .int (i - j)) := opI0 fun _ _ _ _ _ _ _ q => sub_int q
theorem op_mul : OpR X (binaryOp .Mult) (rI qc fun i j => .int (i * j)) := opI fun _ _ _ _ _ _ _ hc q => mul_int q hc.ok
theorem op_fdiv : OpR X (binaryOp .FloorDiv) (rI CDiv fun i j => .int (i / j)) := opI fun i j _ _ _ _ _ hc q => by
 have h1 : (0 : Int) < j := hc.1
 have h2 : j < 1073741824 := hc.2
 exact floordiv_int (by omega) (by rw [Int.fdiv_eq_ediv_of_nonneg i (by omega)]; exact q) (.inl (PyProof.noPylong_small (by omega)))
theorem op_mod : OpR X (binaryOp .Mod) (rI (fun _ j => 0 < j) fun i j => .int (i % j)) := opI fun i j _ _ _ _ _ hc q => by
 have h1 : (0 : Int) < j := hc
 exact mod_int' (by omega) (by rw [Int.fmod_eq_emod_of_nonneg i (by omega)]; exact q)
theorem unI {f : Value->Sem Value} {g : Int->Int}
  (rule : ∀ (i : Int) (t : Tok) (s : Shared) (Q : Value->Shared->Prop) (E : Value->Shared->Prop), Q (.int (g i) s.toks) { s with toks := s.toks + 1 }->wpAny (model X.prog X.w) X.A (f (.int i t)) Q E s) :
  UnR X f (rU fun i => .int (g i)) := by
 intro QlP s σ H x v Q I rx h
 obtain ⟨i, rfl, q⟩ := h
 obtain ⟨t, rfl⟩ := rx
 exact rule i t s _ _ ⟨.int (g i), H, I.tok _, ⟨_, rfl⟩, q⟩
theorem un_neg : UnR X (unaryOp .USub) (rU fun i => .int (-i)) := unI fun _ _ _ _ _ q => neg_int q
end
section
variable {X : Cx} {a b c : Expr} {ta tb tc : TE} {pos : Pos}
theorem Qgt {QlP : List (Addr × Obj)} {σ : St} {H : Hp} {s : Shared} {Q : VK} {k k' : Bool} (I : Inv X QlP σ H s) (q : Q (.bl k) H) (e : k = k') : EP X QlP σ Q (.bool k') s := by
 subst e
 exact ⟨.bl k, H, I, rfl, q⟩
theorem op_lt : OpR X (compareOp .Lt) (rI0 fun i j => .bl (decide (i < j))) := opB0 fun _ _ _ _ _ _ _ q => lt_int q
theorem op_le : OpR X (compareOp .LtE) (rI0 fun i j => .bl (decide (i<=j))) := opB0 fun _ _ _ _ _ _ _ q => le_int q
theorem op_gt : OpR X (compareOp .Gt) (rI0 fun i j => .bl (decide (j < i))) := opB0 fun _ _ _ _ _ _ _ q => gt_int q
theorem QjJ : OpR X (compareOp .Lt) (fun x y H Q => ∃ i j, x = .str i/\y = .str j/\Q (.bl (decide (i.cps.toList < j.cps.toList))) H) := by
 intro QlP s σ H x y v u Q I rx ry h
 obtain ⟨i, j, rfl, rfl, q⟩ := h
 obtain ⟨t, rfl⟩ := rx
 obtain ⟨t', rfl⟩ := ry
 exact lt_str (Qgt I q rfl)
theorem QjK : OpR X (compareOp .In) (fun x y H Q => ∃ i j, x = .str i/\y = .str j/\Q (.bl (!(Builtin.Str.occurrences j i 0 j.length 1).isEmpty)) H) := by
 intro QlP s σ H x y v u Q I rx ry h
 obtain ⟨i, j, rfl, rfl, q⟩ := h
 obtain ⟨t, rfl⟩ := rx
 obtain ⟨t', rfl⟩ := ry
 exact in_str (Qgt I q rfl)
theorem Qfu {op : CmpOp} {r : R2} (ho : OpR X (compareOp op) r) (ha : PE X a ta) (hb : PE X b tb) (hm : behindInMarks op b = false) : PE X (.Compare a [op] [b] pos) (tOp r ta tb) := by
 intro QlP s σ H Q I h
 exact wpAny_Compare1 (binT ha hb I h fun v u s2 x y H2 I2 rx ry q => ho QlP s2 σ H2 x y v u Q I2 rx ry q) hm
def tTest (t : TE) : TT := fun σ H Q => t σ H fun x H' => ∃ k, x = .bl k/\Q k H'
theorem Qfq {op : CmpOp} {r : R2} (ho : OpR X (compareOp op) r) (ha : PE X a ta) (hb : PE X b tb) (hm : behindInMarks op b = false) : PT X (.Compare a [op] [b] pos) (tTest (tOp r ta tb)) := by
 intro QlP s σ H Q I h
 refine wpAny_isTrue_Compare1 (thn (ha QlP s σ H _ I h) fun v s1 ⟨x, H1, I1, r1, q1⟩ => thn (hb QlP s1 σ H1 _ I1 q1) fun u s2 ⟨y, H2, I2, r2, q2⟩ =>
  thn (ho QlP s2 σ H2 x y v u _ I2 r1 r2 q2) fun c s3 ⟨z, H3, I3, r3, k, e, q3⟩ => ?_) hm
 subst e
 cases r3
 exact wpAny_truthy_bool ⟨H3, I3, q3⟩
def QbE (r r' : R2) (ta tb tc : TE) : TE := fun σ H Q => ta σ H fun x H1 => tb σ H1 fun y H2 => r x y H2 fun z H3 => ∃ k, z = .bl k /\
 (if k = true then tc σ H3 fun w' H4 => r' y w' H4 Q else Q (.bl false) H3)
theorem QkS {op op' : CmpOp} {r r' : R2} (ho : OpR X (compareOp op) r) (ho' : OpR X (compareOp op') r') (ha : PE X a ta) (hb : PE X b tb) (hc : PE X c tc)
  (hm : lastMarks [op, op'] [b, c] = false := by with_unfolding_all rfl) : PE X (.Compare a [op, op'] [b, c] pos) (QbE r r' ta tb tc) := by
 intro QlP s σ H Q I h
 refine Compare_chain (thn (ha QlP s σ H _ I h) fun v s1 ⟨x, H1, I1, r1, q1⟩ => chain_link (thn (hb QlP s1 σ H1 _ I1 q1) fun u s2 ⟨y, H2, I2, r2, q2⟩ =>
  thn (ho QlP s2 σ H2 x y v u _ I2 r1 r2 q2) fun d s3 ⟨z, H3, I3, r3, k, e, q3⟩ => ?_)) hm
 subst e
 cases r3
 refine wpAny_truthy_bool ?_
 cases k with
 | false => exact ite_ff ⟨.bl false, H3, I3, rfl, q3⟩
 | true => exact ite_tt (chain_last (thn (hc QlP s3 σ H3 _ I3 q3) fun w' s4 ⟨z', H4, I4, r4, q4⟩ => ho' QlP s4 σ H4 y z' u w' Q I4 r2 r4 q4))
theorem QkH {op op' : CmpOp} {r r' : R2} (ho : OpR X (compareOp op) r) (ho' : OpR X (compareOp op') r') (ha : PE X a ta) (hb : PE X b tb) (hc : PE X c tc)
  (hm : lastMarks [op, op'] [b, c] = false := by with_unfolding_all rfl) : PT X (.Compare a [op, op'] [b, c] pos) (tTest (QbE r r' ta tb tc)) := by
 intro QlP s σ H Q I h
 refine isTrue_chain (thn (ha QlP s σ H _ I h) fun v s1 ⟨x, H1, I1, r1, q1⟩ => test_link (thn (hb QlP s1 σ H1 _ I1 q1) fun u s2 ⟨y, H2, I2, r2, q2⟩ =>
  thn (ho QlP s2 σ H2 x y v u _ I2 r1 r2 q2) fun d s3 ⟨z, H3, I3, r3, k, e, q3⟩ => ?_)) hm
 subst e
 cases r3
 refine wpAny_truthy_bool ?_
 cases k with
 | false =>
  obtain ⟨k', e', q'⟩ := q3
  cases e'
  exact ite_ff ⟨H3, I3, q'⟩
 | true =>
  refine ite_tt (test_last (thn (hc QlP s3 σ H3 _ I3 q3) fun w' s4 ⟨z', H4, I4, r4, q4⟩ => thn (ho' QlP s4 σ H4 y z' u w' _ I4 r2 r4 q4) fun d' s5 ⟨z2, H5, I5, r5, k2, e2, q5⟩ => ?_))
  subst e2
  cases r5
  exact wpAny_truthy_bool ⟨H5, I5, q5⟩
theorem si : (sizeLine : Nat) < 2 ^ 63 := by rw [sizeLine_eq]; decide
theorem QiL : OpR X (binaryOp .Add) (fun x y H Q => ∃ i j, x = .str i/\y = .str j/\i.length + j.length<=sizeLine/\Q (.str (i ++ j)) H) := by
 intro QlP s σ H x y v u Q I rx ry h
 obtain ⟨i, j, rfl, rfl, hz, q⟩ := h
 obtain ⟨t, rfl⟩ := rx
 obtain ⟨t', rfl⟩ := ry
 exact add_str (fun t' tk => ⟨.str (i ++ j), H, I.tok _, ⟨_, rfl⟩, q⟩) hz
theorem pj {x : V} {us : List Value} (r : bb [x] us) : ∃ u, us = [u]/\aq x u := by
 cases r with
 | cons r1 r2 => cases r2; exact ⟨_, rfl, r1⟩
theorem Qef : ls X (.type "int") (fun xs H Q => (∃ i, xs = [.int i]/\Q (.int i) H)\/∃ k, xs = [.bl k]/\Q (.int (if k then 1 else 0)) H) := by
 intro QlP s σ H xs us Q I r h
 rcases h with ⟨i, rfl, q⟩ | ⟨k, rfl, q⟩
 ·obtain ⟨u, rfl, t, rfl⟩ := pj r
  exact call_int_int ⟨.int i, H, I, ⟨_, rfl⟩, q⟩
 ·obtain ⟨u, rfl, r1⟩ := pj r
  cases r1
  exact call_int_bool ⟨.int (if k then 1 else 0), H, I.tok _, ⟨_, rfl⟩, q⟩
end
section
variable {prog : Program} {w : World} {A : Around} {E : Value->Shared->Prop} {s : Shared} {K : PySem.W.Frag} {x dx C f : Addr} {mA : Str->Option Value} {name : Str} {v : Value}
end
theorem jo.some_of {v : V} {o : Option Value} (r : jo (some v) o) : ∃ u, o = some u/\aq v u := by
 cases o with
 | none => exact (show False from r).elim
 | some u => exact ⟨u, rfl, r⟩
section
variable {P : Program} {w : World} {H H' : Hp} {h h' : Heap} {a C dx : Addr} {fs fs' : List (Str × V)}
end
section
variable {X : Cx} {QlP : List (Addr × Obj)} {σ : St} {H : Hp} {s : Shared} {a C dx : Addr} {fs : List (Str × V)} {f : Str} {v : V} {A : Around} {E : Value->Shared->Prop}
end
section
variable {X : Cx} {o e value : Expr} {f : Str} {pos pos' tpos : Pos} {ta tv : TE}
end
section
variable {X : Cx} {QlP : List (Addr × Obj)} {σ : St} {H : Hp} {s : Shared} {A : Around} {E : Value->Shared->Prop} {Q : Value->Shared->Prop} {c : Value} {b : Bool}
end
structure Room (k : Nat) (A : Around) : Prop where
 hd : A.handled = none
 dp : A.depth + 3 * k + 5 < recursionLimit
 un : A.units + 16 * k + 200 < cLine
theorem Room.mono {j k : Nat} {A : Around} (r : Room k A) (h : j<=k) : Room j A := ⟨r.hd, by have := r.dp; omega, by have := r.un; omega⟩
theorem Room.deeper {k : Nat} {A : Around} (r : Room (k + 1) A) (env : Env) : Room k (A.deeper env) :=
 ⟨r.hd, by have := r.dp; show A.depth + 1 + 3 * k + 5 < _; omega, by have := r.un; show A.units + 3 + 16 * k + 200 < _; omega⟩
theorem Room.depth {k : Nat} {A : Around} (r : Room k A) : A.depth < recursionLimit := by have := r.dp; omega
def tNil : TA := fun _ H Q => Q [] H
def tCons (ta : TE) (tr : TA) : TA := fun σ H Q => ta σ H fun x H1 => tr σ H1 fun xs H2 => Q (x :: xs) H2
section
variable {X : Cx} {e : Expr} {es : List Expr} {te : TE} {t : TA} {pos : Pos}
theorem Qgk : PA X [] tNil := fun _ _ _ _ H Q I h => Calls.spliced_nil ⟨[], H, I, .nil, h⟩
theorem Qbn (ha : PE X e te) (hr : PA X es t) (hs : starEach (e :: es) X.env = (false, eval e X.env) :: starEach es X.env := by rfl) : PA X (e :: es) (tCons te t) := by
 intro pos QlP s σ H Q I h
 rw [hs]
 show wpAny _ _ (spliced ((false, eval e X.env) :: backTo pos (starEach es X.env))) _ _ s
 refine Calls.spliced_cons (thn (ha QlP s σ H _ I h) fun u s1 ⟨x, H1, I1, r1, q1⟩ => ?_)
 exact thn (hr pos QlP s1 σ H1 _ I1 q1) fun us s2 ⟨xs, H2, I2, r2, q2⟩ => ⟨x :: xs, H2, I2, .cons r1 r2, q2⟩
def tTup (t : TA) : TE := fun σ H Q => t σ H fun xs H1 => xs.length<=sizeLine/\∀ p, H1 p = none->Q (.ref p) (upd H1 p (.tup xs))
def tLst (t : TA) : TE := fun σ H Q => t σ H fun xs H1 => xs.length<=sizeLine/\∀ p, H1 p = none->Q (.ref p) (upd H1 p (.lst xs))
theorem pe_tup {x1} (h : PA X es t) : PE X (.Tuple es x1 pos) (tTup t) := by
 intro QlP s σ H Q I hq
 refine wpAny_Tuple_spliced (thn (h pos QlP s σ H _ I hq) fun us s1 ⟨xs, H1, I1, r, z, q⟩ => ⟨by rw [<-r.length]; exact z, ?_⟩)
 have hf : H1 s1.heap.objs.size = none := I1.hok.fresh (QlX _)
 refine ⟨.ref s1.heap.objs.size, upd H1 s1.heap.objs.size (.tup xs), I1.laid (t' := s1.toks) (fun b u e => QlS _ e) (QlX _) ?_, rfl, q _ hf⟩
 exact ⟨z, us, r, ⟨_, Qmd _ rfl, rfl, _, rfl⟩⟩
theorem Qgi (h : PA X es t) : PE X (.List es pos) (tLst t) := by
 intro QlP s σ H Q I hq
 refine wpAny_List_spliced (thn (h pos QlP s σ H _ I hq) fun us s1 ⟨xs, H1, I1, r, z, q⟩ => ⟨by rw [<-r.length]; exact z, ?_⟩)
 have hf : H1 s1.heap.objs.size = none := I1.hok.fresh (QlX _)
 refine ⟨.ref s1.heap.objs.size, upd H1 s1.heap.objs.size (.lst xs), I1.laid (t' := s1.toks) (fun b u e => QlS _ e) (QlX _) ?_, rfl, q _ hf⟩
 exact ⟨z, us, 0, r, Qmd _ rfl⟩
end
abbrev Sp := List V->Hp->VK->XK->Prop
abbrev CXT := List Env->Hp->Shared->XK->Value->Shared->Prop
structure Env0 (P : Program) (w : World) (K : PySem.W.Frag) (mg : Str->Option Value) (base : Heap) (A : Around) (outer : List Env) (s : Shared) (H : Hp) : Prop where
 frames : A.frames = some outer
 mod : Mod K mg base
 bs : ∀ b o, base.get? b = some o->s.heap.get? b = some o/\H b = none
 bsz : base.objs.size<=s.heap.objs.size
 funs : s.heap.FunFrames base outer
 frf : ∀ b ∈ frs outer, H b = none
 hok : HOk P w H s.heap
 bare : AllBare s.gens
def CE (outer : List Env) (P : Program) (w : World) (H : Hp) (s : Shared) (Q : VK) (u : Value) (s' : Shared) : Prop :=
 ∃ v H', s'.os = s.os/\AllBare s'.gens/\Un (frs outer) [] H H' s.heap s'.heap/\HOk P w H' s'.heap/\aq v u/\Q v H'
def CR (CX : CXT) (outer : List Env) (P : Program) (w : World) (H : Hp) (s : Shared) (Q : VK) (E : XK) (r : Result) (s' : Shared) : Prop :=
 match r with
 | .ok (.ret u) => CE outer P w H s Q u s'
 | .ok _ => False
 | .error e => CX outer H s E e s'
structure FnOk (P : Program) (w : World) (K : PySem.W.Frag) (mg : Str->Option Value) (base : Heap) (CX : CXT) (k : Nat) (f : Addr) (fd : FuncData) (ps : List Str) (sp : Sp) : Prop where
 len : ∀ vs H Q E, sp vs H Q E->vs.length = ps.length
 run : ∀ (A : Around) (outer : List Env) (s : Shared) (H : Hp) (args : Args) (us : List Value) (vs : List V) (Q : VK) (E : XK), Room k A->Env0 P w K mg base A outer s H->BindsTo s fd args (ps.zip us)->bb vs us->sp vs H Q E ->
  codeAny (model P w) A (.call (.ref f) args) (CR CX outer P w H s Q E) s
theorem FnOk.mono {P : Program} {w : World} {K : PySem.W.Frag} {mg : Str->Option Value} {base : Heap} {CX : CXT} {j k : Nat} {f : Addr} {fd : FuncData} {ps : List Str} {sp : Sp} (F : FnOk P w K mg base CX j f fd ps sp) (h : j<=k) :
  FnOk P w K mg base CX k f fd ps sp := ⟨F.len, fun A outer s H args us vs Q E hr => F.run A outer s H args us vs Q E (hr.mono h)⟩
section
variable {X : Cx} {QlP : List (Addr × Obj)} {σ : St} {H : Hp} {s s' : Shared}
theorem Inv.env0 (I : Inv X QlP σ H s) : Env0 X.prog X.w X.K X.mg X.base X.A X.stack s H :=
 ⟨I.ok.frames, I.ok.mod, I.bs, Qmh I.ok.bsz I.sz, I.stack, I.stkFree, I.hok, I.bare⟩
theorem Inv.after {Q : VK} {u : Value} (I : Inv X QlP σ H s) (h : CE X.stack X.prog X.w H s Q u s') : EP X QlP σ Q u s' := by
 obtain ⟨v, H', os, bare, un, hok, r, q⟩ := h
 obtain ⟨hh, g, d, t, os'⟩ := s'
 obtain rfl : os' = s.os := os
 exact ⟨v, H', I.call (h' := hh) (g' := g) (d' := d) (t' := t) (ch := []) un hok bare (fun b z => absurd z (by simp)), r, q⟩
end
def tCall (sp : Sp) (dvs : List V) (E : XK) (t : TA) : TE := fun σ H Q => t σ H fun vs H1 => sp (vs ++ dvs) H1 Q E
def fv (K : PySem.W.Frag) (fd : FuncData) (ps : List Str) (ds : List Value) : Prop :=
 ∀ (s : Shared) (us : List Value), K.In s.heap->(us ++ ds).length = ps.length->BindsTo s fd ⟨us, []⟩ (ps.zip (us ++ ds))
theorem fv.all {K : PySem.W.Frag} {fd : FuncData} {ps : List Str} (h : ∀ us : List Value, us.length = ps.length->bindArgs fd ⟨us, []⟩ = pure (ps.zip us)) : fv K fd ps [] := fun s us _ hl => by
 rw [List.append_nil] at hl ⊢
 exact .of_eq (h us hl)
def yd (CX : CXT) (X : Cx) (E : XK) : Prop := ∀ (QlP : List (Addr × Obj)) (σ : St) (H : Hp) (s : Shared) (e : Value) (s' : Shared), Inv X QlP σ H s->CX X.stack H s E e s'->X.xe e s'
section
variable {X : Cx} {CX : CXT} {k : Nat} {f C : Addr} {fd : FuncData} {ps : List Str} {sp : Sp} {dvs : List V} {ds : List Value} {E : XK} {x m : Str} {p pos apos : Pos} {e o : Expr} {es : List Expr} {ta : TE} {t : TA}
theorem run_fn {QlP : List (Addr × Obj)} {σ : St} {H : Hp} {s : Shared} {Q : VK} {us : List Value} {vs : List V} (F : FnOk X.prog X.w X.K X.mg X.base CX k f fd ps sp) (hr : Room k X.A) (hb : fv X.K fd ps ds) (hd : bb dvs ds) (hx : yd CX X E)
  (I : Inv X QlP σ H s) (r : bb vs us) (h : sp (vs ++ dvs) H Q E) : wpAny (model X.prog X.w) X.A (call (.ref f) us) (EP X QlP σ Q) X.xe s := by
 have r2 : bb (vs ++ dvs) (us ++ ds) := r.append hd
 have hl : (us ++ ds).length = ps.length := by rw [<-r2.length]; exact F.len _ _ _ _ h
 refine wpAny_call (codeAny_mono (F.run X.A X.stack s H ⟨us, []⟩ (us ++ ds) (vs ++ dvs) Q E hr I.env0 (hb s us I.kIn hl) r2 h) fun r s' hq => ?_)
 cases r with
 | error e => exact hx QlP σ H s e s' I hq
 | ok fl =>
  cases fl with
  | ret u => exact I.after hq
  | next => exact False.elim hq
  | brk => exact False.elim hq
  | cont => exact False.elim hq
theorem pe_call (F : FnOk X.prog X.w X.K X.mg X.base CX k f fd ps sp) (hr : Room k X.A) (hg : Gl X x) (hm : X.mg x = some (.ref f)) (hk : PySem.W.keepIn X.K (.ref f) = true) (hb : fv X.K fd ps ds) (hd : bb dvs ds) (hx : yd CX X E)
  (ha : PA X (e :: es) t) (hdb : (x == ("__debug__" : Str)) = false := by decide) (he : starEach (e :: es) X.env = (false, eval e X.env) :: starEach es X.env := by rfl) (hpl : (backTo pos (starEach es X.env)).any (·.1) = false := by rfl) :
  PE X (.Call (.Name x p) (e :: es) [] pos) (tCall sp dvs E t) := by
 intro QlP s σ H Q I h
 refine wpAny_Call_Name_kw (xm I hg hm ?_ hdb)
 refine PySem.W.callWith_K (h₀ := X.base) I.ok.mod.kin hk (thn (ha pos QlP s σ H _ I h) fun us s1 ⟨vs, H1, I1, r, q⟩ => ⟨I1.kIn, ?_⟩) he hpl
 exact run_fn F hr hb hd hx I1 r q
end
section
variable {X : Cx} {CX : CXT} {k : Nat} {f C : Addr} {fd : FuncData} {ps ks : List Str} {sp : Sp} {E : XK} {x m : Str} {p pos apos kpos : Pos} {e o : Expr} {es : List Expr} {kws : List Keyword} {te ta : TE} {t tk : TA} {nm : Option Str}
variable {g : List Value->List Value->List Value} {gV : List V->List V->List V}
end
structure FnScope (N P : List Str) (sc : Scope) : Prop where
 kind : sc.kind = .function
 co : sc.isCoroutine = false
 gen : sc.isGenerator = false
 nd : N.Nodup
 pre : N.take P.length = P
 par : ∀ x ∈ P, sc.names.lookup x = some .local\/sc.names.lookup x = some .cell
 nofree : ∀ y ∈ sc.names, y.2 ≠ .free
theorem Qeh {kindOf : Str->Option NameKind} {x : Str} : ∀ {binds : List (Str × Value)} {m : Str->Option Value}, (∀ v, (x, v) ∉ binds)->bindL kindOf binds m x = m x
 | [], _, _ => rfl
 | (n, v) :: r, m, h => by
  unfold bindL
  rw [Qeh fun w hw => h w (QlZ _ hw)]
  split
  ·have : x ≠ n := by rintro rfl; exact h v QlU
   simp [this]
  ·rfl
theorem Qej {kindOf : Str->Option NameKind} {x : Str} : ∀ {binds : List (Str × Value)} {m : Str->Option Value}, (∀ v, (x, v) ∉ binds)->bindC kindOf binds m x = m x
 | [], _, _ => rfl
 | (n, v) :: r, m, h => by
  unfold bindC
  rw [Qej fun w hw => h w (QlZ _ hw)]
  split
  ·rfl
  ·have : x ≠ n := by rintro rfl; exact h v QlU
   simp [this]
theorem Qei {kindOf : Str->Option NameKind} {x : Str} {v : Value} : ∀ {P : List Str} {vs : List Value} {i : Nat} {m : Str->Option Value}, P.Nodup->P[i]? = some x->vs[i]? = some v->kindOf x = some .local ->
  bindL kindOf (P.zip vs) m x = some v
 | [], _, _, _, _, h, _, _ => by simp at h
 | _ :: _, [], _, _, _, _, h, _ => by simp at h
 | p :: P, w :: vs, 0, m, nd, h1, h2, hk => by
  simp at h1 h2; subst h1; subst h2
  show bindL kindOf ((p, w) :: P.zip vs) m p = _
  unfold bindL
  rw [Qeh fun v hv => (List.nodup_cons.mp nd).1 (List.of_mem_zip hv).1, Qmo hk]
  simp
 | p :: P, w :: vs, i + 1, m, nd, h1, h2, hk => by
  show bindL kindOf ((p, w) :: P.zip vs) m x = _
  unfold bindL
  exact Qei (i := i) (List.nodup_cons.mp nd).2 (by simpa using h1) (by simpa using h2) hk
theorem Qek {kindOf : Str->Option NameKind} {x : Str} {v : Value} : ∀ {P : List Str} {vs : List Value} {i : Nat} {m : Str->Option Value}, P.Nodup->P[i]? = some x->vs[i]? = some v->kindOf x ≠ some .local ->
  bindC kindOf (P.zip vs) m x = some v
 | [], _, _, _, _, h, _, _ => by simp at h
 | _ :: _, [], _, _, _, _, h, _ => by simp at h
 | p :: P, w :: vs, 0, m, nd, h1, h2, hk => by
  simp at h1 h2; subst h1; subst h2
  show bindC kindOf ((p, w) :: P.zip vs) m p = _
  unfold bindC
  rw [Qej fun v hv => (List.nodup_cons.mp nd).1 (List.of_mem_zip hv).1, Qmp hk]
  simp
 | p :: P, w :: vs, i + 1, m, nd, h1, h2, hk => by
  show bindC kindOf ((p, w) :: P.zip vs) m x = _
  unfold bindC
  exact Qek (i := i) (List.nodup_cons.mp nd).2 (by simpa using h1) (by simpa using h2) hk
def start (N : List Str) (vs : List V) : St := vs.map some ++ List.replicate (N.length - vs.length) none
def nb (CX : CXT) (P : Program) (w : World) (K : PySem.W.Frag) (mg : Str->Option Value) (base : Heap) (N : List Str) (qual : Str) (scope : Scope) (f : Addr) (cd : Value) (A : Around) (outer : List Env) (s : Shared) (H : Hp) (E : XK) : Cx where
 prog := P
 w := w
 K := K
 mg := mg
 base := base
 A := A.deeper (envOfC qual scope s.heap.objs.size f cd)
 N := N
 s₀ := s
 H₀ := H
 env := envOfC qual scope s.heap.objs.size f cd
 outer := outer
 stack := envOfC qual scope s.heap.objs.size f cd :: outer
 ex := []
 calm := true
 fn := fun _ => true
 pn := []
 xe := fun e s' => wpAny (model P w) (A.deeper (envOfC qual scope s.heap.objs.size f cd)) (leaving (envOfC qual scope s.heap.objs.size f cd) e) (fun _ s'' => CX outer H s E e s'') (fun e' s'' => CX outer H s E e' s'') s'
theorem QeV {sc : Scope} {n : Nat} {x : Str} (h : sc.names.lookup x = some .cell) : ∃ c, (cellsFrom n sc.names []).lookup x = some c := by
 have q := PySem.W.cellsFrom_some sc.names n [] (.inl h)
 exact Option.isSome_iff_exists.mp q
theorem QdS {CX : CXT} {P : Program} {w : World} {K : PySem.W.Frag} {mg : Str->Option Value} {base : Heap} {N ps : List Str} {qual : Str} {scope : Scope} {f : Addr} {cd : Value} {A : Around} {outer : List Env} {s s1 : Shared} {H : Hp} {E : XK} {us : List Value} {vs : List V}
  (S : FnScope N ps scope) (hd : A.handled = none) (e0 : Env0 P w K mg base A outer s H) (hl : vs.length = ps.length) (r : bb vs us)
  (x : InCallC s s.heap.objs.size (bindL (envOfC qual scope s.heap.objs.size f cd).kindOf (ps.zip us) fun _ => none) (cellsFrom (s.heap.objs.size + 1) scope.names []) (bindC (envOfC qual scope s.heap.objs.size f cd).kindOf (ps.zip us) fun _ => none) s1) :
  Inv (nb CX P w K mg base N qual scope f cd A outer s H E) [] (start N vs) H s1 := by
 have hpl : ps.length<=N.length := by have := congrArg List.length S.pre; rw [List.length_take] at this; omega
 obtain ⟨h1, tk, rfl, hk⟩ := x.done
 have noA : ∀ b : Addr, b ∉ (nb CX P w K mg base N qual scope f cd A outer s H E).ex := fun b z => absurd (show b ∈ ([] : List Addr) from z) (by simp)
 refine ⟨⟨e0.mod, S.kind, rfl, rfl, QlX _, fun y z c h1 h2 => ?_, fun y hy => ?_, fun y c _ h => ?_, fun _ => hd, Around.frames_deeper e0.frames, .inr ⟨rfl, rfl⟩, fun b z => absurd z (noA b), e0.bs, e0.bsz, fun b _ _ => noA b, fun b z => absurd z (noA b), e0.funs, e0.frf⟩,
  rfl, e0.bare, Un.kept hk, ⟨_, x.toInCall.ns, fun i y v h1 h2 h3 => ?_⟩, fun y c h => ⟨_, x.cell y c h⟩, e0.hok.fresh (QlX _), fun y c h => ?_, fun p hp => absurd (show p ∈ ([] : List (Addr × Obj)) from hp) (by simp), e0.hok.kept hk, ?_⟩
 ·exact name_of_addr x.apart (PySem.mem_of_lookup h1) (PySem.mem_of_lookup h2)
 ·have hy : scope.names.lookup y = some .cell\/scope.names.lookup y = some .free := hy
  rcases hy with hy | hy
  ·exact QeV hy
  ·exact absurd rfl (S.nofree _ (PySem.mem_of_lookup hy))
 ·exact Nat.le_of_lt (x.above y c (PySem.mem_of_lookup h))
 ·have hi : i < vs.length := by
   unfold start at h2
   by_cases hi : i < vs.length
   ·exact hi
   ·rw [List.getElem?_append_right (by simpa using hi)] at h2
    rw [List.getElem?_replicate] at h2
    split at h2 <;> cases h2
  have ha : vs[i]? = some v := by
   unfold start at h2
   rw [List.getElem?_append_left (by simpa using hi), Qmf] at h2
   cases e : vs[i]? with
   | none => rw [e] at h2; cases h2
   | some a => rw [e] at h2; cases h2; rfl
  obtain ⟨u, hu, rv⟩ := r.get ha
  have hp : ps[i]? = some y := by
   rw [<-S.pre, List.getElem?_take_of_lt (by omega)]; exact h1
  have ndP : ps.Nodup := by rw [<-S.pre]; exact S.nd.sublist (List.take_sublist _ _)
  refine ⟨u, rv, ?_⟩
  rcases S.par y (List.mem_of_getElem? hp) with k | k
  ·exact .inl ⟨k, Qei ndP hp hu k⟩
  ·obtain ⟨c, e⟩ := QeV (n := s.heap.objs.size + 1) k
   refine .inr ⟨.inl k, c, e, ?_⟩
   have q := x.cell y c e
   rw [Qek ndP hp hu (by show scope.names.lookup y ≠ _; rw [k]; decide)] at q
   exact q
 ·exact e0.hok.fresh (Nat.le_of_lt (x.above y c (PySem.mem_of_lookup h)))
 ·unfold start
  show _ = N.length
  rw [Qma, QlY, List.length_replicate]
  omega
theorem fn_of {CX : CXT} {P : Program} {w : World} {K : PySem.W.Frag} {mg : Str->Option Value} {base : Heap} {k : Nat} {f : Addr} {name qual : Str} {params : Arguments} {body : List Stmt} {scope : Scope} {dV kV doc pm cdv ct oc : Value} {an od : Option Addr}
  {osl : Array (Option Value)} {N ps : List Str} {sp : Sp} (lk : K.lookup f = some ⟨oc, od, .func (PySem.W.fnOf name qual params body scope dV kV doc pm an cdv ct), osl⟩) (hcd : PySem.W.codeIn K cdv qual = true) (S : FnScope N ps scope)
  (len : ∀ vs H Q E, sp vs H Q E->vs.length = ps.length)
  (hbody : ∀ (A : Around) (outer : List Env) (s : Shared) (H : Hp) (vs : List V) (Q : VK) (E : XK), Room k (A.deeper (envOfC qual scope s.heap.objs.size f cdv))->sp vs H Q E ->
   ∃ t, PSs (nb CX P w K mg base N qual scope f cdv A outer s H E) body t/\t { nx := fun _ H' => Q .non H', rt := Q } (start N vs) H) :
  FnOk P w K mg base CX (k + 1) f (PySem.W.fnOf name qual params body scope dV kV doc pm an cdv ct) ps sp := by
 refine ⟨len, fun A outer s H args us vs Q E hr e0 hb r hsp => ?_⟩
 have hl := len _ _ _ _ hsp
 have KX : K.In s.heap := e0.mod.kin.keeps fun b o e => (e0.bs b o e).1
 have lim : s.heap.NoLimit := e0.mod.nolimit.keeps fun b o e => (e0.bs b o e).1
 have hkind : ∀ y ∈ ps.zip us, scope.names.lookup y.1 = some .local\/(scope.names.lookup y.1 = some .cell/\((cellsFrom (s.heap.objs.size + 1) scope.names []).lookup y.1).isSome = true) := fun ⟨n, v⟩ hy => by
  rcases S.par n (List.of_mem_zip hy).1 with q | q
  ·exact .inl q
  ·exact .inr ⟨q, PySem.W.cellsFrom_some _ _ _ (.inl q)⟩
 refine codeAny_call_function hr.depth (KX _ _ lk) rfl S.co S.gen rfl (PySem.W.codeRec_of KX hcd) (hb _ _ _ _ ?_)
 refine wpAny_newFunctionEnv_cells S.kind hkind fun env he s1 x => ?_
 subst he
 refine ⟨lim.keeps x.toInCall.keep, codeAny_func ?_⟩
 obtain ⟨t, ht, hq⟩ := hbody A outer s H vs Q E (hr.deeper _) hsp
 have I : Inv (nb CX P w K mg base N qual scope f cdv A outer s H E) [] (start N vs) H s1 := QdS S hr.hd e0 hl r x
 refine Qmt (ht [] s1 (start N vs) H _ I hq) (fun fl s' hs => ?_) fun e s' hs => hs
 have fin : ∀ {σ' : St} {H' : Hp} {v : V} {u : Value}, Inv (nb CX P w K mg base N qual scope f cdv A outer s H E) [] σ' H' s'->aq v u->Q v H'->CE outer P w H s Q u s' :=
  fun {σ' H' v u} J rv q => ⟨v, H', J.os, J.bare, J.base, J.hok, rv, q⟩
 cases fl with
 | ret u =>
  obtain ⟨v, σ', H', J, rv, q⟩ := hs
  exact fin J rv q
 | next =>
  obtain ⟨σ', H', J, q⟩ := hs
  exact fin (v := V.non) (u := Value.none) J rfl q
 | brk =>
  obtain ⟨_, _, _, q⟩ := hs
  exact False.elim q
 | cont =>
  obtain ⟨_, _, _, q⟩ := hs
  exact False.elim q
section
variable {X : Cx} {x : Str} {p pos : Pos} {e : Expr} {es : List Expr} {t : TA} {id T : String} {r : List V->Hp->VK->Prop}
def tCB (r : List V->Hp->VK->Prop) (t : TA) : TE := fun σ H Q => t σ H fun vs H1 => r vs H1 Q
theorem QeA (hc : ls X (.builtin id) r) (hg : Gl X x) (hm : X.mg x = none) (hv : bootBuiltins x = some (.builtin id)) (ha : PA X (e :: es) t) (hn : x ≠ "__name__" := by decide) (hdb : (x == ("__debug__" : Str)) = false := by decide)
  (he : starEach (e :: es) X.env = (false, eval e X.env) :: starEach es X.env := by rfl) (hpl : (backTo pos (starEach es X.env)).any (·.1) = false := by rfl) : PE X (.Call (.Name x p) (e :: es) [] pos) (tCB r t) := by
 intro QlP s σ H Q I h
 refine wpAny_Call_Name_kw (sj I hg hm hv ?_ hn hdb)
 exact PyProof.Rows.callWith_builtin1 (thn (ha pos QlP s σ H _ I h) fun us s1 ⟨vs, H1, I1, r1, q1⟩ => hc QlP s1 σ H1 vs us Q I1 r1 q1) he hpl
theorem Qjz (hc : ls X (.type T) r) (hg : Gl X x) (hm : X.mg x = none) (hv : bootBuiltins x = some (.type T)) (ha : PA X (e :: es) t) (hn : x ≠ "__name__" := by decide) (hdb : (x == ("__debug__" : Str)) = false := by decide)
  (he : starEach (e :: es) X.env = (false, eval e X.env) :: starEach es X.env := by rfl) (hpl : (backTo pos (starEach es X.env)).any (·.1) = false := by rfl) : PE X (.Call (.Name x p) (e :: es) [] pos) (tCB r t) := by
 intro QlP s σ H Q I h
 refine wpAny_Call_Name_kw (sj I hg hm hv ?_ hn hdb)
 exact PyProof.Rows.callWith_type1 (thn (ha pos QlP s σ H _ I h) fun us s1 ⟨vs, H1, I1, r1, q1⟩ => hc QlP s1 σ H1 vs us Q I1 r1 q1) he hpl
end
end L2
namespace HT
open PySem PyProof.Rows
section
open PySem.SeqAt
open PySem.AutoSeq1 (wpAny_loadPart')
open PySem.MeetsSeq PySem.MeetsSeq2 PySem.MeetsSeq3
end
section
variable {prog : Program} {w : World} {A : Around} {E : Value->Shared->Prop} {s : Shared}
theorem cat_tup {t b : Addr} {vs ws : List Value} {Q : Value->Shared->Prop} (ht : IsTup s.heap t vs.toArray) (hb : IsTup s.heap b ws.toArray) (hv : vs ≠ [])
  (h1 : ws = []->Q (.ref t) s) (h2 : ws ≠ []->Q (.ref s.heap.objs.size) { s with heap := s.heap.push { cls := .type "tuple", data := .seq (vs ++ ws).toArray } })
  (hsz : vs.length + ws.length<=sizeLine) : wpAny (model prog w) A (binaryOp .Add (.ref t) (.ref b)) Q E s := by
 obtain ⟨⟨cls, dd, data, sl⟩, ho, hc, n, hd⟩ := id ht
 obtain ⟨⟨cls2, dd2, data2, sl2⟩, ho2, hc2, n2, hd2⟩ := id hb
 simp only at hc hd hc2 hd2
 subst hc hd hc2 hd2
 have e : vs.toArray ++ ws.toArray = (vs ++ ws).toArray := by simp
 by_cases hw : ws = []
 ·exact concat_meets ⟨_, ho, rfl⟩ ⟨_, ho2, rfl⟩ noFill_tuple_add seq_tuple_add PySem.F.slot_tuple_add PySem.F.entry_tuple_add (PySem.F.args_tuple_add_2 _ _)
   (tuple_addW1 t b vs.toArray ws.toArray n n2 dd dd2 sl sl2 (by simpa using hv) (by simp [hw])) ⟨ho, ho2, h1 hw⟩
 ·refine concat_meets ⟨_, ho, rfl⟩ ⟨_, ho2, rfl⟩ noFill_tuple_add seq_tuple_add PySem.F.slot_tuple_add PySem.F.entry_tuple_add (PySem.F.args_tuple_add_2 _ _)
   (tuple_addW2 t b vs.toArray ws.toArray n n2 dd dd2 sl sl2 (by simpa using hv) (by simpa using hw) (by rw [QlW, QlW]; exact hsz)) ⟨ho, ho2, ?_⟩
  rw [e]
  exact h2 hw
def sIx (n d : Nat) : Option Int->Nat
 | none => d
 | some v => if v < 0 then (v + (n : Int)).toNat else min v.toNat n
theorem sIx_none (n d : Nat) : sIx n d none = d := rfl
theorem sIx_nat (n d k : Nat) : sIx n d (some (k : Int)) = min k n := by
 show (if (k : Int) < 0 then ((k : Int) + (n : Int)).toNat else min (k : Int).toNat n) = min k n
 rw [Qmp (by omega), Int.toNat_natCast]
theorem sIx_le (n d : Nat) (hd : d<=n) (o : Option Int) : sIx n d o<=n := by
 cases o with
 | none => exact hd
 | some v =>
  show (if v < 0 then (v + (n : Int)).toNat else min v.toNat n)<=n
  by_cases hv : v < 0
  ·rw [Qmo hv]; omega
  ·rw [Qmp hv]; exact Nat.min_le_right _ _
theorem QfS (v : Int) (n d : Nat) : (if v < 0 then max (v + (n : Int)) 0 else min v (n : Int)) = ((sIx n d (some v) : Nat) : Int) := by
 show (if v < 0 then max (v + (n : Int)) 0 else min v (n : Int)) = (((if v < 0 then (v + (n : Int)).toNat else min v.toNat n) : Nat) : Int)
 by_cases hv : v < 0
 ·simp only [Qmo hv]; omega
 ·simp only [Qmp hv]; omega
theorem QiZ (lo hi : Option Int) (n : Nat) : Builtin.Slice.sliceAdjust lo hi 1 (n : Int) = (((sIx n 0 lo : Nat) : Int), ((sIx n n hi : Nat) : Int)) := by
 have h1 : ¬ ((1 : Int) < 0) := by omega
 unfold Builtin.Slice.sliceAdjust
 simp only [h1, if_false]
 refine Prod.ext ?_ ?_
 ·cases lo with
  | none => rfl
  | some v => exact QfS v n 0
 ·cases hi with
  | none => rfl
  | some v => exact QfS v n n
theorem QiG (i j : Nat) : Builtin.Slice.slicePlaces (i : Int) (j : Int) 1 = j - i := by
 unfold Builtin.Slice.slicePlaces
 have h1 : (1 : Int) > 0 := by omega
 simp only [h1, if_true, Int.ediv_one]
 split <;> omega
theorem Qdp {v : Value} {o : Option Int} {Q : Option Int->Shared->Prop} (p : IsPart v o) (h : Q o s) : wpAny (model prog w) A (Builtin.Slice.slicePartIndex v) Q E s := by
 cases p with
 | none => exact slicePart_none h
 | int i t => exact slicePart_int h
theorem sliceApplied_gen {sl : Addr} {vl vu : Value} {lo hi : Option Int} {n : Nat} {Q : Int × Int × Nat->Shared->Prop} (hs : s.heap.IsSliceOf sl vl vu .none) (pl : IsPart vl lo) (pu : IsPart vu hi)
  (h : Q (((sIx n 0 lo : Nat) : Int), 1, sIx n n hi - sIx n 0 lo) s) : wpAny (model prog w) A (Builtin.Slice.sliceApplied (.ref sl) (pure (n : Int))) Q E s := by
 obtain ⟨os, hos, hcs, hds⟩ := id hs
 unfold Builtin.Slice.sliceApplied Builtin.Slice.sliceFields
 refine Qmn (Qmn (wpAny_field hos hds (x := vl) rfl (Qmn (wpAny_field hos hds (x := vu) rfl (Qmn (wpAny_field hos hds (x := .none) rfl (Qmr ?_)))))))
 refine Qmn (slicePart_none ?_)
 show wpAny _ _ (if ((1 : Int) == 0) = true then _ else _) _ _ s
 rw [Qmp (by decide)]
 refine Qmn (Qdp pl (Qmn (Qdp pu (Qmn (Qmr ?_)))))
 show wpAny _ _ (match Builtin.Slice.sliceAdjust lo hi 1 (n : Int) with | (lo, hi) => pure (lo, (1 : Int), Builtin.Slice.slicePlaces lo hi 1)) _ _ s
 rw [QiZ lo hi n]
 show wpAny _ _ (pure (((sIx n 0 lo : Nat) : Int), (1 : Int), Builtin.Slice.slicePlaces ((sIx n 0 lo : Nat) : Int) ((sIx n n hi : Nat) : Int) 1)) _ _ s
 rw [QiG]
 exact Qmr h
theorem QkN (xs : Array Value) (i k : Nat) : ((List.range k).filterMap fun (m : Nat) => xs[((i : Int) + (m : Int) * 1).toNat]?).toArray = ((xs.toList.drop i).take k).toArray := by
 have e : (fun (m : Nat) => xs[((i : Int) + (m : Int) * 1).toNat]?) = fun m => xs[i + m]? := by
  funext m
  have : ((i : Int) + (m : Int) * 1).toNat = i + m := by omega
  rw [this]
 rw [e]
 have := pick_run xs i k
 rw [List.filterMap_map] at this
 have e2 : ((fun x => xs[x]?) ∘ fun x => i + x) = fun m => xs[i + m]? := rfl
 rw [e2] at this
 rw [this]
theorem getItem_tuple_cut {t sl : Addr} {items : Array Value} {vl vu : Value} {lo hi : Option Int} {Q : Value->Shared->Prop} (ht : IsTup s.heap t items) (hs : s.heap.IsSliceOf sl vl vu .none) (pl : IsPart vl lo) (pu : IsPart vu hi)
  (hw : ¬ (sIx items.size 0 lo = 0/\sIx items.size items.size hi = items.size))
  (h : Q (.ref s.heap.objs.size) { s with heap := s.heap.push { cls := .type "tuple", data := .seq ((items.toList.drop (sIx items.size 0 lo)).take (sIx items.size items.size hi - sIx items.size 0 lo)).toArray } })
  (hsz : items.size<=sizeLine) : wpAny (model prog w) A (getItem (.ref t) (.ref sl)) Q E s := by
 have htake : sizeOk (.seq ((items.toList.drop (sIx items.size 0 lo)).take (sIx items.size items.size hi - sIx items.size 0 lo)).toArray) := by
  show ((items.toList.drop (sIx items.size 0 lo)).take (sIx items.size items.size hi - sIx items.size 0 lo)).toArray.size<=sizeLine
  rw [QlW, List.length_take, List.length_drop, Array.length_toList]
  omega
 have hj : sIx items.size items.size hi<=items.size := sIx_le _ _ (QlX _) hi
 obtain ⟨os, hos, hcs, hds⟩ := id hs
 have hTs : s.TypeIs (.ref sl) "slice" := ⟨os, hos, hcs⟩
 unfold getItem
 try with_reducible refine wpAny_holding ?_
 first | refine Qmn (Qmr ?_) | skip
 refine Qmn (wpAny_sequenceKey ht.typeIs (by decide) ?_)
 refine Qmn (wpAny_callSpecial?_slot (name := Str.ofString "__getitem__") ht.typeIs PyProof.Rows.slot_tuple_getitem
  (wpAny_call_entry PyProof.Rows.slot_tuple_getitem ht.typeIs entry_tuple_getitem ?_ (args_tuple_getitem _ _)))
 show wpAny _ _ (Builtin.Tuple.tupleItemsOf (.ref t) >>= _) _ _ s
 refine Qmn (tupleItemsOf_ ht ?_)
 refine Qmn (wpAny_typeOf hTs ?_)
 rw [Qmo (by decide)]
 refine Qmn (sliceApplied_gen hs pl pu ?_)
 have hno : ¬ ((((sIx items.size 0 lo : Nat) : Int) == 0 && (1 : Int) == 1 && (sIx items.size items.size hi - sIx items.size 0 lo) == items.size) = true) := by
  intro q
  rw [Qmj, Qmj] at q
  have q1 : ((sIx items.size 0 lo : Nat) : Int) = 0 := eq_of_beq q.1.1
  have q2 : sIx items.size items.size hi - sIx items.size 0 lo = items.size := eq_of_beq q.2
  exact hw ⟨by omega, by omega⟩
 show wpAny _ _ (if (((sIx items.size 0 lo : Nat) : Int) == 0 && (1 : Int) == 1 && (sIx items.size items.size hi - sIx items.size 0 lo) == items.size) = true then _ else _) _ _ s
 rw [Qmp hno, QkN]
 first
  | exact Qmn (m := Builtin.Tuple.tupleExact _) (wpAny_newObj_type (Qmr ⟨_, rfl, Qmr h⟩) htake)
  | exact Qmn (m := Builtin.Tuple.tupleExact _) (wpAny_newObj_type (Qmn (Qmr (Qmr ⟨_, rfl, Qmr h⟩))) htake)
  | exact Qmn (Qmn (m := Builtin.Tuple.tupleExact _) (wpAny_newObj_type (Qmr (Qmr ⟨_, rfl, Qmr h⟩)) htake))
  | exact Qmn (Qmn (m := Builtin.Tuple.tupleExact _) (wpAny_newObj_type (Qmr ⟨_, rfl, Qmr h⟩) htake))
end
end HT
namespace L2
open PySem PySem.Spec PyProof.Rows
abbrev TO := St->Hp->(Option Int->Hp->Prop)->Prop
def PO (X : Cx) (e : Option Expr) (t : TO) : Prop :=
 ∀ (QlP : List (Addr × Obj)) (s : Shared) (σ : St) (H : Hp) (Q : Option Int->Hp->Prop), Inv X QlP σ H s->t σ H Q ->
  wpAny (model X.prog X.w) X.A (evalPart e X.env) (fun u s' => ∃ o H', Inv X QlP σ H' s'/\IsPart u o/\Q o H') X.xe s
def tNoPart : TO := fun _ H Q => Q none H
def tPart (t : TE) : TO := fun σ H Q => t σ H fun x H1 => ∃ i, x = .int i/\Q (some i) H1
section
variable {X : Cx} {e : Expr} {te : TE} {lo hi : Option Expr} {tl th : TO} {pos p2 : Pos}
theorem zy : PO X none tNoPart := by
 intro QlP s σ H Q I h
 rw [evalPart_none]
 exact Qmr ⟨none, H, I, .none, h⟩
theorem zx (h : PE X e te) : PO X (some e) (tPart te) := by
 intro QlP s σ H Q I hw
 rw [evalPart_some]
 refine thn (h QlP s σ H _ I hw) fun u s1 ⟨x, H1, I1, r1, q1⟩ => ?_
 obtain ⟨i, rfl, q⟩ := q1
 obtain ⟨t, rfl⟩ := r1
 exact ⟨some i, H1, I1, .int i t, q⟩
def SlR (X : Cx) (r : V->Option Int->Option Int->Hp->VK->Prop) : Prop :=
 ∀ (QlP : List (Addr × Obj)) (s : Shared) (σ : St) (H : Hp) (x : V) (v vl vu : Value) (lo hi : Option Int) (sl : Addr) (Q : VK), Inv X QlP σ H s->aq x v->s.heap.IsSliceOf sl vl vu .none->IsPart vl lo->IsPart vu hi->r x lo hi H Q ->
  ∃ T id, typeLookup (.type T) "__getitem__" = pure (some (.builtin id))/\s.TypeIs v T/\wpAny (model X.prog X.w) X.A (getItem v (.ref sl)) (EP X QlP σ Q) X.xe s
def tSl (r : V->Option Int->Option Int->Hp->VK->Prop) (te : TE) (tl th : TO) : TE := fun σ H Q => te σ H fun x H1 => tl σ H1 fun l H2 => th σ H2 fun u H3 => r x l u H3 Q
theorem zn {r : V->Option Int->Option Int->Hp->VK->Prop} (hr : SlR X r) (he : PE X e te) (hl : PO X lo tl) (hu : PO X hi th) : PE X (.Subscript e (.Slice lo hi none p2) pos) (tSl r te tl th) := by
 intro QlP s σ H Q I h
 refine Subscript_ (thn (he QlP s σ H _ I h) fun v s1 ⟨x, H1, I1, r1, q1⟩ => ?_)
 refine wpAny_Slice (thn (hl QlP s1 σ H1 _ I1 q1) fun vl s2 ⟨l, H2, I2, pl, q2⟩ => thn (hu QlP s2 σ H2 _ I2 q2) fun vu s3 ⟨u, H3, I3, pu, q3⟩ => ?_)
 rw [evalPart_none]
 refine Qmr ?_
 have I4 : Inv X QlP σ H3 { s3 with heap := s3.heap.push { cls := .type "slice", data := .fields #[vl, vu, .none] } } := I3.kept (t' := s3.toks) fun b ob q => QlS _ q
 obtain ⟨T, id, hT, ht, hg⟩ := hr QlP { s3 with heap := s3.heap.push { cls := .type "slice", data := .fields #[vl, vu, .none] } } σ H3 x v vl vu l u s3.heap.objs.size Q I4 r1 (Heap.IsSliceOf.new ..) pl pu q3
 show wpAny (model X.prog X.w) X.A (subscriptTail e (.Slice lo hi none p2) v (.ref s3.heap.objs.size)) (EP X QlP σ Q) X.xe { s3 with heap := s3.heap.push { cls := .type "slice", data := .fields #[vl, vu, .none] } }
 exact tail_any (ops := [.ref s3.heap.objs.size, v]) ht hT hg (by with_unfolding_all rfl)
def nc (xs : List V) (lo hi : Option Int) : List V := (xs.drop (HT.sIx xs.length 0 lo)).take (HT.sIx xs.length xs.length hi - HT.sIx xs.length 0 lo)
theorem Qda (xs : List V) (lo hi : Option Int) : (nc xs lo hi).length<=xs.length := by
 unfold nc
 rw [List.length_take, List.length_drop]
 omega
def rSlT (K : PySem.W.Frag) : V->Option Int->Option Int->Hp->VK->Prop := fun x lo hi H Q => ∃ a xs, x = .ref a/\SqT K H a xs /\
 ¬ (HT.sIx xs.length 0 lo = 0/\HT.sIx xs.length xs.length hi = xs.length)/\∀ p, H p = none->Q (.ref p) (upd H p (.tup (nc xs lo hi)))
theorem sl_tup : SlR X (rSlT X.K) := by
 intro QlP s σ H x v vl vu lo hi sl Q I rx hs pl pu h
 obtain ⟨a, xs, rfl, hx, hw, q⟩ := h
 cases rx
 obtain ⟨its, r, ht, hz⟩ := I.tuple hx
 have hlen : its.toArray.size = xs.length := by rw [QlW]; exact r.length.symm
 refine ⟨"tuple", _, PyProof.Rows.slot_tuple_getitem.lookup, ht.typeIs, ?_⟩
 refine HT.getItem_tuple_cut ht hs pl pu (by rw [hlen]; exact hw) ?_ (by rw [hlen]; exact hz)
 rw [hlen]
 refine ⟨.ref s.heap.objs.size, _, I.laid (t' := s.toks) (o := .tup (nc xs lo hi)) (fun b ob q => QlS _ q) (QlX _) ?_, rfl, q _ (I.hok.fresh (QlX _))⟩
 exact ⟨Qmh (Qda xs lo hi) hz, _, (r.drop (HT.sIx xs.length 0 lo)).take (HT.sIx xs.length xs.length hi - HT.sIx xs.length 0 lo), IsTup.new _ _⟩
def rCatT (K : PySem.W.Frag) : R2 := fun x y H Q => ∃ a b xs ys, x = .ref a/\y = .ref b/\SqT K H a xs/\SqT K H b ys/\xs ≠ []/\xs.length + ys.length<=sizeLine /\
 (ys = []->Q (.ref a) H)/\(ys ≠ []->∀ p, H p = none->Q (.ref p) (upd H p (.tup (xs ++ ys))))
theorem bb.nil_iff {xs : List V} {us : List Value} (r : bb xs us) : us = [] ↔ xs = [] := by
 cases r with
 | nil => simp
 | cons _ _ => simp
theorem op_catT : OpR X (binaryOp .Add) (rCatT X.K) := by
 intro QlP s σ H x y v u Q I rx ry h
 obtain ⟨a, b, xs, ys, rfl, rfl, ha, hb, hx, hz, q1, q2⟩ := h
 cases rx
 cases ry
 obtain ⟨its, r1, p1, _⟩ := I.tuple ha
 obtain ⟨its2, r2, p2, _⟩ := I.tuple hb
 refine HT.cat_tup p1 p2 (fun z => hx (r1.nil_iff.mp z)) (fun z => ⟨.ref a, H, I, rfl, q1 (r2.nil_iff.mp z)⟩) (fun z => ?_) (by rw [<-r1.length, <-r2.length]; exact hz)
 refine ⟨.ref s.heap.objs.size, _, I.laid (t' := s.toks) (o := .tup (xs ++ ys)) (fun b ob q => QlS _ q) (QlX _) ?_, rfl, q2 (fun w => z (r2.nil_iff.mpr w)) _ (I.hok.fresh (QlX _))⟩
 exact ⟨by rw [Qma]; exact hz, _, r1.append r2, IsTup.new _ _⟩
end
def ixN (n : Nat) (i : Int) : Option Nat := if 0<=i then (if i < n then some i.toNat else none) else if -(n : Int)<=i then some (i + n).toNat else none
def atI {α : Type} (xs : List α) (i : Int) : Option α := (ixN xs.length i).bind fun j => xs[j]?
theorem QfD {n : Nat} {i : Int} {j : Nat} (h : ixN n i = some j) : seqIndex? i n = some j/\j < n/\-(n : Int)<=i/\i < n := by
 unfold ixN at h
 by_cases h0 : 0<=i
 ·rw [Qmo h0] at h
  by_cases h1 : i < n
  ·rw [Qmo h1] at h
   have e : i.toNat = j := Qmu h
   exact ⟨by rw [seqIndex_of h0 h1, e], by omega, by omega, h1⟩
  ·rw [Qmp h1] at h; cases h
 ·rw [Qmp h0] at h
  by_cases h1 : -(n : Int)<=i
  ·rw [Qmo h1] at h
   have e : (i + n).toNat = j := Qmu h
   exact ⟨by rw [seqIndex_neg (by omega) h1, e], by omega, h1, by omega⟩
  ·rw [Qmp h1] at h; cases h
theorem QbB {α : Type} {xs : List α} {i : Int} {v : α} (h : atI xs i = some v) : ∃ j, seqIndex? i xs.length = some j/\xs[j]? = some v/\j < xs.length/\-(xs.length : Int)<=i/\i < xs.length := by
 unfold atI at h
 cases e : ixN xs.length i with
 | none => rw [e] at h; cases h
 | some j =>
  rw [e] at h
  obtain ⟨h1, h2, h3, h4⟩ := QfD e
  exact ⟨j, h1, h, h2, h3, h4⟩
theorem QfV {α : Type} {xs : List α} {j : Nat} {v : α} (h : xs[j]? = some v) : atI xs (j : Int) = some v := by
 have hj : j < xs.length := (List.getElem?_eq_some_iff.mp h).1
 have e : ixN xs.length (j : Int) = some j := by
  unfold ixN
  rw [Qmo (by omega), Qmo (by omega)]; simp
 unfold atI; rw [e]; exact h
def QbC (b : Expr) : Prop := ∀ o i, subscripted b false o i = operate [o, i] (getItem o i)
def IxR (X : Cx) (r : R2) : Prop :=
 ∀ (value slice : Expr) (QlP : List (Addr × Obj)) (s : Shared) (σ : St) (H : Hp) (x y : V) (v u : Value) (Q : VK), Inv X QlP σ H s->aq x v->aq y u->r x y H Q ->
  subscripted slice false v u = operate [v, u] (getItem v u)->wpAny (model X.prog X.w) X.A (subscriptTail value slice v u) (EP X QlP σ Q) X.xe s
def MtR (X : Cx) (id : String) (r : V->List V->Hp->VK->Prop) : Prop :=
 ∀ (QlP : List (Addr × Obj)) (s : Shared) (σ : St) (H : Hp) (x : V) (xs : List V) (v : Value) (us : List Value) (Q : VK), Inv X QlP σ H s->aq x v->bb xs us->r x xs H Q ->
  wpAny (model X.prog X.w) X.A (call (.builtin id) (v :: us)) (EP X QlP σ Q) X.xe s
section
variable {X : Cx} {a b : Expr} {ta tb : TE} {pos : Pos}
theorem pe_ix {r : R2} (hr : IxR X r) (ha : PE X a ta) (hb : PE X b tb) (hs : QbC b) : PE X (.Subscript a b pos) (tOp r ta tb) := by
 intro QlP s σ H Q I h
 exact Subscript_ (binT ha hb I h fun v u s2 x y H2 I2 rx ry q => hr a b QlP s2 σ H2 x y v u Q I2 rx ry q (hs _ _))
def rIxL (K : PySem.W.Frag) : R2 := fun x y H Q => ∃ p xs i v, x = .ref p/\y = .int i/\SqL K H p xs/\atI xs i = some v/\Q v H
def rIxT (K : PySem.W.Frag) : R2 := fun x y H Q => ∃ p xs i v, x = .ref p/\y = .int i/\SqT K H p xs/\atI xs i = some v/\Q v H
def rIxS : R2 := fun x y H Q => ∃ z i c, x = .str z/\y = .int i/\z.length<=sizeLine/\atI z.cps.toList i = some c/\Q (.str ⟨#[c]⟩) H
theorem ix_list : IxR X (rIxL X.K) := by
 intro value slice QlP s σ H x y v u Q I rx ry h hs
 obtain ⟨p, xs, i, z, rfl, rfl, hq, he, q⟩ := h
 cases rx
 obtain ⟨t, rfl⟩ := ry
 obtain ⟨its, r, pl, hz⟩ := I.list hq
 obtain ⟨j, h1, h2, h3, h4, h5⟩ := QbB he
 obtain ⟨w, ew, rw'⟩ := r.get h2
 have hl := r.length
 have hn := si
 have fin : EP X QlP σ Q w s := ⟨z, H, I, rw', q⟩
 by_cases h0 : 0<=i
 ·have hj : i.toNat = j := by
   rw [seqIndex_of h0 h5] at h1
   exact Qmu h1
  exact item_listR pl.isList h0 (by omega) (by rw [hj]; simpa using ew) fin hs
 ·have hj : (i + (its.toArray.size : Int)).toNat = j := by
   rw [seqIndex_neg (by omega) h4] at h1
   rw [QlW, <-hl]
   exact Qmu h1
  exact subscriptTail_builtinR (x := w) pl.isList.typeIs slot_list_getitem.lookup
   (wpAny_getItem_list_neg (Q := fun r s' => r = w/\EP X QlP σ Q r s') pl.isList (by omega) (by rw [QlW] <;> omega) (by omega) (by rw [hj]; simpa using ew) ⟨rfl, fin⟩) hs
theorem ix_tup : IxR X (rIxT X.K) := by
 intro value slice QlP s σ H x y v u Q I rx ry h hs
 obtain ⟨p, xs, i, z, rfl, rfl, hq, he, q⟩ := h
 cases rx
 obtain ⟨t, rfl⟩ := ry
 obtain ⟨its, r, pl, hz⟩ := I.tuple hq
 obtain ⟨j, h1, h2, h3, h4, h5⟩ := QbB he
 obtain ⟨w, ew, rw'⟩ := r.get h2
 have hl := r.length
 have hn := si
 have fin : EP X QlP σ Q w s := ⟨z, H, I, rw', q⟩
 exact subscriptTail_builtinR (x := w) pl.typeIs slot_tuple_getitem.lookup
  (getItem_tuple (j := j) (Q := fun r s' => r = w/\EP X QlP σ Q r s') pl (by omega) (by omega) (by rw [QlW, <-hl]; exact h1) (by simpa using ew) ⟨rfl, fin⟩) hs
theorem ix_str : IxR X rIxS := by
 intro value slice QlP s σ H x y v u Q I rx ry h hs
 obtain ⟨z, i, c, rfl, rfl, hz, he, q⟩ := h
 obtain ⟨t, rfl⟩ := rx
 obtain ⟨t', rfl⟩ := ry
 obtain ⟨j, h1, h2, h3, h4, h5⟩ := QbB he
 have hl : z.cps.toList.length = z.length := by simp [Str.length]
 rw [hl] at h1 h4 h5
 have hn := si
 exact tail_any (typeIs_str s z t) slot_str_getitem.lookup (getItem_str (c := c) (by
  have e1 : decide (i < -(2 ^ 63 : Int)) = false := Qmw (by omega)
  have e2 : decide (i ≥ 2 ^ 63) = false := Qmw (by omega)
  rw [e1, e2, Bool.or_false]) (by rw [h1]; simpa using h2) ⟨.str ⟨#[c]⟩, H, I.tok _, ⟨_, rfl⟩, q⟩) hs
theorem QiO (its : List Value) (n j : Nat) (u : Value) : Obj.mapSeq (·.setIfInBounds j u) { cls := .type "list", data := .seq its.toArray n } = { cls := .type "list", data := .seq (its.set j u).toArray n } := by
 simp [Obj.mapSeq]
theorem Inv.lst {QlP : List (Addr × Obj)} {σ : St} {H : Hp} {s : Shared} {p : Addr} {xs : List V} (I : Inv X QlP σ H s) (h : H p = some (.lst xs)) :
  ∃ (its : List Value) (n : Nat), bb xs its/\s.heap.get? p = some { cls := .type "list", data := .seq its.toArray n }/\xs.length<=sizeLine := by
 obtain ⟨z, its, n, r, e⟩ := I.hok p _ h
 exact ⟨its, n, r, e, z⟩
theorem Inv.lstUpd {QlP : List (Addr × Obj)} {σ : St} {H : Hp} {s : Shared} {p : Addr} {xs ys : List V} {its its' : List Value} {n n' : Nat} {f : Obj->Obj} (I : Inv X QlP σ H s) (h : H p = some (.lst xs))
  (ho : s.heap.get? p = some { cls := .type "list", data := .seq its.toArray n }) (hf : f { cls := .type "list", data := .seq its.toArray n } = { cls := .type "list", data := .seq its'.toArray n' }) (r : bb ys its') (hz : ys.length<=sizeLine) (t : Nat) :
  Inv X QlP σ (upd H p (.lst ys)) { s with heap := s.heap.update p f, toks := t } := by
 have e : (s.heap.update p f).get? p = some { cls := .type "list", data := .seq its'.toArray n' } := by
  rw [Heap.get?_update_self f ho (by rw [hf] <;> rfl), hf]
 refine I.write (x := p) (e := p) (by rw [h]; trivial) (.inl rfl) (fun b u hb q => (Heap.get?_update_other _ _ (Ne.symm hb)).trans q) ⟨_, e⟩ ?_
 exact ⟨hz, its', n', r, e⟩
def rSetL : V->V->V->Hp->(Hp->Prop)->Prop := fun o i v H Q => ∃ p xs k j, o = .ref p/\i = .int k/\H p = some (.lst xs)/\ixN xs.length k = some j/\Q (upd H p (.lst (xs.set j v)))
theorem QkD : PSet X rSetL := by
 intro QlP s σ H o i v ov iv u Q I ro ri rv h
 obtain ⟨p, xs, k, j, rfl, rfl, hp, hj, q⟩ := h
 cases ro
 obtain ⟨t, rfl⟩ := ri
 obtain ⟨its, n, r, ho, hz⟩ := I.lst hp
 obtain ⟨h1, h2, h3, h4⟩ := QfD hj
 have hl := r.length
 have hn := si
 have I' : Inv X QlP σ (upd H p (.lst (xs.set j v))) { s with heap := s.heap.update p (Obj.mapSeq (·.setIfInBounds j u)) } :=
  I.lstUpd hp ho (QiO its n j u) (r.set rv j) (by rw [List.length_set]; exact hz) s.toks
 by_cases h0 : 0<=k
 ·have hk : k.toNat = j := by
   rw [seqIndex_of h0 h4] at h1
   exact Qmu h1
  exact PySem.W.ki_setAt ho h0 (by omega) (by rw [QlW, <-hl]; exact h4) (by rw [hk]; exact ⟨_, I', q⟩)
 ·have hk : (k + (its.toArray.size : Int)).toNat = j := by
   rw [seqIndex_neg (by omega) h3] at h1
   rw [QlW, <-hl]
   exact Qmu h1
  exact PySem.W.ki_setBack ho (by omega) (by rw [QlW, <-hl]; exact h3) (by omega) (by rw [hk]; exact ⟨_, I', q⟩)
theorem QhD (lo hi : Option Int) (n : Nat) : (sliceBounds lo hi none n).1 = ((HT.sIx n 0 lo : Nat) : Int)/\(sliceBounds lo hi none n).2.1 = ((HT.sIx n n hi : Nat) : Int)/\(sliceBounds lo hi none n).2.2 = 1 := by
 refine ⟨?_, ?_, rfl⟩
 ·cases lo with
  | none => simp [sliceBounds, HT.sIx]
  | some i =>
   simp only [sliceBounds, HT.sIx, Option.getD_none, show (1 : Int) > 0 by decide, if_true]
   by_cases h : i < 0
   ·simp only [h, if_true] <;> omega
   ·simp only [h, if_false] <;> omega
 ·cases hi with
  | none => simp [sliceBounds, HT.sIx]
  | some i =>
   simp only [sliceBounds, HT.sIx, Option.getD_none, show (1 : Int) > 0 by decide, if_true]
   by_cases h : i < 0
   ·simp only [h, if_true] <;> omega
   ·simp only [h, if_false] <;> omega
theorem Qhr (its : List Value) (lo hi : Option Int) : slicePick its.toArray lo hi none = ((its.drop (HT.sIx its.length 0 lo)).take (HT.sIx its.length its.length hi - HT.sIx its.length 0 lo)).toArray := by
 obtain ⟨h1, h2, h3⟩ := QhD lo hi its.toArray.size
 unfold slicePick
 rw [h1, h2, h3]
 simp only [sliceRange_one, pick_run, QlW] <;> rfl
def rSlL (K : PySem.W.Frag) : V->Option Int->Option Int->Hp->VK->Prop := fun x lo hi H Q => ∃ a xs, x = .ref a/\SqL K H a xs/\∀ p, H p = none->Q (.ref p) (upd H p (.lst (nc xs lo hi)))
theorem sl_list : SlR X (rSlL X.K) := by
 intro QlP s σ H x v vl vu lo hi sl Q I rx hs pl pu h
 obtain ⟨a, xs, rfl, hx, q⟩ := h
 cases rx
 obtain ⟨its, r, ht, hz⟩ := I.list hx
 have hlen := r.length
 refine ⟨"list", _, slot_list_getitem.lookup, ht.isList.typeIs, ?_⟩
 refine wpAny_getItem_list_slice ht.isList hs pl pu .none (by simp) ?_ (by rw [QlW] <;> omega)
 rw [Qhr, <-hlen]
 refine ⟨.ref s.heap.objs.size, _, I.laid (t' := s.toks) (o := .lst (nc xs lo hi)) (fun b ob q => QlS _ q) (QlX _) ?_, rfl, q _ (I.hok.fresh (QlX _))⟩
 exact ⟨Qmh (Qda xs lo hi) hz, _, 0, (r.drop (HT.sIx xs.length 0 lo)).take (HT.sIx xs.length xs.length hi - HT.sIx xs.length 0 lo), Qmd _ rfl⟩
def lr : V->Bool
 | .non => true
 | .bl _ => true
 | .int _ => true
 | .str _ => true
 | _ => false
def eqV : V->V->Bool
 | .non, .non => true
 | .bl a, .bl b => a == b
 | .bl a, .int b => (if a then 1 else 0) == b
 | .int a, .bl b => a == (if b then 1 else 0)
 | .int a, .int b => a == b
 | .str a, .str b => a == b
 | _, _ => false
theorem eqAt_V {A : Around} {s : Shared} {y x : V} {u v : Value} (ry : aq y u) (rx : aq x v) (fy : lr y = true) (fx : lr x = true) : SeqAt.EqAt A s u v (eqV y x) := by
 cases y with
 | non =>
  cases ry
  cases x with
  | non => cases rx; exact SeqAt.EqAt.same _
  | bl b => cases rx; exact SeqAt.EqAt.none_bool b
  | int b => obtain ⟨t, rfl⟩ := rx; exact SeqAt.EqAt.none_int b t
  | str b => obtain ⟨t, rfl⟩ := rx; exact SeqAt.EqAt.none_str b t
  | _ => exact absurd (show false = true from fx) QlQ
 | bl a =>
  cases ry
  cases x with
  | non => cases rx; exact SeqAt.EqAt.bool_none a
  | bl b => cases rx; exact SeqAt.EqAt.bool_bool a b
  | int b => obtain ⟨t, rfl⟩ := rx; exact SeqAt.EqAt.bool_int a b t
  | str b => obtain ⟨t, rfl⟩ := rx; exact SeqAt.EqAt.bool_str a b t
  | _ => exact absurd (show false = true from fx) QlQ
 | int a =>
  obtain ⟨t', rfl⟩ := ry
  cases x with
  | non => cases rx; exact SeqAt.EqAt.int_none a t'
  | bl b => cases rx; exact SeqAt.EqAt.int_bool a t' b
  | int b => obtain ⟨t, rfl⟩ := rx; exact SeqAt.EqAt.int_int a t' b t
  | str b => obtain ⟨t, rfl⟩ := rx; exact SeqAt.EqAt.int_str a t' b t
  | _ => exact absurd (show false = true from fx) QlQ
 | str a =>
  obtain ⟨t', rfl⟩ := ry
  cases x with
  | non => cases rx; exact SeqAt.EqAt.str_none a t'
  | bl b => cases rx; exact SeqAt.EqAt.str_bool a t' b
  | int b => obtain ⟨t, rfl⟩ := rx; exact SeqAt.EqAt.str_int a t' b t
  | str b => obtain ⟨t, rfl⟩ := rx; exact SeqAt.EqAt.str_str a t' b t
  | _ => exact absurd (show false = true from fx) QlQ
 | _ => exact absurd (show false = true from fy) QlQ
theorem QhM : OpR X (compareOp .NotIn) (fun x y H Q => ∃ i j, x = .str i/\y = .str j/\Q (.bl (!(!(Builtin.Str.occurrences j i 0 j.length 1).isEmpty))) H) := by
 intro QlP s σ H x y v u Q I rx ry h
 obtain ⟨i, j, rfl, rfl, q⟩ := h
 obtain ⟨t, rfl⟩ := rx
 obtain ⟨t', rfl⟩ := ry
 exact notIn_str ⟨.bl _, H, I, rfl, q⟩
theorem QhX : ls X (.builtin "len") (fun xs H Q => ∃ p ys, xs = [.ref p]/\(SqL X.K H p ys\/SqT X.K H p ys)/\Q (.int ys.length) H) := by
 intro QlP s σ H xs us Q I r h
 obtain ⟨p, ys, rfl, hq, q⟩ := h
 obtain ⟨u, rfl, rx⟩ := pj r
 cases rx
 have hn := si
 rcases hq with hq | hq
 ·obtain ⟨its, r', pl, hz⟩ := I.list hq
  have hlen := r'.length
  exact Calls.call_len_list pl.isList (by simp only [QlW] <;> omega) ⟨.int ys.length, H, I.tok _, ⟨s.toks + 1, by rw [QlW, hlen]⟩, q⟩
 ·obtain ⟨its, r', pl, hz⟩ := I.tuple hq
  have hlen := r'.length
  exact len_tuple pl (by simp only [QlW] <;> omega) ⟨.int ys.length, H, I.tok _, ⟨s.toks + 1, by rw [QlW, hlen]⟩, q⟩
theorem QhW : ls X (.builtin "len") (fun xs H Q => ∃ z, xs = [.str z]/\z.length<=sizeLine/\Q (.int z.length) H) := by
 intro QlP s σ H xs us Q I r h
 obtain ⟨z, rfl, hz, q⟩ := h
 obtain ⟨u, rfl, t, rfl⟩ := pj r
 have hn := si
 exact len_str (by omega) ⟨.int z.length, H, I.tok _, ⟨_, rfl⟩, q⟩
theorem QhV : ls X (.type "list") (fun xs H Q => ∃ p ys, xs = [.ref p]/\(SqL X.K H p ys\/SqT X.K H p ys)/\∀ l, H l = none->Q (.ref l) (upd H l (.lst ys))) := by
 intro QlP s σ H xs us Q I r h
 obtain ⟨p, ys, rfl, hq, q⟩ := h
 obtain ⟨u, rfl, rx⟩ := pj r
 cases rx
 have fin : ∀ (its : List Value), bb ys its->ys.length<=sizeLine->∀ (h' : Heap) (c' : Nat), (∀ b o', s.heap.get? b = some o'->h'.get? b = some o') ->
   h'.get? s.heap.objs.size = some { cls := .type "list", dict := none, data := .seq its.toArray c', slots := #[] }->EP X QlP σ Q (.ref s.heap.objs.size) { s with heap := h' } := fun its r' hz h' c' kp e =>
  ⟨.ref s.heap.objs.size, _, I.laid (t' := s.toks) kp (QlX _) (show dm X.prog X.w _ h' _ (.lst ys) from ⟨hz, its, c', r', e⟩), rfl, q _ (I.hok.fresh (QlX _))⟩
 rcases hq with hq | hq
 ·obtain ⟨its, r', pl, hz⟩ := I.list hq
  have hlen := r'.length
  obtain ⟨o, ho, hc, n, hd⟩ := pl.isList
  exact call_list_seq p (.inl rfl) ho hc hd (fun h' c' kp e => fin its r' hz h' c' kp e) (by simp only [QlW] <;> omega)
 ·obtain ⟨its, r', pl, hz⟩ := I.tuple hq
  have hlen := r'.length
  obtain ⟨o, ho, hc, n, hd⟩ := pl
  exact call_list_seq p (.inr rfl) ho hc hd (fun h' c' kp e => fin its r' hz h' c' kp e) (by simp only [QlW] <;> omega)
theorem QcK : ls X (.type "tuple") (fun xs H Q => ∃ p ys, xs = [.ref p]/\((SqL X.K H p ys/\∀ l, H l = none->Q (.ref l) (upd H l (.tup ys)))\/(SqT X.K H p ys/\Q (.ref p) H))) := by
 intro QlP s σ H xs us Q I r h
 obtain ⟨p, ys, rfl, h⟩ := h
 obtain ⟨u, rfl, rx⟩ := pj r
 cases rx
 rcases h with ⟨hq, q⟩ | ⟨hq, q⟩
 ·obtain ⟨its, r', pl, hz⟩ := I.list hq
  have hlen := r'.length
  refine call_tuple_list pl.isList (fun h' kp => ?_) (by simp only [QlW] <;> omega)
  have I1 : Inv X QlP σ H { s with heap := h' } := I.kept (t' := s.toks) kp
  have I2 : Inv X QlP σ (upd H h'.objs.size (.tup ys)) { s with heap := h'.push { cls := .type "tuple", data := .seq its.toArray } } :=
   I1.laid (t' := s.toks) (fun b o e => QlS _ e) (QlX _) (show dm X.prog X.w _ _ _ (.tup ys) from ⟨hz, its, r', IsTup.new _ _⟩)
  exact ⟨.ref h'.objs.size, _, I2, rfl, q _ (I1.hok.fresh (QlX _))⟩
 ·obtain ⟨its, r', pl, hz⟩ := I.tuple hq
  exact call_tuple_same pl ⟨.ref p, H, I, rfl, q⟩
def tyV (K : PySem.W.Frag) (T : String) (x : V) (H : Hp) : Prop := match x with
 | .str _ => T = "str"
 | .int _ => T = "int"
 | .ref p => (T = "list"/\∃ xs, SqL K H p xs)\/(T = "tuple"/\∃ o, K.lookup p = some o/\o.cls = .type "tuple"/\o.dict = none) ∨
   (T = "dict"/\((∃ kvs, H p = some (.dK kvs))\/∃ kvs, H p = some (.dT kvs)))\/(T = "set"/\∃ S n, H p = some (.set S n))
 | _ => False
theorem QfZ {QlP : List (Addr × Obj)} {σ : St} {H : Hp} {s : Shared} {T : String} {x : V} {v : Value} (I : Inv X QlP σ H s) (r : aq x v) (ty : tyV X.K T x H) :
  s.TypeIs v T/\∀ a, v = .ref a->∃ ob, s.heap.get? a = some ob/\ob.dict = none := by
 cases x with
 | str z =>
  obtain ⟨t, rfl⟩ := r
  cases (show T = "str" from ty)
  exact ⟨typeIs_str s z t, fun _ e => nomatch e⟩
 | int i =>
  obtain ⟨t, rfl⟩ := r
  cases (show T = "int" from ty)
  exact ⟨typeIs_int s i t, fun _ e => nomatch e⟩
 | ref p =>
  cases r
  rcases ty with ⟨rfl, xs, hq⟩ | ⟨rfl, o, hk, hc, hd⟩ | ⟨rfl, hk⟩ | ⟨rfl, S, n, hk⟩
  ·obtain ⟨its, _, pl, _⟩ := I.list hq
   refine ⟨pl.isList.typeIs, fun a e => ?_⟩
   cases e
   obtain ⟨o, n, e, c, hd, _⟩ := pl
   exact ⟨o, e, hd⟩
  ·refine ⟨⟨o, I.kIn p o hk, hc⟩, fun a e => ?_⟩
   cases e
   exact ⟨o, I.kIn _ o hk, hd⟩
  ·have z : ∃ o, s.heap.get? p = some o/\o.ExactDict := by
    rcases hk with ⟨kvs, hk⟩ | ⟨kvs, hk⟩
    ·obtain ⟨_, _, _, _, o, _, _, e, ex, _⟩ := I.hok p _ hk
     exact ⟨o, e, ex⟩
    ·obtain ⟨_, _, _, _, o, _, _, e, ex, _⟩ := I.hok p _ hk
     exact ⟨o, e, ex⟩
   obtain ⟨o, e, ex⟩ := z
   refine ⟨⟨o, e, ex.1⟩, fun a e2 => ?_⟩
   cases e2
   exact ⟨o, e, ex.2.1⟩
  ·obtain ⟨o, _, _, _, e, ex, _⟩ := I.hok p _ hk
   refine ⟨⟨o, e, ex.1⟩, fun a e2 => ?_⟩
   cases e2
   exact ⟨o, e, ex.2.1⟩
 | _ => exact False.elim ty
def tBM0 (K : PySem.W.Frag) (T : String) (r : V->List V->Hp->VK->Prop) (to : TE) : TE := fun σ H Q => to σ H fun x H1 => tyV K T x H1/\r x [] H1 Q
def tBM (K : PySem.W.Frag) (T : String) (r : V->List V->Hp->VK->Prop) (to : TE) (t : TA) : TE := fun σ H Q => to σ H fun x H1 => tyV K T x H1/\t σ H1 fun xs H2 => r x xs H2 Q
variable {o e : Expr} {es : List Expr} {to : TE} {t : TA} {name : Str} {apos cpos : Pos} {T id : String} {r : V->List V->Hp->VK->Prop}
theorem pe_bm0 (pa : PlainAttrs T) (slot : Slot T name id) (hty : typeOf (.builtin id) = pure (.type "method_descriptor")) (hm : MtR X id r) (ho : PE X o to)
  (hbase : attributeBase o name X.env (eval o X.env) = eval o X.env := by rfl) (hline : (apos.endLine == cpos.line) = true := by rfl) : PE X (.Call (.Attribute o name apos) [] [] cpos) (tBM0 X.K T r to) := by
 intro QlP s σ H Q I h
 refine wpAny_Call_method0_late hbase hline (thn (ho QlP s σ H _ I h) fun v s1 ⟨x, H1, I1, r1, ty, q1⟩ => ?_)
 obtain ⟨h1, h2⟩ := QfZ I1 r1 ty
 exact ⟨T, id, pa, slot, hty, h1, h2, Calls.callWith_builtin rfl (PySem.evalArgs_none (hm QlP s1 σ H1 x [] v [] Q I1 r1 .nil q1))⟩
theorem pe_bm (pa : PlainAttrs T) (slot : Slot T name id) (hty : typeOf (.builtin id) = pure (.type "method_descriptor")) (hm : MtR X id r) (ho : PE X o to) (ha : PA X (e :: es) t)
  (hbase : attributeBase o name X.env (eval o X.env) = eval o X.env := by rfl)
  (hfew : ((backTo cpos (starEach (e :: es) X.env)).all (fun x => !x.1) && (backToKw cpos (keywordEach [] X.env)).all (fun x => x.1.isSome)
   && decide ((e :: es).length + ([] : List Keyword).length + (if ([] : List Keyword).isEmpty then 0 else 1) < 30)) = true := by rfl)
  (hline : (apos.endLine == cpos.line) = true := by rfl) (hs : starEach (e :: es) X.env = (false, eval e X.env) :: starEach es X.env := by rfl) (hplain : (backTo cpos (starEach es X.env)).any (·.1) = false := by rfl) :
  PE X (.Call (.Attribute o name apos) (e :: es) [] cpos) (tBM X.K T r to t) := by
 intro QlP s σ H Q I h
 refine wpAny_Call_method_late hbase hfew hline rfl (thn (ho QlP s σ H _ I h) fun v s1 ⟨x, H1, I1, r1, ty, q1⟩ => ?_)
 obtain ⟨h1, h2⟩ := QfZ I1 r1 ty
 refine ⟨T, id, pa, slot, hty, h1, h2, ?_⟩
 have hA := ha cpos QlP s1 σ H1 _ I1 q1
 rw [hs] at hA ⊢
 refine Calls.callWith_builtin (by show (false || (backTo cpos (starEach es X.env)).any (·.1)) = false; rw [hplain] <;> rfl) (Calls.evalArgs_plain ?_)
 exact thn hA fun us s2 ⟨vs, H2, I2, r2, q2⟩ => hm QlP s2 σ H2 x vs v us Q I2 r1 r2 q2
end
def MtM (X : Cx) (id : String) (r : V->List V->Hp->VK->Prop) : Prop :=
 ∀ (QlP : List (Addr × Obj)) (s : Shared) (σ : St) (H : Hp) (x : V) (xs : List V) (v : Value) (us : List Value) (Q : VK), Inv X QlP σ H s->aq x v->bb xs us->r x xs H Q ->
  wpAny (model X.prog X.w) X.A (call (.builtin id) (v :: us)) (EP X QlP σ Q) X.xe s
theorem bb.one : ∀ {x : V} {us : List Value}, bb [x] us->∃ u, us = [u]/\aq x u
 | _, _, .cons r .nil => ⟨_, rfl, r⟩
section
variable {X : Cx} {QlP : List (Addr × Obj)} {σ : St} {H : Hp} {s : Shared} {l b : Addr} {xs ys zs : List V}
theorem Inv.lset {its its' : List Value} {n : Nat} {f : Array Value->Array Value} {t' : Nat} (I : Inv X QlP σ H s) (hH : H l = some (.lst xs))
  (e : s.heap.get? l = some { cls := .type "list", data := .seq its.toArray n }) (hf : f its.toArray = its'.toArray) (hv : bb ys its') (hz : ys.length<=sizeLine) :
  Inv X QlP σ (upd H l (.lst ys)) { s with heap := s.heap.update l (Obj.mapSeq f), toks := t' } := by
 have q := PySem.IsL.update e f
 rw [hf] at q
 refine I.write (x := l) (e := l) (by rw [hH]; exact trivial) (.inl rfl) (fun b' u hb hu => (Heap.get?_update_other s.heap (Obj.mapSeq f) (Ne.symm hb)).trans hu) ⟨_, q⟩ ?_
 exact ⟨hz, its', _, hv, q⟩
theorem Inv.lnew {its : List Value} {t' : Nat} (I : Inv X QlP σ H s) (hv : bb ys its) (hz : ys.length<=sizeLine) :
  Inv X QlP σ (upd H s.heap.objs.size (.lst ys)) { s with heap := s.heap.push { cls := .type "list", data := .seq its.toArray }, toks := t' } :=
 I.laid (fun _ _ q => QlS _ q) (QlX _) ⟨hz, its, 0, hv, Qmd _ rfl⟩
theorem Inv.fresh (I : Inv X QlP σ H s) : H s.heap.objs.size = none := I.hok.fresh (QlX _)
theorem Inv.lstM (I : Inv X QlP σ H s) (hH : H l = some (.lst xs)) : xs.length<=sizeLine/\∃ (its : List Value) (n : Nat), bb xs its/\xs.length = its.length/\s.heap.get? l = some { cls := .type "list", data := .seq its.toArray n } := by
 obtain ⟨z, its, n, r, e⟩ := I.hok l _ hH
 exact ⟨z, its, n, r, r.length, e⟩
end
section
variable {X : Cx}
def rAppend : V->List V->Hp->VK->Prop := fun x vs H Q => ∃ l xs y, x = .ref l/\vs = [y]/\H l = some (.lst xs)/\xs.length < sizeLine/\Q .non (upd H l (.lst (xs ++ [y])))
theorem QjO : MtM X "list.append" rAppend := by
 intro QlP s σ H x vs v us Q I rx rv h
 obtain ⟨l, xs, y, rfl, rfl, hH, hz, q⟩ := h
 cases rx
 obtain ⟨u, rfl, ru⟩ := rv.one
 obtain ⟨z, its, n, r, hl, e⟩ := I.lstM hH
 refine call_meets F.slot_list_append ⟨_, e, rfl⟩ F.entry_list_append (F.args_list_append_2 _ _) (PySem.list_append l its.toArray n u (by rw [QlW]; omega)) ⟨e, ?_⟩
 refine ⟨.non, _, I.lset (its' := its ++ [u]) hH e (by simp) (r.append (.cons ru .nil)) ?_, rfl, q⟩
 rw [Qma, Qmi]
 omega
end
section
variable {prog : Program} {w : World} {A : Around} {E : Value->Shared->Prop} {s : Shared}
end
section
variable {X : Cx}
end
end L2
namespace Att
open PySem PySem.W PySem.Calls PyProof.Rows
theorem Qhe {P : Params} {h : Heap} : ∀ (ns : List Int) (vs : List Value), WellAll P h vs (ns.map WData.int)->IntsAre vs ns := by
 intro ns
 induction ns with
 | nil =>
  intro vs w
  rw [List.map_nil] at w
  cases w
  exact .nil
 | cons n ns ih =>
  intro vs w
  rw [Qms] at w
  cases w with
  | cons a b =>
   cases a
   exact .cons _ _ (ih _ b)
theorem Qjn {l : OpenLaw} {n : Nat} (hn : l.most = some n) {P : Params} {h : Heap} {args : List WData} {vals : List Value}
  (hpre : l.row.toRowW.claim.pre args = true) (hwl : WellAll P h vals args) :
  ∃ a vs ns, vals = [Value.ref a]/\args = [WData.list (ns.map WData.int)]/\h.get? a = some { cls := .type "list", data := .seq vs.toArray }/\IntsAre vs ns/\ns.length<=n := by
 have hsh : WShape.hasAll [] args [.list .int] = true := (pre_splitW hpre).1
 have hc : l.pre.holds [] { args := args } = true := (pre_splitW hpre).2
 obtain ⟨d, r, rfl, h1, h2⟩ := hasAllW_cons hsh
 obtain rfl := hasAllW_nil h2
 obtain ⟨xs, rfl, h3⟩ := hasW_list h1
 obtain ⟨ns, rfl⟩ := items_int h3
 have hlen : ns.length<=n := by
  unfold OpenLaw.pre at hc
  have h4 : (WTm.not (.lt (.lit (.int (n : Int))) (.len (.arg 0)))).holds [] { args := [.list (ns.map .int)] } = true := by
   have h4 := (holds_andW hc).1
   rw [hn] at h4
   exact h4
  have h5 := condW_of h4 (w_not (w_lt w_lit (w_len_list (w_arg rfl))))
  rw [QlY] at h5
  refine Nat.le_of_not_lt fun q => ?_
  have q' : (n : Int) < ((ns.length : Nat) : Int) := by omega
  first
   | (rw [decide_eq_true q'] at h5; exact absurd h5 (by decide))
   | (simp at h5; omega)
 cases hwl with
 | cons w1 w2 =>
  cases w2
  cases w1 with
  | list ho hall => exact ⟨_, _, ns, rfl, rfl, ho, Qhe ns _ hall, hlen⟩
theorem Qjv (l : OpenLaw) (args : List WData) : l.row.toRowW.claim.post args (.bool true) args = true :=
 postW_of (r := l.row.toRowW) (X := (true == true))
  (show WShape.has [] (.bool true) .bool = true by first | rfl | decide | simp [WShape.has, WShape.arms, WShape.armsAll])
  (show (WTm.eq .res (.lit (.bool true))).value [] { args := args, res := some (.bool true), after := args } = some (.bool (true == true)) from w_eq_bool (w_res rfl) w_lit) rfl
theorem attach_call {l : OpenLaw} {n : Nat} {q : Program} {loose : List Str} {XP : (Str->Option Value)->Heap->Prop} {YP : World->Heap->Prop} {d : DefRec}
  (hn : l.most = some n) (hdf : d.params.defaults = [])
  (call : ∀ (w : World) (s₀ s₁ : Shared) (mg mb : Str->Option Value) (fa : Addr) (o : Obj) (pm cd doc : Value) (a : Addr) (vs : List Value) (ns : List Int),
   Ground q loose [] XP w s₀ mg mb s₁.heap->YP w s₁.heap ->
   s₁.heap.get? fa = some o->o.data = .func (docDef d.name d.params d.body d.scope pm cd doc)->s₁.heap.CodeRec cd d.name->mg d.name = some (.ref fa) ->
   s₁.heap.get? a = some { cls := .type "list", data := .seq vs.toArray }->IntsAre vs ns->ns.length<=n->s₁.gens = #[] ->
   codeAny (model l.prog w) callerA (.call (.ref fa) ⟨[.ref a], []⟩) (fun r s' => r = .ok (.ret (.bool true))/\OldK s₁.heap s'.heap/\s'.os = s₁.os/\AllBare s'.gens) s₁) :
  WalkO q loose XP YP l.row.toRowW d [] (fun f vs => PySem.call f vs) := by
 intro w s₀ s₁ mg mb G Y fa o pm cd doc dV kV ho hd hcd hD hmg hg args vals as hpre hlay hrd hwl hlo
 obtain rfl : dV = .none := Dflts.none hD hdf
 obtain rfl : kV = .none := Dflts.noKw hD
 obtain ⟨a, vs, ns, rfl, rfl, hobj, hints, hlen⟩ := Qjn hn hpre hwl
 refine enter_call (codeAny_mono (call w s₀ s₁ mg mb fa o pm cd doc a vs ns G Y ho (fd_plain hd) hcd hmg hobj hints hlen hg) fun r s' hq => ?_)
 obtain ⟨rfl, h2, h3, h4⟩ := hq
 exact ⟨.inl ⟨.bool true, .bool true, [], rfl, fun _ => rfl, .bool true, Qjv l _, fun _ => ⟨List.Pairwise.nil, fun _ hm => (nomatch hm)⟩⟩, h2, h3, h4⟩
section
variable {prog : Program} {w : World} {A : Around} {E : Value->Shared->Prop} {s : Shared} {K : Frag}
end
end Att
namespace L2
open PySem PySem.Spec PyProof.Rows
theorem QdF : ∀ {vs : List Value} {ns : List Int}, IntsAre vs ns->bb (ns.map V.int) vs
 | _, _, .nil => .nil
 | _, _, .cons n t h => .cons ⟨t, rfl⟩ (QdF h)
def Only (H : Hp) : Prop := ∀ b, H b = none\/∃ o xs, H b = some (.frz o (.lst xs))
theorem Qlm {P : Program} {w : World} {K : PySem.W.Frag} {mg mb : Str->Option Value} {CX : CXT} {k : Nat} {fa a : Addr} {fd : FuncData} {x : Str} {sp : Sp} {s₁ : Shared} {vs : List Value} {ns : List Int}
  (KX : K.In s₁.heap) (hns : s₁.heap.Ns mainGlobals mg) (hb : s₁.heap.Ns builtinsNs mb) (hbb : ∀ x : Str, x ≠ "__name__"->mb x = bootBuiltins x) (hlim : s₁.heap.NoLimit) (hg : s₁.gens = #[])
  (ha : s₁.heap.get? a = some { cls := .type "list", data := .seq vs.toArray }) (hi : IntsAre vs ns) (hl : ns.length<=sizeLine) (hr : Room k callerA)
  (F : ∀ base : Heap, K.In base->base.Ns mainGlobals mg->FnOk P w K mg base CX k fa fd [x] sp) (hbind : ∀ (s : Shared) (u : Value), BindsTo s fd ⟨[u], []⟩ [(x, u)])
  (hsp : ∀ H : Hp, Only H->SqL K H a (ns.map V.int)->sp [.ref a] H (fun v _ => v = .bl true) fun _ _ _ => False)
  (hCX : ∀ H e s', CX [] H s₁ (fun _ _ _ => False) e s'->False) :
  codeAny (model P w) callerA (.call (.ref fa) ⟨[.ref a], []⟩) (fun r s' => r = .ok (.ret (.bool true))/\OldK s₁.heap s'.heap/\s'.os = s₁.os/\AllBare s'.gens) s₁ := by
 have rv := QdF hi
 have lenV := hi.length
 have core : ∀ H : Hp, Only H->SqL K H a (ns.map V.int)->HOk P w H s₁.heap->(∀ b, H b ≠ none->b = a)->(H a ≠ none->K.lookup a = none) ->
   codeAny (model P w) callerA (.call (.ref fa) ⟨[.ref a], []⟩) (fun r s' => r = .ok (.ret (.bool true))/\OldK s₁.heap s'.heap/\s'.os = s₁.os/\AllBare s'.gens) s₁ := by
  intro H hO hS hok hA hK
  have base_of : ∀ {b : Addr} {o : Obj}, s₁.heap.get? b = some o->H b = none->(na s₁.heap H).get? b = some o := fun e n => Qlr e n
  have noA : ∀ {b : Addr} {o : Obj} {es : Array DictEntry} {ep : Nat}, s₁.heap.get? b = some o->o.data = .dict es ep->H b = none := fun {b o es ep} e d => by
   cases q : H b with
   | none => rfl
   | some u =>
    have e' : b = a := hA b (by rw [q]; simp)
    subst e'
    rw [ha] at e; cases e
    have d' : Data.seq vs.toArray _ = Data.dict es ep := d
    cases d'
  have nsK : ∀ {b : Addr} {m : Str->Option Value}, s₁.heap.Ns b m->(na s₁.heap H).Ns b m := fun {b m} ⟨o, es, ep, e, d, r⟩ => ⟨o, es, ep, base_of e (noA e d), d, r⟩
  have hKb : K.In (na s₁.heap H) := fun b o e => base_of (KX b o e) (by
   cases q : H b with
   | none => rfl
   | some u =>
    have e' : b = a := hA b (by rw [q]; simp)
    subst e'
    rw [hK (by rw [q]; simp)] at e; cases e)
  have hM : Mod K mg (na s₁.heap H) := ⟨hKb, nsK hns, ⟨mb, nsK hb, hbb⟩, let ⟨mc, h1, h2⟩ := hlim; ⟨mc, nsK h1, h2⟩⟩
  have e0 : Env0 P w K mg (na s₁.heap H) callerA [] s₁ H := ⟨rfl, hM, fun b o e => of_hidT e, Nat.le_of_eq (QjW _ _), trivial, fun b hb => absurd (show b ∈ ([] : List Addr) from hb) (by simp), hok, .of_eq hg⟩
  refine codeAny_mono ((F _ hKb (nsK hns)).run callerA [] s₁ H ⟨[.ref a], []⟩ [.ref a] [.ref a] _ _ hr e0 (hbind s₁ (.ref a)) (.cons rfl .nil) (hsp H hO hS)) fun r s' h => ?_
  cases r with
  | error e => exact (hCX H e s' h).elim
  | ok fl =>
   cases fl with
   | next => exact False.elim h
   | brk => exact False.elim h
   | cont => exact False.elim h
   | ret u =>
    obtain ⟨v, H', os, bare, un, hok', r', q⟩ := h
    have q' : v = .bl true := q
    subst q'
    obtain rfl : u = Value.bool true := r'
    refine ⟨rfl, OldK.of_keep fun b o e => ?_, os, bare⟩
    cases q : H b with
    | none => exact un.keep b o e q (by intro z; exact absurd (show b ∈ ([] : List Addr) from z) (by simp)) (by simp)
    | some u =>
     rcases hO b with z | ⟨ob, xs, z⟩
     ·rw [q] at z; cases z
     ·have z2 := un.frzs b ob _ z
      obtain ⟨e1, _⟩ := hok b _ z
      obtain ⟨e2, _⟩ := hok' b _ z2
      rw [e] at e1; cases e1
      exact e2
 cases hk : K.lookup a with
 | some o =>
  have e := KX a o hk
  rw [ha] at e
  cases e
  refine core (fun _ => none) (fun _ => .inl rfl) (.inr ⟨_, vs.toArray, _, hk, rfl, rfl, rfl, by rw [QlW, lenV]; exact hl, by simpa using rv⟩) (fun b u z => by have z' : (none : Option HO) = some u := z; cases z') (fun b z => absurd rfl z) fun z => absurd rfl z
 | none =>
  refine core (fun b => if b = a then some (.frz { cls := .type "list", data := .seq vs.toArray } (.lst (ns.map V.int))) else none) (fun b => ?_) (.inl (.inr ⟨{ cls := .type "list", data := .seq vs.toArray }, Qmo rfl⟩)) (fun b u z => ?_) (fun b z => ?_) fun _ => hk
  ·by_cases hb : b = a
   ·exact .inr ⟨_, _, Qmo hb⟩
   ·exact .inl (Qmp hb)
  ·by_cases hb : b = a
   ·have z' := (Qmo hb).symm.trans z
    cases z'
    subst hb
    exact ⟨ha, by rw [QlY]; exact hl, vs, _, rv, ha⟩
   ·have z' := (Qmp hb).symm.trans z
    cases z'
  ·by_cases hb : b = a
   ·exact hb
   ·exact absurd (Qmp hb) z
theorem walk_of {l : PySem.W.OpenLaw} {n k : Nat} {q : Program} {loose : List Str} {XP : (Str->Option Value)->Heap->Prop} {YP : World->Heap->Prop} {d : DefRec} {K : Params->PySem.W.Frag} {CX : World->CXT} {sp : World->Sp} {x : Str}
  (hn : l.most = some n) (hn2 : n<=sizeLine) (hdf : d.params.defaults = []) (hr : Room k callerA)
  (hY : ∀ (w : World) (h : Heap), YP w h->(K w.params).In h)
  (F : ∀ (w : World) (mg : Str->Option Value) (fa : Addr) (h : Heap), (K w.params).In h->h.Ns mainGlobals mg->mg d.name = some (.ref fa) ->
   ∃ fd : FuncData, (∀ (s : Shared) (u : Value), BindsTo s fd ⟨[u], []⟩ [(x, u)]) /\
    ∀ base : Heap, (K w.params).In base->base.Ns mainGlobals mg->FnOk l.prog w (K w.params) mg base (CX w) k fa fd [x] (sp w))
  (hsp : ∀ (w : World) (H : Hp) (a : Addr) (ns : List Int), ns.length<=n->Only H->SqL (K w.params) H a (ns.map V.int)->sp w [.ref a] H (fun v _ => v = .bl true) fun _ _ _ => False)
  (hCX : ∀ (w : World) (H : Hp) (s : Shared) (e : Value) (s' : Shared), CX w [] H s (fun _ _ _ => False) e s'->False) :
  PySem.W.WalkO q loose XP YP l.row.toRowW d [] (fun f vs => PySem.call f vs) := by
 refine Att.attach_call hn hdf fun w s₀ s₁ mg mb fa o pm cd doc a vs ns G Y ho hd hcd hmg hobj hints hlen hg => ?_
 have KX := hY w _ Y
 obtain ⟨fd, hb, hF⟩ := F w mg fa _ KX G.T.g hmg
 exact Qlm KX G.T.g G.T.b G.T.builtins G.T.nolimit hg hobj hints (Qmh hlen hn2) hr hF hb (fun H hO hS => hsp w H a ns hlen hO hS) fun H e s' => hCX w H s₁ e s'
def ll (s : Stmt) : Arguments := match s with
 | .FunctionDef _ a _ _ _ _ _ _ _ _ => a
 | _ => { posonlyargs := [], args := [], vararg := none, kwonlyargs := [], kw_defaults := [], kwarg := none, defaults := [] }
def bt (s : Stmt) : List Stmt := match s with
 | .FunctionDef _ _ b _ _ _ _ _ _ _ => b
 | _ => []
def aw (s : Stmt) : Scope := match s with
 | .FunctionDef _ _ _ _ _ _ sc _ _ _ => sc
 | _ => { kind := .function, names := [], isGenerator := false, isCoroutine := false }
abbrev CX0 : CXT := fun _ _ _ _ _ _ => False
abbrev E0 : XK := fun _ _ _ => False
theorem pass0 {X : Cx} : yd CX0 X E0 := fun _ _ _ _ _ _ _ h => h.elim
structure Fun (K : PySem.W.Frag) (x qual : Str) (st : Stmt) (f : Addr) (fd : FuncData) : Prop where
 ex : ∃ (oc : Value) (od : Option Addr) (kV doc pm : Value) (an : Option Addr) (cdv ct : Value) (osl : Array (Option Value)),
  fd = PySem.W.fnOf x qual (ll st) (bt st) (aw st) .none kV doc pm an cdv ct/\K.lookup f = some ⟨oc, od, .func fd, osl⟩/\PySem.W.codeIn K cdv qual = true
 kp : PySem.W.keepIn K (.ref f) = true
section
variable {P : Program} {w : World} {K : PySem.W.Frag} {mg : Str->Option Value} {base : Heap}
theorem Fun.ok {x qual : Str} {st : Stmt} {f : Addr} {fd : FuncData} {N ps : List Str} {k : Nat} {sp : Sp} (F : Fun K x qual st f fd) (S : FnScope N ps (aw st)) (len : ∀ vs H Q E, sp vs H Q E->vs.length = ps.length)
  (hbody : ∀ (cdv : Value) (A : Around) (outer : List Env) (s : Shared) (H : Hp) (vs : List V) (Q : VK) (E : XK), Room k (A.deeper (envOfC qual (aw st) s.heap.objs.size f cdv))->sp vs H Q E ->
   ∃ t, PSs (nb CX0 P w K mg base N qual (aw st) f cdv A outer s H E).nox (bt st) t/\t { nx := fun _ H' => Q .non H', rt := Q } (start N vs) H) : FnOk P w K mg base CX0 (k + 1) f fd ps sp := by
 obtain ⟨oc, od, kV, doc, pm, an, cdv, ct, osl, rfl, lk, hcd⟩ := F.ex
 refine fn_of lk hcd S len fun A outer s H vs Q E hr hsp => ?_
 obtain ⟨t, h, q⟩ := hbody cdv A outer s H vs Q E hr hsp
 exact ⟨t, h.nox, q⟩
theorem Fun.binds {x qual : Str} {st : Stmt} {f : Addr} {fd : FuncData} {ps : List Str} (F : Fun K x qual st f fd)
  (h : ∀ (kV doc pm : Value) (an : Option Addr) (cdv ct : Value) (us : List Value), us.length = ps.length->bindArgs (PySem.W.fnOf x qual (ll st) (bt st) (aw st) .none kV doc pm an cdv ct) ⟨us, []⟩ = pure (ps.zip us)) : fv K fd ps [] := by
 obtain ⟨oc, od, kV, doc, pm, an, cdv, ct, osl, rfl, lk, hcd⟩ := F.ex
 exact .all (h kV doc pm an cdv ct)
theorem Qgs {x qual : Str} {st : Stmt} {f : Addr} {oc : Value} {od an : Option Addr} {osl : Array (Option Value)} {kV doc pm cdv ct : Value} (l : K.lookup f = some ⟨oc, od, .func (PySem.W.fnOf x qual (ll st) (bt st) (aw st) .none kV doc pm an cdv ct), osl⟩)
  (c : PySem.W.codeIn K cdv qual = true) (k : PySem.W.keepIn K (.ref f) = true) : Fun K x qual st f (PySem.W.fnOf x qual (ll st) (bt st) (aw st) .none kV doc pm an cdv ct) := ⟨⟨oc, od, kV, doc, pm, an, cdv, ct, osl, rfl, l, c⟩, k⟩
end
theorem Qji {n : Nat} (h : n<=1000) : n < sizeLine := Qmm h (by decide)
section
variable {X : Cx}
end
def ee (H H' : Hp) : Prop := ∀ b o, H b = some o->H' b = some o
theorem ee.refl (H : Hp) : ee H H := fun _ _ h => h
theorem ee.trans {H H1 H2 : Hp} (a : ee H H1) (b : ee H1 H2) : ee H H2 := fun c o h => b c o (a c o h)
theorem ee.free {H H' : Hp} (e : ee H H') {l : Addr} (h : H' l = Option.none) : H l = Option.none := by
 cases q : H l with
 | none => rfl
 | some o =>
  rw [e l o q] at h
  cases h
theorem ee.seq {K : PySem.W.Frag} {H H' : Hp} {a : Addr} {xs : List V} (e : ee H H') (h : SqL K H a xs) : SqL K H' a xs := by
 rcases h with (h | ⟨o, h⟩) | h
 ·exact .inl (.inl (e _ _ h))
 ·exact .inl (.inr ⟨o, e _ _ h⟩)
 ·exact .inr h
section
variable {X : Cx}
def rSlS : V->Option Int->Option Int->Hp->VK->Prop := fun x lo hi H Q => ∃ z, x = .str z/\z.length<=sizeLine/\Q (.str (Txt.slice z lo hi)) H
theorem sl_str : SlR X rSlS := by
 intro QlP s σ H x v vl vu lo hi sl Q I rx hs pl pu h
 obtain ⟨z, rfl, hz, q⟩ := h
 obtain ⟨t, rfl⟩ := rx
 refine ⟨"str", _, F.slot_str_getitem.lookup, typeIs_str _ _ _, ?_⟩
 obtain ⟨o, ho, hc, hd⟩ := hs
 have fin : ∀ t' k, EP X QlP σ Q (.str (Txt.slice z lo hi) t') { s with toks := k } := fun t' k => ⟨.str _, H, I.tok k, ⟨t', rfl⟩, q⟩
 cases pl with
 | none =>
  cases pu with
  | none => exact wpAny_getItem_str_slice (l := none) (u := none) (st := none) ⟨o, ho, hc, hd⟩ rfl (post_val_or_str ⟨Qmh (Txt.slice_le z _ _) hz, fin⟩)
  | int j uj => exact wpAny_getItem_str_slice (l := none) (u := some (j, uj)) (st := none) ⟨o, ho, hc, hd⟩ rfl (post_val_or_str ⟨Qmh (Txt.slice_le z _ _) hz, fin⟩)
 | int i ui =>
  cases pu with
  | none => exact wpAny_getItem_str_slice (l := some (i, ui)) (u := none) (st := none) ⟨o, ho, hc, hd⟩ rfl (post_val_or_str ⟨Qmh (Txt.slice_le z _ _) hz, fin⟩)
  | int j uj => exact wpAny_getItem_str_slice (l := some (i, ui)) (u := some (j, uj)) (st := none) ⟨o, ho, hc, hd⟩ rfl (post_val_or_str ⟨Qmh (Txt.slice_le z _ _) hz, fin⟩)
end
def Its (x : Str) : It := ⟨fun i _ => i < x.cps.size, fun i H v H' => H' = H/\∃ c, x.cps[i]? = some c/\v = .str ⟨#[c]⟩, fun i _ => x.cps.size<=i⟩
theorem Qes {P : Program} {w : World} {K : PySem.W.Frag} {x : Str} {y : Str} {py : Pos} {it : Addr} {St : Nat->Heap->Prop}
  (W : ∀ A' : Around, A'.handled = none->Walks P w A' it [it] [it] x.cps.size (SignAt x) St) (hobj : ∀ i h, St i h->∃ o, h.get? it = some o/\∀ v, o.data ≠ .cell v) (W0 : ∀ (A : Around) (i : Nat) (s : Shared) (Q : Value->Shared->Prop) (E : Value->Shared->Prop), St i s.heap->Q (.ref it) s->wpAny (model P w) A (pyIter (.ref it)) Q E s) :
  Turn P w K (.Name y py) (Its x) [it] it (fun i h => i<=x.cps.size/\St i h) where
 mem := by simp
 obj := fun i h st b hb => by
  have e : b = it := by simpa using hb
  subst e
  exact hobj i h st.2
 keep := fun i h h' st k => ⟨st.1, (W { } rfl).frame i h h' st.2 k⟩
 item := by
  intro X hP hw hK hc i QlP s σ H E I hf st hg
  subst hP hw hK
  obtain ⟨f0, f1, f2, f3, f4, f5⟩ := hf it (by simp)
  refine (W X.A (I.ok.hd hc)).item i s _ _ hg st.2 fun v h' tk hv st' kk => ?_
  obtain ⟨c, u, hcx, rfl⟩ := hv
  have I1 : Inv X QlP σ H { s with heap := h', toks := tk } := I.turned (fun b o hb e => kk b o (by simpa using hb) e) f0 f1 f3 f4 f5
  exact ⟨_, rfl, Qmr ⟨.str ⟨#[c]⟩, H, I1, ⟨u, rfl⟩, ⟨rfl, c, hcx, rfl⟩, ⟨hg, st'⟩, fun b hb => (hf b hb).1⟩⟩
 done := by
  intro X hP hw hK hc i QlP s σ H E I hf st hg
  subst hP hw hK
  obtain ⟨f0, f1, f2, f3, f4, f5⟩ := hf it (by simp)
  have e : i = x.cps.size := Nat.le_antisymm st.1 hg
  subst e
  exact (W X.A (I.ok.hd hc)).done s _ _ st.2 fun h' tk kk => ⟨rfl, I.turned (fun b o hb e => kk b o (by simpa using hb) e) f0 f1 f3 f4 f5⟩
 self := fun A i s Q E st h => W0 A i s Q E st.2 h
section
variable {X : Cx}
theorem Qib {bs : List Bool} {its : List Value} (r : bb (bs.map V.bl) its) {i : Nat} {v : Value} (h : its.toArray[i]? = some v) : v = .bool (bs.getD i false) := by
 have hl := r.length
 have hi : i < its.length := by
  have := Array.getElem?_eq_some_iff.mp h
  obtain ⟨h1, _⟩ := this
  simpa using h1
 have hb : i < bs.length := by rw [QlY] at hl; omega
 obtain ⟨u, hu, ru⟩ := r.get (i := i) (x := V.bl bs[i]) (by simp [hb])
 have e : some u = some v := by rw [<-hu, <-h]; simp
 have e1 : u = v := Qmu e
 have e2 : u = Value.bool bs[i] := ru
 rw [<-e1, e2]
 simp [hb]
theorem QhK (bs : List Bool) : (List.range bs.length).all (fun i => bs.getD i false) = bs.all id := by
 rw [Bool.eq_iff_iff]
 simp only [Qmv, List.mem_range, id]
 constructor
 ·intro h x hx
  obtain ⟨i, hi, rfl⟩ := List.mem_iff_getElem.mp hx
  have := h i hi
  simpa [hi] using this
 ·intro h i hi
  have := h bs[i] (List.getElem_mem hi)
  simpa [hi] using this
theorem Qkj (hc : X.calm = true) : ls X (.builtin "all") (fun xs H Q => ∃ (p : Addr) (bs : List Bool), xs = [.ref p]/\SqL X.K H p (bs.map V.bl)/\Q (.bl (bs.all id)) H) := by
 intro QlP s σ H xs us Q I r h
 obtain ⟨p, bs, rfl, hp, q⟩ := h
 obtain ⟨u, rfl, ru⟩ := pj r
 cases ru
 obtain ⟨its, rv, pl, hz⟩ := I.list hp
 have hl := rv.length
 rw [QlY] at hl
 have hlt : p < s.heap.objs.size := by obtain ⟨_, e, _⟩ := pl.isList; exact QlV e
 refine call_all_walk (wpAny_pyIter_list pl.isList ?_)
 refine ⟨s.heap.objs.size, _, _, _, _, _, fun i => bs.getD i false, rfl, Walks.list (A := X.A.in1) (I.ok.hd hc) s.heap.objs.size p (Qme hlt) its.toArray, ⟨⟨_, Qmd _ rfl, rfl, rfl⟩, pl.isList.push _⟩, fun i v s' Q' E' hv hq => ?_, fun h' tk kk => ?_⟩
 ·rw [Qib rv hv]
  exact wpAny_truthy_bool hq
 ·have e : (List.range its.toArray.size).all (fun i => bs.getD i false) = bs.all id := by
   rw [QlW, <-hl]; exact QhK bs
  rw [e]
  refine ⟨.bl _, H, I.kept (t' := tk) fun b o e => kk b o (fun z => ?_) (QlS _ e), rfl, q⟩
  have z' : b = s.heap.objs.size := by simpa using z
  exact absurd (QlV e) (by rw [z']; exact Qmk _)
end
def dy (env : Env) : List (Str × NameKind)->List (Str × Addr)->List (Str × Addr)
 | [], acc => acc
 | (n, k) :: r, acc => if k = .free then dy env r ((n, (env.cells.lookup n).getD 0) :: acc) else dy env r acc
theorem Qee (env : Env) : ∀ (l : List (Str × NameKind)) (acc : List (Str × Addr)), (∀ y ∈ l, y.2 = .free->(env.cells.lookup y.1).isSome = true) ->
  (forIn l acc fun (x : Str × NameKind) (cs : List (Str × Addr)) => (if (x.2 == NameKind.free) = true then (cellOf env x.1 >>= fun a => (pure (ForInStep.yield ((x.1, a) :: cs)) : Sem _)) else pure (ForInStep.yield cs))) = (pure (dy env l acc) : Sem _)
 | [], acc, _ => by rw [List.forIn_nil]; rfl
 | (n, k) :: r, acc, h => by
  rw [List.forIn_cons]
  have hr := fun acc' => Qee env r acc' (fun y hy => h y (QlZ _ hy))
  by_cases hk : k = .free
  ·subst hk
   obtain ⟨a, ha⟩ := Option.isSome_iff_exists.mp (h (n, .free) QlU rfl)
   have e1 : cellOf env n = pure a := by unfold cellOf; rw [ha]
   have e2 : dy env ((n, NameKind.free) :: r) acc = dy env r ((n, a) :: acc) := by
    show (if NameKind.free = NameKind.free then dy env r ((n, (env.cells.lookup n).getD 0) :: acc) else _) = _
    rw [Qmo rfl, ha]; rfl
   rw [e2]
   have q := hr ((n, a) :: acc)
   rw [<-q]
   show ((cellOf env n >>= fun a => (pure (ForInStep.yield ((n, a) :: acc)) : Sem _)) >>= _) = _
   rw [e1]
   rfl
  ·have hb : (k == NameKind.free) = false := by simpa using hk
   have e2 : dy env ((n, k) :: r) acc = dy env r acc := by
    show (if k = NameKind.free then _ else dy env r acc) = _
    rw [Qmp hk]
   rw [e2]
   have q := hr acc
   rw [<-q]
   show ((if (k == NameKind.free) = true then _ else _) >>= _) = _
   rw [hb]
   rfl
theorem clos_eq {scope : Scope} {env : Env} (h : ∀ y ∈ scope.names, y.2 = .free->(env.cells.lookup y.1).isSome = true) : closureFor scope env = pure (dy env scope.names []) := by
 have q := Qee env scope.names [] h
 unfold closureFor
 rw [<-bind_pure (forIn scope.names [] _)] at q
 first
  | exact q
  | (simp only [bind_pure] at q ⊢; exact q)
theorem Qbf (env : Env) : ∀ (l : List (Str × NameKind)) (acc : List (Str × Addr)), (∀ y ∈ l, y.2 = .free->(env.cells.lookup y.1).isSome = true)->(∀ y c, acc.lookup y = some c->env.cells.lookup y = some c) ->
  ∀ y c, (dy env l acc).lookup y = some c->env.cells.lookup y = some c
 | [], acc, _, ha, y, c, h => ha y c h
 | (n, k) :: r, acc, hl, ha, y, c, h => by
  have hl' : ∀ y ∈ r, y.2 = .free->(env.cells.lookup y.1).isSome = true := fun y hy => hl y (QlZ _ hy)
  by_cases hk : k = .free
  ·have e : dy env ((n, k) :: r) acc = dy env r ((n, (env.cells.lookup n).getD 0) :: acc) := by
    show (if k = NameKind.free then _ else _) = _
    rw [Qmo hk]
   rw [e] at h
   refine Qbf env r _ hl' (fun z d hz => ?_) y c h
   rw [List.lookup_cons] at hz
   split at hz
   ·rename_i hzn
    have en : z = n := by simpa using hzn
    cases hz
    obtain ⟨a, ha'⟩ := Option.isSome_iff_exists.mp (hl (n, k) QlU hk)
    rw [en, ha']; rfl
   ·exact ha z d hz
  ·have e : dy env ((n, k) :: r) acc = dy env r acc := by
    show (if k = NameKind.free then _ else _) = _
    rw [Qmp hk]
   rw [e] at h
   exact Qbf env r _ hl' ha y c h
theorem Qbg (env : Env) : ∀ (l : List (Str × NameKind)) (acc : List (Str × Addr)) (y : Str), (acc.lookup y).isSome = true\/(y, NameKind.free) ∈ l->∃ c, (dy env l acc).lookup y = some c
 | [], acc, y, h => by
  rcases h with h | h
  ·exact Option.isSome_iff_exists.mp h
  ·cases h
 | (n, k) :: r, acc, y, h => by
  by_cases hk : k = .free
  ·have e : dy env ((n, k) :: r) acc = dy env r ((n, (env.cells.lookup n).getD 0) :: acc) := by
    show (if k = NameKind.free then _ else _) = _
    rw [Qmo hk]
   rw [e]
   refine Qbg env r _ y ?_
   rcases h with h | h
   ·left
    rw [List.lookup_cons]
    split
    ·rfl
    ·exact h
   ·rcases List.mem_cons.mp h with h | h
    ·left
     cases h
     rw [List.lookup_cons]
     simp
    ·exact .inr h
  ·have e : dy env ((n, k) :: r) acc = dy env r acc := by
    show (if k = NameKind.free then _ else _) = _
    rw [Qmp hk]
   rw [e]
   refine Qbg env r _ y ?_
   rcases h with h | h
   ·exact .inl h
   ·rcases List.mem_cons.mp h with h | h
    ·cases h; exact absurd rfl hk
    ·exact .inr h
theorem relabel_mem {scope : Scope} {env : Env} {y : Str} {k : NameKind} (h : (relabel scope env).names.lookup y = some k) : (y, k) ∈ scope.names\/(y, NameKind.free) ∈ scope.names := by
 have m := PySem.mem_of_lookup h
 obtain ⟨⟨n, k'⟩, hm, e⟩ := List.mem_map.mp (show (y, k) ∈ scope.names.map _ from m)
 dsimp only at e
 split at e
 ·rename_i hc
  cases e
  simp only [Qmj, beq_iff_eq] at hc
  right
  rw [<-hc.1.1]
  exact hm
 ·cases e
  exact .inl hm
structure CompSc (X : Cx) (scope : Scope) (x : Str) (cl : List (Str × Addr)) (N : List Str) (cap : List Nat) : Prop where
 clos : closureFor scope X.env = pure cl
 cell : ∀ y ∈ scope.names, y.2 ≠ .cell
 kind : scope.kind = .function
 names : ∀ y ∈ scope.names, y.2 = .local->scope.names.lookup y.1 = some .local
 loc : scope.names.lookup x = some .local
 nd : N.Nodup
 n0 : N[0]? = some x
 len : N.length = cap.length + 1
 capN : ∀ (k j : Nat), cap[k]? = some j->N[k + 1]? = X.N[j]?
 out : ∀ (k : Nat) (y : Str), N[k + 1]? = some y->X.env.kindOf y = some .cell\/X.env.kindOf y = some .free
 inn : ∀ (k : Nat) (y : Str), N[k + 1]? = some y->(relabel scope X.env).names.lookup y = some .cell\/(relabel scope X.env).names.lookup y = some .free
 sub : ∀ y c, cl.lookup y = some c->X.env.cells.lookup y = some c
 has : ∀ y, ((relabel scope X.env).names.lookup y = some .cell\/(relabel scope X.env).names.lookup y = some .free)->∃ c, cl.lookup y = some c
def bu (X : Cx) (scope : Scope) (cl : List (Str × Addr)) (C : Addr) (N : List Str) (s : Shared) (H : Hp) (ex : List Addr) : Cx where
 prog := X.prog
 w := X.w
 K := X.K
 mg := X.mg
 base := X.base
 A := X.A
 N := N
 s₀ := s
 H₀ := H
 env := compEnvC scope cl C X.env
 outer := X.stack
 stack := X.stack
 ex := ex
 calm := X.calm
 fn := fun _ => false
 pn := []
 xe := fun _ _ => False
def ie (cap : List Nat) (σ : St) (x : Option V) : St := x :: cap.map fun j => (σ[j]?).getD none
section
variable {X : Cx} {QlP : List (Addr × Obj)} {σ : St} {H : Hp} {s : Shared} {scope : Scope} {x : Str} {cl : List (Str × Addr)} {N : List Str} {cap : List Nat} {C : Addr} {fp : List Addr}
theorem Qkg (S : CompSc X scope x cl N cap) (I : Inv X QlP σ H s) (hC : s.heap.objs.size<=C) (hfp : ∀ b ∈ fp, fj X QlP H b/\b < s.heap.objs.size) : (bu X scope cl C N s H fp).Ok where
 mod := I.ok.mod
 kind := S.kind
 glob := I.ok.glob
 blt := I.ok.blt
 above := hC
 inj := fun y z c h1 h2 => I.ok.inj y z c (S.sub y c h1) (S.sub z c h2)
 has := fun y h => S.has y h
 cab := fun y c h => by cases h
 hd := I.ok.hd
 frames := I.ok.frames
 stk := .inl rfl
 exf := fun b hb => ⟨Qme (Qmb (hfp b hb).2 hC), fun y c h => (hfp b hb).1.2.2.2.2.1 y c (S.sub y c h)⟩
 bs := I.bs
 bsz := Qmh I.ok.bsz I.sz
 noex := fun b o e hb => by
  rcases (hfp b hb).1.2.2.2.1 with z | z
  ·exact I.ok.noex b o e z
  ·exact absurd (Qmb (QlV e) (Qmh I.ok.bsz z)) (Qmk _)
 exfs := fun b hb z => by
  rcases List.mem_cons.mp (I.stkSub b z) with e | e
  ·exact (hfp b hb).1.2.1 e
  ·exact (hfp b hb).1.2.2.1 e
 funs := I.stack
 frf := I.stkFree
theorem QiW {h₁ : Heap} {tk : Nat} {m : Str->Option Value} (S : CompSc X scope x cl N cap) (I : Inv X QlP σ H s) (hC : s.heap.objs.size<=C) (hfp : ∀ b ∈ fp, fj X QlP H b/\b < s.heap.objs.size)
  (hns : h₁.Ns C m) (old : ∀ b o, s.heap.get? b = some o->h₁.get? b = some o) : Inv (bu X scope cl C N s H fp) [] (ie cap σ none) H { s with heap := h₁, toks := tk } := by
 refine ⟨Qkg S I hC hfp, rfl, I.bare, Un.kept old, ⟨m, hns, fun i y v h1 h2 h3 => ?_⟩, fun y c h => ?_, I.hok.fresh hC, fun y c h => I.freeC y c (S.sub y c h), fun p hp => absurd (show p ∈ ([] : List (Addr × Obj)) from hp) (by simp), I.hok.kept old, ?_⟩
 ·cases i with
  | zero => exact absurd h2 (by simp [ie])
  | succ k =>
   have h2' : (cap.map fun j => (σ[j]?).getD none)[k]? = some (some v) := by simpa [ie] using h2
   rw [Qmf] at h2'
   cases ej : cap[k]? with
   | none => rw [ej] at h2'; cases h2'
   | some j =>
    rw [ej] at h2'
    have e1 : (σ[j]?).getD none = some v := by simpa using h2'
    have e2 : σ[j]? = some (some v) := by
     cases q : σ[j]? with
     | none => rw [q] at e1; cases e1
     | some z => rw [q] at e1; exact congrArg some e1
    have e3 : X.N[j]? = some y := (S.capN k j ej).symm.trans h1
    obtain ⟨m2, hn2, hl⟩ := I.loc
    have ko := S.out k y h1
    have vis : Vis X.env.scope y := .inr ko
    obtain ⟨u, ru, lk⟩ := hl j y v e3 e2 vis
    refine ⟨u, ru, .inr ⟨S.inn k y h1, ?_⟩⟩
    rcases lk with ⟨kl, _⟩ | ⟨_, c, hc, cell⟩
    ·rcases ko with z | z <;> (rw [z] at kl; cases kl)
    ·obtain ⟨c', hc'⟩ := S.has y (S.inn k y h1)
     have e4 := S.sub y c' hc'
     rw [hc] at e4
     cases e4
     obtain ⟨o, ho, hd⟩ := cell
     exact ⟨c, hc', o, old c o ho, hd⟩
 ·obtain ⟨v, o, ho, hd⟩ := I.cell y c (S.sub y c h)
  exact ⟨v, o, old c o ho, hd⟩
 ·show (ie cap σ none).length = N.length
  rw [S.len]
  simp [ie]
end
def PTs (X : Cx) (ifs : List Expr) (t : TT) : Prop :=
 ∀ (QlP : List (Addr × Obj)) (s : Shared) (σ : St) (H : Hp) (Q : Bool->Hp->Prop), Inv X QlP σ H s->t σ H Q ->
  wpAny (model X.prog X.w) X.A (forIn ifs true fun c r => if r = true then do let ok <-isTrue c X.env (eval c X.env); pure (ForInStep.yield ok) else pure (ForInStep.yield r)) (TP X QlP σ Q) X.xe s
def tYes : TT := fun _ H Q => Q true H
theorem pts_nil {X : Cx} : PTs X [] tYes := fun _ _ _ H _ I h => wpAny_tests_nil ⟨H, I, h⟩
theorem pts_one {X : Cx} {c : Expr} {t : TT} (h : PT X c t) : PTs X [c] t := fun QlP s σ H Q I hq => wpAny_tests_one (h QlP s σ H Q I hq)
def CompW (cap : List Nat) (tt : TT) (te : TE) (σ : St) (P : List V->Hp->Prop) (J : It) (H1 : Hp) : Prop :=
  ∃ W : Nat->Nat->List V->Hp->Prop, (∃ m, W 0 m [] H1)/\∀ i m ys H, W i m ys H->ys.length < sizeLine /\
    ((J.stop i H/\P ys H) ∨
     (J.go i H/\∀ v H', J.yld i H v H'->tt (ie cap σ (some v)) H' fun b H2 => if b = true then te (ie cap σ (some v)) H2 fun y H3 => ∃ m', m' < m/\W (i + 1) m' (ys ++ [y]) H3 else ∃ m', m' < m/\W (i + 1) m' ys H2))
def QbT (wi : TI) (cap : List Nat) (tt : TT) (te : TE) : TE := fun σ H Q => wi σ H (CompW cap tt te σ fun ys H2 => ∀ p, H2 p = none->Q (.ref p) (upd H2 p (.lst ys)))
abbrev fq (ys : List Value) (n : Nat) : Obj := { cls := .type "list", data := .seq ys.toArray n }
theorem Un.track {fs ex : List Addr} {H H' : Hp} {h h1 : Heap} {a : Addr} {o : HO} (u : Un fs ex H H' h h1) (ha : h.objs.size<=a) (hn : H' a = none) : Un fs ex H (upd H' a o) h h1 where
 keep := u.keep
 slot := u.slot
 free := fun b ob e n hx => by rw [bo (Qme (Qmb (QlV e) ha))]; exact u.free b ob e n hx
 there := u.there
 tups := fun b xs e => by have q := u.tups b xs e; rw [bo (il q hn)]; exact q
 frzs := fun b ob v e => by have q := u.frzs b ob v e; rw [bo (il q hn)]; exact q
 tbls := fun b ps e => by obtain ⟨more, q⟩ := u.tbls b ps e; exact ⟨more, by rw [bo (il q hn)]; exact q⟩
theorem HOk.track {P : Program} {w : World} {H : Hp} {h : Heap} {a : Addr} {o : HO} (x : HOk P w H h) (hn : H a = none) (new : dm P w (upd H a o) h a o) : HOk P w (upd H a o) h := fun b u e => by
 by_cases hb : b = a
 ·subst hb; rw [cn] at e; cases e; exact new
 ·rw [bo hb] at e
  exact (x b u e).stay (fun c v _ q => q) (fun c q => by rw [bo (il q hn)]; exact q) fun c xs q => by rw [bo (il q hn)]; exact q
section
variable {X : Cx} {QlP : List (Addr × Obj)} {σ : St} {scope : Scope} {x : Str} {px pos : Pos} {cl : List (Str × Addr)} {N : List Str} {cap : List Nat} {elt iter : Expr} {ifs : List Expr} {tt : TT} {te : TE} {E : Value->Shared->Prop}
theorem Qec {P : List V->Hp->Prop} {RR : Value->Addr->Result->Shared->Prop} {H2 : Hp} {s2 : Shared} {it : Addr} {fp : List Addr} {tn : Nat->Heap->Prop} {J : It} (hc : X.calm = true) (S : CompSc X scope x cl N cap)
  (ht : ∀ C s H ex, PTs (bu X scope cl C N s H ex) ifs tt) (he : ∀ C s H ex, PE (bu X scope cl C N s H ex) elt te)
  (I2 : Inv X QlP σ H2 s2) (T : Turn X.prog X.w X.K (.Name x px) J fp it tn) (st2 : tn 0 s2.heap) (f2 : ∀ b ∈ fp, fj X QlP H2 b) (h : CompW cap tt te σ P J H2)
  (hRR : ∀ (D C : Addr) (s4 : Shared) (ys : List V) (H3 : Hp) (oC : Obj) (m : Str->Option Value), Inv X (QlP ++ [(C, oC)]) σ (upd H3 D (.lst ys)) s4->(∀ h : Heap, h.get? C = some oC->h.Ns C m)->fj X QlP (upd H3 D (.lst ys)) C->H3 D = none->P ys H3->RR (.ref D) C (.ok .next) s4) :
  wpAny (model X.prog X.w) X.A (newList []) (fun acc s₃ => wpAny (model X.prog X.w) X.A (newFunctionEnv scope X.env.globals cl [] X.env.qual none .none (some X.env)) (fun cenv s₄ =>
   codeAny (model X.prog X.w) X.A (.compStart (.ListComp elt [⟨.Name x px, iter, ifs, 0⟩] scope pos) 0 (.ref it) acc { cenv with scope := relabel scope X.env }) (RR acc cenv.locals) s₄) E s₃) E s2 := by
 obtain ⟨W, ⟨m0, w0⟩, turn⟩ := h
 refine wpAny_newObj_type (wpAny_newFunctionEnv S.cell (by intro y hy; simp at hy) (fun h₁ hns₁ hsb₁ => ?_) S.kind)
 dsimp only at hns₁ hsb₁ ⊢
 generalize hG : s2.heap.push { cls := .type "list", dict := none, data := .seq ([] : List Value).toArray } = G at hns₁ hsb₁ ⊢
 have hC : G.objs.size = s2.heap.objs.size + 1 := by rw [<-hG, Heap.size_push]
 have hDC : s2.heap.objs.size ≠ G.objs.size := by rw [hC]; exact Qme (Nat.lt_succ_self _)
 have hCle : s2.heap.objs.size<=G.objs.size := by rw [hC]; exact Nat.le_succ _
 have old : ∀ b o, s2.heap.get? b = some o->h₁.get? b = some o := fun b o e => by
  have hb := QlV e
  exact hsb₁.extBut b o (by rw [hC]; exact Qme (Nat.lt_succ_of_lt hb)) (QlS _ (hG ▸ QlS _ e))
 have hacc : h₁.get? s2.heap.objs.size = some (fq [] 0) := hsb₁.extBut _ _ hDC (QlS _ (hG ▸ Qmd _ rfl))
 have flt : ∀ b ∈ fp, b < s2.heap.objs.size := fun b hb => by obtain ⟨o, e, _⟩ := T.obj 0 _ st2 b hb; exact QlV e
 have fp2 : ∀ b ∈ fp, fj X QlP H2 b/\b < s2.heap.objs.size := fun b hb => ⟨f2 b hb, flt b hb⟩
 have st1 : tn 0 h₁ := T.keep _ _ _ st2 fun b _ o e => old b o e
 have fD2 : H2 s2.heap.objs.size = none := I2.hok.fresh (QlX _)
 have nDx : ∀ y c, X.env.cells.lookup y = some c->c ≠ s2.heap.objs.size/\c ≠ G.objs.size := fun y c e => by
  obtain ⟨v, q⟩ := I2.cell y c e
  have := q.lt
  exact ⟨Qme this, by rw [hC]; exact Qme (Nat.lt_succ_of_lt this)⟩
 have nPx : ∀ p ∈ X.pn ++ QlP, p.1 < s2.heap.objs.size := fun p hp => QlV (I2.pin p hp).1
 have fpB : ∀ {H' : Hp} {pl : List (Addr × Obj)}, (∀ b ∈ fp, H' b = none)->(∀ p ∈ pl, p.1 = s2.heap.objs.size)->∀ b ∈ fp, fj (bu X scope cl G.objs.size N s2 H2 fp) pl H' b := fun {H' pl} hn hp b hb => by
  refine ⟨hn b hb, Qme (Qmb (flt b hb) hCle), fun z => ?_, .inl hb, fun y c e => (f2 b hb).2.2.2.2.1 y c (S.sub y c e), fun p hq z => ?_⟩
  ·rcases List.mem_cons.mp (I2.stkSub b z) with e | e
   ·exact (f2 b hb).2.1 e
   ·exact (f2 b hb).2.2.1 e
  ·have e1 : p.1 = s2.heap.objs.size := hp p (by simpa [bu] using hq)
   rw [e1] at z
   exact absurd (flt b hb) (by rw [<-z]; exact Qmk _)
 have nDfs : s2.heap.objs.size ∉ frs X.stack := fun z => by
  rcases List.mem_cons.mp (I2.stkSub _ z) with e | e
  ·exact absurd I2.lt (by rw [<-e]; exact Qmk _)
  ·exact I2.nofs (QlX _) e
 have pinD : ∀ {σ' : St} {H' : Hp} {s' : Shared} {ob : Obj}, Inv (bu X scope cl G.objs.size N s2 H2 fp) [] σ' H' s'->s'.heap.get? s2.heap.objs.size = some ob->(∀ v, ob.data ≠ .cell v)->H' s2.heap.objs.size = none ->
   Inv (bu X scope cl G.objs.size N s2 H2 fp) [(s2.heap.objs.size, ob)] σ' H' s' := fun {σ' H' s' ob} J' e d n => J'.pins_of fun p hp => by
  have e1 : p = (s2.heap.objs.size, ob) := by simpa using hp
  subst e1
  exact ⟨e, n, hDC, nDfs, d⟩
 have nocell : ∀ (ys : List Value) (n : Nat) v, (fq ys n).data ≠ .cell v := fun ys n v z => by cases (show Data.seq ys.toArray n = Data.cell v from z)
 have loop : ∀ s₃ : Shared, s₃ = { s2 with heap := h₁, toks := s2.toks + ([] : List (Str × Value)).length } ->
   codeAny (model X.prog X.w) X.A (.compLoop (.ListComp elt [⟨.Name x px, iter, ifs, 0⟩] scope pos) 0 (.ref it) (.ref s2.heap.objs.size) (compEnvC scope cl G.objs.size X.env)) (RR (.ref s2.heap.objs.size) G.objs.size) s₃ := by
  rintro s₃ rfl
  refine codeAny_compLoop_tests
   (fun n s' => ∃ i ys vs e H' a, Inv (bu X scope cl G.objs.size N s2 H2 fp) [(s2.heap.objs.size, fq vs e)] (ie cap σ a) H' s'/\tn i s'.heap/\(∀ b ∈ fp, H' b = none)/\bb ys vs/\H' s2.heap.objs.size = none/\W i n ys H') ?_ m0
   ⟨0, [], [], 0, H2, none, pinD (QiW S I2 hCle fp2 hns₁ old) hacc (nocell _ _) fD2, st1, fun b hb => (f2 b hb).1, .nil, fD2, w0⟩
  rintro n s3 ⟨i, ys, vs, e, H3, a, I3, st3, fr3, rel3, fD3, w3⟩
  obtain ⟨hlen, hcase⟩ := turn i n ys H3 w3
  have pl1 : ∀ p ∈ [(s2.heap.objs.size, fq vs e)], p.1 = s2.heap.objs.size := fun p hp => by
   have e1 : p = (s2.heap.objs.size, fq vs e) := by simpa using hp
   rw [e1]
  rcases hcase with ⟨stop, fin⟩ | ⟨go, step⟩
  ·refine Qmt (T.done (bu X scope cl G.objs.size N s2 H2 fp) rfl rfl rfl hc i _ s3 _ H3 (fun _ _ => False) I3 (fpB fr3 pl1) st3 stop) (fun r s4 ⟨hr, I4⟩ => ?_) fun _ _ z => z.elim
   subst hr
   obtain ⟨hD4, hDn, _, _, _⟩ := I4.pin (s2.heap.objs.size, fq vs e) (by simp [bu])
   have un4 : Un (frs X.stack) fp H2 H3 s2.heap s4.heap := I4.base
   have un5 : Un (frs X.stack) fp H2 (upd H3 s2.heap.objs.size (.lst ys)) s2.heap s4.heap := un4.track (QlX _) hDn
   have ok5 : HOk X.prog X.w (upd H3 s2.heap.objs.size (.lst ys)) s4.heap := HOk.track I4.hok hDn ⟨Nat.le_of_lt hlen, vs, e, rel3, hD4⟩
   have I5 : Inv X QlP σ (upd H3 s2.heap.objs.size (.lst ys)) s4 := I2.call' I4.os un5 ok5 I4.bare fun b hb => ⟨(f2 b hb).2.2.2.1, (f2 b hb).2.1, (f2 b hb).2.2.2.2.1, (f2 b hb).2.2.2.2.2⟩
   obtain ⟨m, hnC, _⟩ := I4.loc
   have hnC' : s4.heap.Ns G.objs.size m := hnC
   obtain ⟨oC, es, ep, hoC, hdC, hrC⟩ := id hnC'
   have hHC : (upd H3 s2.heap.objs.size (.lst ys)) G.objs.size = none := by
    rw [bo (Ne.symm hDC)]
    exact I4.free
   have fC : fj X QlP (upd H3 s2.heap.objs.size (.lst ys)) G.objs.size := by
    refine ⟨hHC, Nat.ne_of_gt (Qmb I2.lt hCle), I2.nofs hCle, .inr (Qmh I2.sz hCle), fun y c q => (nDx y c q).2, fun p hp z => ?_⟩
    have := nPx p hp
    rw [z] at this
    exact absurd (Qmb this hCle) (Qmk _)
   refine hRR s2.heap.objs.size G.objs.size s4 ys H3 oC m (I5.pins_of fun p hp => ?_) (fun h q => ⟨oC, es, ep, q, hdC, hrC⟩) fC hDn fin
   rcases List.mem_append.mp hp with hp | hp
   ·exact I5.pin p (QlT _ hp)
   ·have e1 : p = (G.objs.size, oC) := by simpa using hp
    subst e1
    exact ⟨hoC, hHC, fC.2.1, fC.2.2.1, fun v z => by rw [hdC] at z; cases z⟩
  ·refine Qmt (T.item (bu X scope cl G.objs.size N s2 H2 fp) rfl rfl rfl hc i _ s3 _ H3 (fun _ _ => False) I3 (fpB fr3 pl1) st3 go) (fun r s4 ⟨u, hr, h4⟩ => ?_) fun _ _ z => z.elim
   subst hr
   show wpAny _ _ (letOwnedTupleGo (.Name x px) (.ref it) u >>= fun _ => assign (.Name x px) (compEnvC scope cl G.objs.size X.env) u) _ _ s4
   refine Qmn (Qmt h4 (fun _ s5 ⟨v, H5, I5, r5, y5, st5, fr5⟩ => ?_) fun _ _ z => z.elim)
   have I5' := I5.pinned (fpB fr5 pl1) (T.obj _ _ st5)
   have hloc : (bu X scope cl G.objs.size N s2 H2 fp).env.scope.names.lookup x = some .local := lookup_relabel_local S.loc
   refine Qmt (zz (X := bu X scope cl G.objs.size N s2 H2 fp) (i := 0) (pos := px) S.nd S.n0 (.inl hloc) (.inr hloc) _ s5 _ H5 v u (fun σ6 H6 => σ6 = ie cap σ (some v)/\H6 = H5) I5' r5 ⟨rfl, rfl⟩) (fun _ s6 ⟨σ6, H6, I6, e6, e6'⟩ => ?_) fun _ _ z => z.elim
   subst e6 e6'
   refine Qmt (ht _ _ _ _ _ s6 _ H6 _ I6 (step v H6 y5)) (fun ok s7 ⟨H7, I7, q7⟩ => ?_) fun _ _ z => z.elim
   have after : ∀ {H8 : Hp} {s8 : Shared}, Inv (bu X scope cl G.objs.size N s2 H2 fp) ([(s2.heap.objs.size, fq vs e)] ++ sf fp s5.heap) (ie cap σ (some v)) H8 s8 ->
     tn (i + 1) s8.heap/\(∀ b ∈ fp, H8 b = none)/\s8.heap.get? s2.heap.objs.size = some (fq vs e)/\H8 s2.heap.objs.size = none := fun {H8 s8} I8 => by
    refine ⟨T.keep _ _ _ st5 fun b hb o q => (I8.pin (b, o) (QlT _ (QlT _ (qk hb q)))).1, fun b hb => ?_, (I8.pin (s2.heap.objs.size, fq vs e) (QlT _ (List.mem_append_left _ QlU))).1, (I8.pin (s2.heap.objs.size, fq vs e) (QlT _ (List.mem_append_left _ QlU))).2.1⟩
    obtain ⟨o, q, _⟩ := T.obj _ _ st5 b hb
    exact (I8.pin (b, o) (QlT _ (QlT _ (qk hb q)))).2.1
   cases ok with
   | false =>
    rw [Qmp QlQ] at q7 ⊢
    obtain ⟨m', hm, w7⟩ := q7
    obtain ⟨st7, fr7, hD7, fD7⟩ := after I7
    exact ⟨m', hm, i + 1, ys, vs, e, H7, some v, I7.unpinned, st7, fr7, rel3, fD7, w7⟩
   | true =>
    rw [Qmo rfl] at q7 ⊢
    refine Qmt (he _ _ _ _ _ s7 _ H7 _ I7 q7) (fun yv s8 ⟨y, H8, I8, r8, m', hm, w8⟩ => ?_) fun _ _ z => z.elim
    obtain ⟨st8, fr8, hD8, fD8⟩ := after I8
    refine append_at (hsz := by rw [QlW, <-rel3.length]; exact Nat.le_of_lt hlen) hD8 fun h9 hs9 hD9 => ?_
    have I8u : Inv (bu X scope cl G.objs.size N s2 H2 fp) [] (ie cap σ (some v)) H8 s8 := I8.pins_of fun p hp => absurd hp (by simp)
    have I9 : Inv (bu X scope cl G.objs.size N s2 H2 fp) [] (ie cap σ (some v)) H8 { s8 with heap := h9 } :=
     I8u.turned (t' := s8.toks) (it := s2.heap.objs.size) (fun b o hb q => (hs9.2 b hb).trans q) fD8 hDC (.inr (QlX _)) (fun y c q => (nDx y c (S.sub y c q)).1) fun p hp => absurd (show p ∈ ([] : List (Addr × Obj)) from hp) (by simp)
    have hD9' : h9.get? s2.heap.objs.size = some (fq (vs ++ [yv]) (e + 1)) := by
     rw [hD9]
     show some ({ cls := .type "list", data := .seq (vs.toArray.push yv) (e + 1) } : Obj) = some { cls := .type "list", data := .seq (vs ++ [yv]).toArray (e + 1) }
     rw [List.push_toArray]
    refine ⟨m', hm, i + 1, ys ++ [y], vs ++ [yv], e + 1, H8, some v, pinD I9 hD9' (nocell _ _) fD8, ?_, fr8, rel3.append (.cons r8 .nil), fD8, w8⟩
    exact T.keep _ _ _ st8 fun b hb o q => (hs9.2 b (Qme (flt b hb))).trans q
 exact codeAny_compStart_list (loop _ rfl) (T.self _ 0 _ _ _ st1 (loop _ rfl))
theorem pe_comp {wi : TI} (hc : X.calm = true) (hi : PI X (.Name x px) iter wi) (S : CompSc X scope x cl N cap) (ht : ∀ C s H ex, PTs (bu X scope cl C N s H ex) ifs tt) (he : ∀ C s H ex, PE (bu X scope cl C N s H ex) elt te)
  (hs : ∀ z, foldedSetIterable iter X.env z = pure z := by intro _; rfl) : PE X (.ListComp elt [⟨.Name x px, iter, ifs, 0⟩] scope pos) (QbT wi cap tt te) := by
 intro QlP s σ H Q I h
 rw [eval_ListComp]
 refine wpAny_comprehension_free (use := none) rfl hs S.clos S.kind S.names (thn (hi QlP s σ H _ I h) fun v s1 h1 => thn h1 fun itv s2 h2 => ?_)
 obtain ⟨it, fp, tn, J, H2, e, I2, T, st2, f2, h⟩ := h2
 subst e
 refine Qec (RR := fun acc C => compPost (model X.prog X.w) X.A X.xe none (EP X QlP σ Q) acc C) hc S ht he I2 T st2 f2 h fun D C s4 ys H3 oC m I4 hnC fC hD fin => ?_
 have hoC := (I4.pin (C, oC) (QlT _ (QlT _ QlU))).1
 refine ⟨m, hnC _ hoC, fun h' hs' => ?_⟩
 exact ⟨.ref D, _, I4.unpinned.turned (t' := s4.toks) (it := C) (fun b o hb q => (hs'.2 b hb).trans q) fC.1 fC.2.1 fC.2.2.2.1 fC.2.2.2.2.1 fC.2.2.2.2.2, rfl, fin D hD⟩
theorem QiE {wi : TI} {i : Nat} {y : Str} {py spos : Pos} (hN : X.N.Nodup) (hy : X.N[i]? = some y) (hL : X.env.scope.names.lookup y = some .local) (hc : X.calm = true) (hi : PI X (.Name x px) iter wi) (S : CompSc X scope x cl N cap)
  (ht : ∀ C s H ex, PTs (bu X scope cl C N s H ex) ifs tt) (he : ∀ C s H ex, PE (bu X scope cl C N s H ex) elt te)
  (hsw : swapsWith (.ListComp elt [⟨.Name x px, iter, ifs, 0⟩] scope pos) (some (.Name y py)) spos.line X.env = pure true := by rfl)
  (hs : ∀ z, foldedSetIterable iter X.env z = pure z := by intro _; rfl) : PS X (.Assign [.Name y py] (.ListComp elt [⟨.Name x px, iter, ifs, 0⟩] scope pos) spos) (qa (QbT wi cap tt te) (jm i)) := by
 intro QlP s σ H D I h
 rw [exec_Assign_Name_used _ _ _ _ hsw]
 refine Qmn (wpAny_standAt (Qmn ?_))
 show wpAny _ X.A (do let _ <-comprehension (.ListComp elt [⟨.Name x px, iter, ifs, 0⟩] scope pos) scope X.env _ (newList []) false (eval iter X.env) (some (assign (.Name y py) X.env))) _ _ s
 refine Qmn (Qmt (wpAny_comprehension_free (use := some (assign (.Name y py) X.env)) (Q := fun _ s' => SP X QlP D .next s') rfl hs S.clos S.kind S.names
  (thn (hi QlP s σ H _ I h) fun v s1 h1 => thn h1 fun itv s2 h2 => ?_)) (fun _ s' hq => Qmr (Qmr hq)) fun _ _ e => e)
 obtain ⟨it, fp, tn, J, H2, e, I2, T, st2, f2, h⟩ := h2
 subst e
 refine Qec (RR := fun acc C => compPost (model X.prog X.w) X.A X.xe (some (assign (.Name y py) X.env)) (fun _ s' => SP X QlP D .next s') acc C) hc S ht he I2 T st2 f2 h fun d C s4 ys H3 oC m I4 hnC fC hD fin => ?_
 show wpAny _ X.A (assign (.Name y py) X.env (.ref d)) _ _ s4
 refine wpAny_assign_Name (wx (v := .ref d) I4 hN hy (.inl hL) rfl (fun s5 I5 => ?_) (.inr hL))
 have hoC := (I5.pin (C, oC) (QlT _ (QlT _ QlU))).1
 refine ⟨m, hnC _ hoC, fun h' hs' => ?_⟩
 exact ⟨σ.set i (some (.ref d)), _, I5.unpinned.turned (t' := s5.toks) (it := C) (fun b o hb q => (hs'.2 b hb).trans q) fC.1 fC.2.1 fC.2.2.2.1 fC.2.2.2.2.1 fC.2.2.2.2.2, fin d hD⟩
end
theorem QlA {x : V} (h : lr x = true) : eqV x x = true := by
 cases x with
 | non => rfl
 | bl b => simp [eqV]
 | int i => simp [eqV]
 | str z => simp [eqV]
 | _ => exact absurd (show false = true from h) QlQ
theorem bb.at {xs : List V} {us : List Value} (r : bb xs us) {j : Nat} (h : j < us.length) : ∃ x, xs[j]? = some x/\aq x us[j] := by
 have hl := r.length
 have hj : j < xs.length := by omega
 obtain ⟨u, hu, ru⟩ := r.get (i := j) (x := xs[j]) (QlR hj)
 have e : us[j] = u := by
  have := QlR h
  rw [this] at hu
  exact Qmu hu
 exact ⟨_, QlR hj, by rw [e]; exact ru⟩
section
variable {X : Cx} {QlP : List (Addr × Obj)} {σ : St} {H : Hp} {s : Shared}
end
section
variable {X : Cx}
end
section
open PySem.SeqAt
open PySem.AutoSeq1 (wpAny_loadPart')
open PySem.MeetsSeq PySem.MeetsSeq2 PySem.MeetsSeq3
end
section
variable {X : Cx} {QlP : List (Addr × Obj)} {σ : St} {H : Hp} {s : Shared}
end
section
variable {X : Cx} {QlP : List (Addr × Obj)} {σ : St} {H : Hp} {s : Shared} {h' : Heap}
end
section
variable {X : Cx} {k : Nat} {f : Addr} {fd : FuncData} {pn : Str} {sp : Sp}
end
def ud (B : Heap) (l : List Env) (L e : Addr) (cls : Value) (h : Heap) : Prop :=
 B.StaysIn h/\B.get? e = none/\h.FunFrames B l /\
  ((∃ oe vs a0, h.get? e = some oe/\oe.cls = cls/\oe.data = .fields vs/\vs[0]? = some a0/\vs[1]? = some Value.none)\/(∃ a0, h.TracedW B e cls a0)\/∃ a0, h.TracedAtW B e cls a0 (rawInt L))
section
variable {M : Model} {A : Around} {E : Value->Shared->Prop} {s : Shared} {B : Heap} {env : Env} {outer : List Env} {L e : Addr} {cls : Value}
theorem QaP {Q : Unit->Shared->Prop} (hfr : A.frames = some (env :: outer)) (hf : env.frame = some L) (x : ud B (env :: outer) L e cls s.heap)
  (hQ : ∀ h' a0, Heap.HeldW B (env :: outer) e cls a0 L h'->s.heap.UpToSlots h'->Q () { s with heap := h' }) : wpAny M A (noteFrame (.ref e) env) Q E s := by
 obtain ⟨x1, x2, x3, x4⟩ := x
 rcases x4 with ⟨oe, vs, a0, he, hc, hd, h0, h1⟩ | ⟨a0, ht⟩ | ⟨a0, ht⟩
 ·subst hc
  unfold noteFrame
  simp only [hf]
  refine Qmn (wpAny_field he hd h1 ?_)
  rw [Qmp (by decide)]
  exact wpAny_entryW hfr x3 hf he x1 x2 hd (Array.getElem?_eq_some_iff.mp h1).1 h0 fun h' ⟨k1, k2, k3, k4⟩ => hQ h' a0 ⟨k1, x2, k2, k3⟩ k4
 ·exact wpAny_looks_onW hfr hf ⟨x1, x2, x3, ht⟩ fun h' k1 k2 => hQ h' a0 k1 k2
 ·exact wpAny_noteFrame_againW hf ht (hQ s.heap a0 ⟨x1, x2, x3, ht⟩ (Heap.UpToSlots.refl _))
theorem Qik {l : List Env} {a0 : Value} {Q : Unit->Shared->Prop} (R : Heap.HeldW B l e cls a0 L s.heap)
  (h : ∀ h', Heap.HeldW B l e cls a0 L h'->s.heap.UpToSlots h'->Q () { s with heap := h' }) : wpAny M A (setFlight (.ref e) (some L)) Q E s := by
 obtain ⟨hkb, hen, hl, oe, vs, T, oT, ts, he, hcls, hd, h1, hnT, hTe, hT, hdT, h3⟩ := R
 have hsz3 : 3 < ts.size := (Array.getElem?_eq_some_iff.mp h3).1
 have other : ∀ b, b ≠ T->(s.heap.update T (Obj.mapFields (·.setIfInBounds 3 ((some L).elim Value.none fun f => rawInt f)))).get? b = s.heap.get? b :=
  fun b hb => Heap.get?_update_other _ _ (Ne.symm hb)
 have noRecord : ∀ b o, s.heap.get? b = some o->(∀ vs, o.data ≠ .fields vs)->b ≠ T := fun b o hb hnf q => by
  rw [q, hT] at hb; injection hb with hb; subst hb; exact hnf ts hdT
 unfold setFlight
 refine Qmn (wpAny_field he hd h1 ?_)
 rw [Qmo (show (Value.ref T != Value.none) = true from by simp)]
 refine wpAny_setField hT hdT hsz3 (h _ ⟨fun b o hbo => (other b fun q => by rw [q, hnT] at hbo; cases hbo).trans (hkb b o hbo), hen,
  hl.of_keeps fun b o hb hnf => ⟨o, (other b (noRecord b o hb hnf)).trans hb, rfl⟩, ?_⟩ fun b o hb hnf => ⟨o.slots, (other b (noRecord b o hb hnf)).trans hb⟩)
 exact ⟨oe, vs, T, _, _, (other e (Ne.symm hTe)).trans he, hcls, hd, h1, hnT, hTe, Heap.get?_update_self _ hT (Obj.isFreed_of_fields (Obj.data_mapFields hdT _)), Obj.data_mapFields hdT _, by simp [hsz3]⟩
theorem QdW {l : List Env} {a0 : Value} {h : Heap} (R : Heap.HeldW B l e cls a0 L h) : ud B l L e cls h := ⟨R.1, R.2.1, R.2.2.1, .inr (.inr ⟨a0, R.2.2.2⟩)⟩
theorem Qil {l : List Env} {a0 : Value} {h : Heap} (R : Heap.FlyingW B l e cls a0 h) : ud B l L e cls h := ⟨R.1, R.2.1, R.2.2.1, .inr (.inl ⟨a0, R.2.2.2⟩)⟩
theorem QiP {Q : Unit->Shared->Prop} (hfr : A.frames = some (env :: outer)) (hf : env.frame = some L) (x : ud B (env :: outer) L e cls s.heap)
  (hQ : ∀ h' a0, Heap.FlyingW B outer e cls a0 h'->s.heap.UpToSlots h'->Q () { s with heap := h' }) : wpAny M A (leaving env (.ref e)) Q E s := by
 unfold leaving
 refine Qmn (QaP hfr hf x fun h1 a0 k1 k2 => ?_)
 refine wpAny_landsW k1 fun h2 k3 k4 => ?_
 obtain ⟨f1, f2, ⟨_, _, f3⟩, f4⟩ := k3
 exact hQ h2 a0 ⟨f1, f2, f3, f4⟩ (k2.trans k4)
end
structure OwnFr (X : Cx) : Prop where
 stk : X.stack = X.env :: X.outer
 fr : X.env.frame = some X.env.locals
 ex : X.ex = []
def iq (X : Cx) (H : Hp) (e : Addr) (cls : Value) (s' : Shared) : Prop :=
 ∃ QlP σ sg B, Inv X QlP σ H sg/\s'.os = sg.os/\AllBare s'.gens/\(∀ b o, sg.heap.get? b = some o->b ∉ frs X.stack->B.get? b = some o)/\sg.heap.UpToSlots s'.heap/\ud B X.stack X.env.locals e cls s'.heap
def XE (X : Cx) (Φ : Value->Hp->Prop) : Value->Shared->Prop := fun e s' => ∃ ea cls H, e = .ref ea/\iq X H ea cls s'/\Φ cls H
def CXD (P : Program) (w : World) : CXT := fun outer H s E e s' => ∃ ea cls H' g B a0, e = .ref ea/\s'.os = s.os/\AllBare s'.gens/\Un (frs outer) [] H H' s.heap g/\HOk P w H' g /\
 (∀ b o, g.get? b = some o->b ∉ frs outer->B.get? b = some o)/\g.UpToSlots s'.heap/\Heap.FlyingW B outer ea cls a0 s'.heap/\E cls none H'
section
variable {X : Cx} {H : Hp} {e : Addr} {cls : Value} {s' : Shared}
theorem iq.unwish {E : Value->Shared->Prop} (x : iq (X.wish E) H e cls s') : iq X H e cls s' := by
 obtain ⟨QlP, σ, sg, B, I, h⟩ := x
 exact ⟨QlP, σ, sg, B, I.unwish, h⟩
theorem Qdw {h base : Heap} {l : List Env} (F : h.FunFrames base l) {b : Addr} (hb : b ∈ frs l) : ∃ o, h.get? b = some o/\∀ vs, o.data ≠ .fields vs := by
 induction l with
 | nil => cases hb
 | cons env r ih =>
  obtain ⟨hk, ⟨L, o, hf, hn, ho, hd⟩, hr⟩ := F
  unfold frs at hb
  rw [List.filterMap_cons, hf] at hb
  rcases List.mem_cons.mp hb with rfl | hb
  ·exact ⟨o, ho, hd⟩
  ·exact ih hr hb
theorem un_of_B {H : Hp} {g h B base : Heap} {l : List Env} (F : g.FunFrames base l) (hB : ∀ b o, g.get? b = some o->b ∉ frs l->B.get? b = some o) (st : B.StaysIn h) (up : g.UpToSlots h) : Un (frs l) [] H H g h := by
 have sl : ∀ b o, g.get? b = some o->b ∈ frs l->∃ sl, h.get? b = some { o with slots := sl } := fun b o e hb => by
  obtain ⟨o', ho, hd⟩ := Qdw F hb
  rw [e] at ho; cases ho
  exact up b o e hd
 refine ⟨fun b o e _ hb _ => st b o (hB b o e hb), fun b o e _ hb _ => sl b o e hb, fun _ _ _ n _ => n, fun b o e _ => ?_, fun _ _ e => e, fun _ _ _ e => e, fun b ps e => ⟨#[], by rw [e]; simp⟩⟩
 by_cases hb : b ∈ frs l
 ·obtain ⟨q, e'⟩ := sl b o e hb; exact ⟨_, e'⟩
 ·exact ⟨o, st b o (hB b o e hb)⟩
theorem Qlq {P : Program} {w : World} {H : Hp} {g h B : Heap} {l : List Env} (ok : HOk P w H g) (free : ∀ b ∈ frs l, H b = none) (hB : ∀ b o, g.get? b = some o->b ∉ frs l->B.get? b = some o) (st : B.StaysIn h) : HOk P w H h := fun a o e => by
 refine (ok a o e).stay (fun c v hc q => st c v (hB c v q fun z => ?_)) (fun _ q => q) fun _ _ q => q
 have := free c z
 rcases hc with rfl | hc
 ·rw [e] at this; cases this
 ·rw [hc] at this; cases this
end
section
variable {X : Cx} {QlP : List (Addr × Obj)} {σ : St} {H : Hp} {e : Addr} {cls : Value} {s s' : Shared}
theorem QeK {B h : Heap} {sg : Shared} {s2 : Shared} (I : Inv X QlP σ H sg) (os : s2.os = sg.os) (gn : AllBare s2.gens) (hB : ∀ b o, sg.heap.get? b = some o->b ∉ frs X.stack->B.get? b = some o) (st : B.StaysIn s2.heap) (up : sg.heap.UpToSlots s2.heap) :
  Inv X QlP σ H s2 := by
 obtain ⟨hh, g, d, t, os'⟩ := s2
 obtain rfl : os' = sg.os := os
 exact I.call (h' := hh) (g' := g) (d' := d) (t' := t) (ch := []) (un_of_B I.stack hB st up) (Qlq I.hok I.stkFree hB st) gn (fun b z => absurd z (by simp))
theorem iq.born {h' : Heap} {vs : List Value} (I : Inv X QlP σ H s) (hx : Heap.MadeExcOf s.heap h' e cls vs) : iq X H e cls { s with heap := h' } := by
 refine ⟨QlP, σ, s, PySem.W.hideAll s.heap (frs X.stack), I, rfl, I.bare, fun b o q n => PySem.W.hideAll_get _ q n, Heap.UpToSlots.of_keeps hx.keeps, fun b o q => hx.keeps b o (PySem.W.of_hideAll _ q), ?_, ?_, .inl ?_⟩
 ·cases q : (PySem.W.hideAll s.heap (frs X.stack)).get? e with
  | none => rfl
  | some o => have := PySem.W.of_hideAll _ q; rw [hx.new] at this; cases this
 ·have F := PySem.W.funFrames_hide (as := frs X.stack) I.stack fun env he a ha => List.mem_filterMap.mpr ⟨env, he, ha⟩
  exact F.of_keeps fun b o q _ => ⟨o, hx.keeps b o q, rfl⟩
 ·obtain ⟨t, h1, _, _⟩ := hx.there
  exact ⟨_, _, _, h1, rfl, rfl, rfl, rfl⟩
theorem iq.called {E : XK} {v : Value} (I : Inv X QlP σ H s) (x : CXD X.prog X.w X.stack H s E v s') : ∃ ea cls H', v = .ref ea/\iq X H' ea cls s'/\E cls none H' := by
 obtain ⟨ea, cls, H', g, B, a0, ev, os, gn, un, ok, hB, up, fl, q⟩ := x
 refine ⟨ea, cls, H', ev, ⟨QlP, σ, { s with heap := g }, B, ?_, os, gn, hB, up, Qil fl⟩, q⟩
 obtain ⟨hh, gg, d, t, os'⟩ := s
 exact I.call (h' := g) (g' := gg) (d' := d) (t' := t) (ch := []) un ok I.bare (fun b z => absurd z (by simp))
theorem QcO {Φ : Value->Hp->Prop} (O : OwnFr X) : PassesOwn (model X.prog X.w) X.A X.env (XE X Φ) := fun v s' h => by
 obtain ⟨ea, cls, H, rfl, ⟨QlP, σ, sg, B, I, os, gn, hB, up, L⟩, q⟩ := h
 have hf : X.A.frames = some (X.env :: X.outer) := by rw [I.ok.frames, O.stk]
 rw [O.stk] at L
 refine QaP hf O.fr L fun h1 a0 k1 k2 => ?_
 obtain ⟨_, _, _, oe, vs, T, oT, ts, he, hc, hd, h1', hnT, hTe, hT, hdT, h3⟩ := id k1
 show wpAny _ _ _ _ _ _
 refine Qmn (wpAny_field he hd h1' ?_)
 rw [Qmp (show ¬ ((Value.ref T == Value.none) = true) from by simp)]
 have go : wpAny (model X.prog X.w) X.A (setFlight (.ref ea) X.env.frame) (fun _ s'' => XE X Φ (.ref ea) s'') (XE X Φ) { s' with heap := h1 } := by
  rw [O.fr]
  refine Qik k1 fun h2 k3 k4 => ⟨ea, cls, H, rfl, ⟨QlP, σ, sg, B, I, os, gn, hB, (up.trans k2).trans k4, ?_⟩, q⟩
  rw [O.stk]; exact QdW k3
 first | exact go | exact Qmn (Qmr go)
theorem QjP {E : XK} {v : Value} {E2 : Value->Shared->Prop} (O : OwnFr X) (h : XE X (fun cls H' => E cls none H') v s') :
  wpAny (model X.prog X.w) X.A (leaving X.env v) (fun _ s'' => CXD X.prog X.w X.outer X.H₀ X.s₀ E v s'') E2 s' := by
 obtain ⟨ea, cls, H', rfl, ⟨QlP, σ, sg, B, I, os, gn, hB, up, L⟩, q⟩ := h
 have hf : X.A.frames = some (X.env :: X.outer) := by rw [I.ok.frames, O.stk]
 rw [O.stk] at L hB
 refine QiP hf O.fr L fun h1 a0 k1 k2 => ?_
 have nL : ∀ b o, X.s₀.heap.get? b = some o->b ∉ [X.env.locals] := fun b o e z => by
  have : b = X.env.locals := by simpa using z
  exact absurd (Qmb (this ▸ QlV e) I.ok.above) (Qmk _)
 have bs : Un (frs X.outer) [] X.H₀ H' X.s₀.heap sg.heap := by have := I.base; rw [O.ex] at this; exact this
 refine ⟨ea, cls, H', PySem.W.hideAll sg.heap [X.env.locals], B, a0, rfl, os.trans I.os, gn, ?_, ?_, fun b o e n => ?_, fun b o e n => ?_, k1, q⟩
 ·refine ⟨fun b o e n hb hx => PySem.W.hideAll_get _ (bs.keep b o e n hb hx) (nL b o e), fun b o e n hb hx => ?_, bs.free, fun b o e hx => ?_, bs.tups, bs.frzs, bs.tbls⟩
  ·obtain ⟨sl, e'⟩ := bs.slot b o e n hb hx
   exact ⟨sl, PySem.W.hideAll_get _ e' (nL b o e)⟩
  ·obtain ⟨o', e'⟩ := bs.there b o e hx
   exact ⟨o', PySem.W.hideAll_get _ e' (nL b o e)⟩
 ·intro a o e
  refine (I.hok a o e).stay (fun c u hc q' => PySem.W.hideAll_get _ q' fun z => ?_) (fun _ q => q) fun _ _ q => q
  have z : c = X.env.locals := by simpa using z
  have fr : H' X.env.locals = none := I.free
  rcases hc with rfl | hc
  ·rw [z, fr] at e; cases e
  ·rw [z, fr] at hc; cases hc
 ·have e' := PySem.W.of_hideAll _ e
  refine hB b o e' fun z => ?_
  have z : b ∈ X.env.locals :: frs X.outer := by
   unfold frs at z ⊢
   rw [List.filterMap_cons, O.fr] at z
   exact z
  rcases List.mem_cons.mp z with z | z
  ·have : (PySem.W.hideAll sg.heap [X.env.locals]).get? b = none := PySem.W.hideAll_none _ (by rw [z]; exact .head _)
   rw [e] at this; cases this
  ·exact n z
 ·exact (up.trans k2) b o (PySem.W.of_hideAll _ e) n
end
abbrev Cx.re (X : Cx) (A2 : Around) (b : Bool) (E : Value->Shared->Prop) : Cx := { X with A := A2, calm := b, xe := E }
theorem Inv.re {X : Cx} {QlP : List (Addr × Obj)} {σ : St} {H : Hp} {s : Shared} {A2 : Around} {b : Bool} {E : Value->Shared->Prop} (I : Inv X QlP σ H s) (hf : A2.frames = X.A.frames) (hd : b = true->A2.handled = none) : Inv (X.re A2 b E) QlP σ H s :=
 have ok := I.ok
 ⟨⟨ok.mod, ok.kind, ok.glob, ok.blt, ok.above, ok.inj, ok.has, ok.cab, hd, hf.trans ok.frames, ok.stk, ok.exf, ok.bs, ok.bsz, ok.noex, ok.exfs, ok.funs, ok.frf⟩, I.os, I.bare, I.base, I.loc, I.cell, I.free, I.freeC, I.pin, I.hok, I.len⟩
structure ExCls (K : PySem.W.Frag) (x : Str) (C : Addr) : Prop where
 ns : PySem.W.nsIn K mainGlobals x = some (some (.ref C))
 ok : ∃ B newId initId bmB, PySem.W.excIn K C bmB newId = true/\ExcBaseFacts B newId initId bmB
theorem own_of {K : PySem.W.Frag} {h : Heap} {mg : Str->Option Value} {x : Str} {C : Addr} {bmB : List Value} {newId : String} (X : K.In h) (e : mg x = some (.ref C)) (q : PySem.W.excIn K C bmB newId = true) : OwnCls x C bmB newId mg h := by
 refine ⟨e, ?_⟩
 unfold PySem.W.excIn at q
 split at q
 ·rename_i dd cd sl ho
  split at q
  ·rename_i C' bm k0 k1 k2 k3 n k5 hm hs
   simp only [Qmj, beq_iff_eq, Bool.not_eq_true'] at q
   obtain ⟨⟨⟨⟨⟨rfl, rfl⟩, hdel⟩, ht⟩, hok⟩, hni⟩ := q
   obtain ⟨nm, bs, mro, ns, qn, hd, sn, sub, ab, col, del⟩ := cd
   dsimp only at hm hdel hok hni
   subst hm hdel
   obtain rfl : sl = #[k0, k1, k2, k3, some (.builtin n), k5] := by cases sl; simp only at hs; rw [hs]
   exact ⟨bm, ns, nm, qn, bs, hd, sn, sub, ab, col, dd, k0, k1, k2, k3, k5, _, X _ _ ho, .of_isNs (PySem.W.isNs_of_in X hok), PySem.W.nsMap_none_of_in X hok hni, PySem.W.tail_of_in X ht⟩
  ·cases q
 ·cases q
section
variable {X : Cx} {x : Str} {C : Addr} {np cpos pos : Pos} {e : Expr} {es : List Expr} {t : TA}
def tRaise (X : Cx) (C : Addr) (t : TA) : TS := fun _ σ H => t σ H fun vs H1 => vs.length<=sizeLine/\∀ e s', iq X H1 e (.ref C) s'->X.xe (.ref e) s'
theorem QkJ (hc : X.calm = true) (c : ExCls X.K x C) (hg : Gl X x) (ha : PA X (e :: es) t) (hdb : (x == ("__debug__" : Str)) = false := by decide)
  (he : starEach (e :: es) X.env = (false, eval e X.env) :: starEach es X.env := by rfl) (hpl : (backTo cpos (starEach es X.env)).any (·.1) = false := by rfl) :
  PS X (.Raise (some (.Call (.Name x np) (e :: es) [] cpos)) none pos) (tRaise X C t) := by
 intro QlP s σ H D I h
 have hm : X.mg x = some (.ref C) := PySem.W.mg_of I.ok.mod.kin I.ok.mod.glob c.ns
 obtain ⟨B, newId, initId, bmB, q, FB⟩ := c.ok
 obtain ⟨tl, N, nm, qn, bs, hdct, sn, sub, ab, col, dd, k0, k1, k2, k3, k5, mN, hC, hN, hni, T⟩ := (own_of (mg := X.mg) (x := x) I.ok.mod.kin hm q).obj
 refine wpAny_Raise_call_subT (C := C) (nm := nm) (q := qn) (N := N) (bs := bs) (bm := tl) (hdct := hdct) (sn := sn) (sub := sub) (ab := ab) (col := col) (dd := dd) (k0 := k0) (k1 := k1) (k2 := k2) (k3 := k3) (k5 := k5)
  FB (mN := mN) (T.hasType FB.hasBase) (I.ok.hd hc) (by rw [he]; show (false || (backTo cpos (starEach es X.env)).any (·.1)) = false; rw [hpl]; rfl) hni (xm I hg hm ⟨rfl, ?_⟩ hdb)
 have h2 := ha cpos QlP s σ H _ I h
 rw [he] at h2 ⊢
 exact Calls.evalArgs_plain (Qmt h2 (fun vs s₂ ⟨xs, H1, I1, r, z, q⟩ => ⟨rfl, by rw [<-r.length]; exact z, I1.bk _ _ hC, hN.keeps I1.bk, T.keeps I1.bk, fun h' e hx => q e _ (iq.born I1 hx)⟩) fun _ _ y => y)
end
structure RoomB (b : Bool) (k : Nat) (A : Around) : Prop where
 hd : b = true->A.handled = none
 dp : A.depth + 3 * k + 5 < recursionLimit
 un : A.units + 16 * k + 200 < cLine
theorem RoomB.mono {b : Bool} {j k : Nat} {A : Around} (r : RoomB b k A) (h : j<=k) : RoomB b j A := ⟨r.hd, by have := r.dp; omega, by have := r.un; omega⟩
theorem RoomB.deeper {b : Bool} {k : Nat} {A : Around} (r : RoomB b (k + 1) A) (env : Env) : RoomB b k (A.deeper env) :=
 ⟨r.hd, by have := r.dp; show A.depth + 1 + 3 * k + 5 < _; omega, by have := r.un; show A.units + 3 + 16 * k + 200 < _; omega⟩
theorem RoomB.depth {b : Bool} {k : Nat} {A : Around} (r : RoomB b k A) : A.depth < recursionLimit := by have := r.dp; omega
theorem RoomB.mark {b : Bool} {k : Nat} {A : Around} (r : RoomB b k A) (e : Option Value) : RoomB false k (A.mark e) := ⟨(fun z => nomatch z), r.dp, r.un⟩
structure FnX (b : Bool) (P : Program) (w : World) (K : PySem.W.Frag) (mg : Str->Option Value) (base : Heap) (k : Nat) (f : Addr) (fd : FuncData) (ps : List Str) (sp : Sp) : Prop where
 len : ∀ vs H Q E, sp vs H Q E->vs.length = ps.length
 run : ∀ (A : Around) (outer : List Env) (s : Shared) (H : Hp) (args : Args) (us : List Value) (vs : List V) (Q : VK) (E : XK), RoomB b k A->Env0 P w K mg base A outer s H->BindsTo s fd args (ps.zip us)->bb vs us->sp vs H Q E ->
  codeAny (model P w) A (.call (.ref f) args) (CR (CXD P w) outer P w H s Q E) s
theorem FnX.mono {b : Bool} {P : Program} {w : World} {K : PySem.W.Frag} {mg : Str->Option Value} {base : Heap} {j k : Nat} {f : Addr} {fd : FuncData} {ps : List Str} {sp : Sp} (F : FnX b P w K mg base j f fd ps sp) (h : j<=k) :
  FnX b P w K mg base k f fd ps sp := ⟨F.len, fun A outer s H args us vs Q E hr => F.run A outer s H args us vs Q E (hr.mono h)⟩
section
variable {X : Cx} {b : Bool} {k : Nat} {f : Addr} {fd : FuncData} {ps : List Str} {sp : Sp} {x : Str} {p pos : Pos} {e : Expr} {es : List Expr} {t : TA} {E : XK}
theorem run_fnX {QlP : List (Addr × Obj)} {σ : St} {H : Hp} {s : Shared} {Q : VK} {us : List Value} {vs : List V} (F : FnX b X.prog X.w X.K X.mg X.base k f fd ps sp) (hr : RoomB b k X.A) (hb : fv X.K fd ps []) (hx : yd (CXD X.prog X.w) X E)
  (I : Inv X QlP σ H s) (r : bb vs us) (h : sp vs H Q E) : wpAny (model X.prog X.w) X.A (call (.ref f) us) (EP X QlP σ Q) X.xe s := by
 have hl : us.length = ps.length := by rw [<-r.length]; exact F.len _ _ _ _ h
 have hb' := hb s us I.kIn (by rw [List.append_nil]; exact hl)
 rw [List.append_nil] at hb'
 refine wpAny_call (codeAny_mono (F.run X.A X.stack s H ⟨us, []⟩ us vs Q E hr I.env0 hb' r h) fun r s' hq => ?_)
 cases r with
 | error e => exact hx QlP σ H s e s' I hq
 | ok fl =>
  cases fl with
  | ret u => exact I.after hq
  | next => exact False.elim hq
  | brk => exact False.elim hq
  | cont => exact False.elim hq
def tCallX (X : Cx) (sp : Sp) (t : TA) : TE := fun σ H Q => t σ H fun vs H1 => ∃ E, yd (CXD X.prog X.w) X E/\sp vs H1 Q E
theorem Qez (F : FnX b X.prog X.w X.K X.mg X.base k f fd ps sp) (hr : RoomB b k X.A) (hg : Gl X x) (hm : X.mg x = some (.ref f)) (hk : PySem.W.keepIn X.K (.ref f) = true) (hb : fv X.K fd ps [])
  (ha : PA X (e :: es) t) (hdb : (x == ("__debug__" : Str)) = false := by decide) (he : starEach (e :: es) X.env = (false, eval e X.env) :: starEach es X.env := by rfl) (hpl : (backTo pos (starEach es X.env)).any (·.1) = false := by rfl) :
  PE X (.Call (.Name x p) (e :: es) [] pos) (tCallX X sp t) := by
 intro QlP s σ H Q I h
 refine wpAny_Call_Name_kw (xm I hg hm ?_ hdb)
 refine PySem.W.callWith_K (h₀ := X.base) I.ok.mod.kin hk (thn (ha pos QlP s σ H _ I h) fun us s1 ⟨vs, H1, I1, r, E, hx, q⟩ => ⟨I1.kIn, ?_⟩) he hpl
 exact run_fnX F hr hb hx I1 r q
end
def cxB (b : Bool) (P : Program) (w : World) (K : PySem.W.Frag) (mg : Str->Option Value) (base : Heap) (N : List Str) (qual : Str) (scope : Scope) (f : Addr) (cd : Value) (A : Around) (outer : List Env) (s : Shared) (H : Hp) : Cx :=
 (nb CX0 P w K mg base N qual scope f cd A outer s H fun _ _ _ => False).re (A.deeper (envOfC qual scope s.heap.objs.size f cd)) b fun _ _ => False
theorem QfR {b : Bool} {P : Program} {w : World} {K : PySem.W.Frag} {mg : Str->Option Value} {base : Heap} {N : List Str} {qual : Str} {scope : Scope} {f : Addr} {cd : Value} {A : Around} {outer : List Env} {s : Shared} {H : Hp} :
  OwnFr (cxB b P w K mg base N qual scope f cd A outer s H) := ⟨rfl, rfl, rfl⟩
theorem fn_ofX {b : Bool} {P : Program} {w : World} {K : PySem.W.Frag} {mg : Str->Option Value} {base : Heap} {k : Nat} {f : Addr} {name qual : Str} {params : Arguments} {body : List Stmt} {scope : Scope} {dV kV doc pm cdv ct oc : Value} {an od : Option Addr}
  {osl : Array (Option Value)} {N ps : List Str} {sp : Sp} (lk : K.lookup f = some ⟨oc, od, .func (PySem.W.fnOf name qual params body scope dV kV doc pm an cdv ct), osl⟩) (hcd : PySem.W.codeIn K cdv qual = true) (S : FnScope N ps scope)
  (len : ∀ vs H Q E, sp vs H Q E->vs.length = ps.length)
  (hbody : ∀ (A : Around) (outer : List Env) (s : Shared) (H : Hp) (vs : List V) (Q : VK) (E : XK), RoomB b k (A.deeper (envOfC qual scope s.heap.objs.size f cdv))->sp vs H Q E ->
   ∃ t, PSs ((cxB b P w K mg base N qual scope f cdv A outer s H).wish (XE (cxB b P w K mg base N qual scope f cdv A outer s H) fun cls H' => E cls none H')) body t/\t { nx := fun _ H' => Q .non H', rt := Q } (start N vs) H) :
  FnX b P w K mg base (k + 1) f (PySem.W.fnOf name qual params body scope dV kV doc pm an cdv ct) ps sp := by
 refine ⟨len, fun A outer s H args us vs Q E hr e0 hb r hsp => ?_⟩
 have hl := len _ _ _ _ hsp
 have KX : K.In s.heap := e0.mod.kin.keeps fun b o e => (e0.bs b o e).1
 have lim : s.heap.NoLimit := e0.mod.nolimit.keeps fun b o e => (e0.bs b o e).1
 have hkind : ∀ y ∈ ps.zip us, scope.names.lookup y.1 = some .local\/(scope.names.lookup y.1 = some .cell/\((cellsFrom (s.heap.objs.size + 1) scope.names []).lookup y.1).isSome = true) := fun ⟨n, v⟩ hy => by
  rcases S.par n (List.of_mem_zip hy).1 with q | q
  ·exact .inl q
  ·exact .inr ⟨q, PySem.W.cellsFrom_some _ _ _ (.inl q)⟩
 refine codeAny_call_function hr.depth (KX _ _ lk) rfl S.co S.gen rfl (PySem.W.codeRec_of KX hcd) (hb _ _ _ _ ?_)
 refine wpAny_newFunctionEnv_cells S.kind hkind fun env he s1 x => ?_
 subst he
 refine ⟨lim.keeps x.toInCall.keep, codeAny_func ?_⟩
 obtain ⟨t, ht, hq⟩ := hbody A outer s H vs Q E (hr.deeper _) hsp
 have e0' : Env0 P w K mg base { A with handled := none } outer s H := ⟨e0.frames, e0.mod, e0.bs, e0.bsz, e0.funs, e0.frf, e0.hok, e0.bare⟩
 have I0 : Inv (nb CX0 P w K mg base N qual scope f cdv { A with handled := none } outer s H fun _ _ _ => False) [] (start N vs) H s1 := QdS S rfl e0' hl r x
 have I : Inv (cxB b P w K mg base N qual scope f cdv A outer s H) [] (start N vs) H s1 := I0.re rfl hr.hd
 refine Qmt (ht [] s1 (start N vs) H _ (I.wish _) hq) (fun fl s' hs => ?_) fun e s' hs => QjP QfR hs
 have fin : ∀ {σ' : St} {H' : Hp} {v : V} {u : Value}, Inv (cxB b P w K mg base N qual scope f cdv A outer s H) [] σ' H' s'->aq v u->Q v H'->CE outer P w H s Q u s' :=
  fun {σ' H' v u} J rv q => ⟨v, H', J.os, J.bare, J.base, J.hok, rv, q⟩
 have hs := SP.unwish hs
 cases fl with
 | ret u =>
  obtain ⟨v, σ', H', J, rv, q⟩ := hs
  exact fin J rv q
 | next =>
  obtain ⟨σ', H', J, q⟩ := hs
  exact fin (v := V.non) (u := Value.none) J rfl q
 | brk =>
  obtain ⟨_, _, _, q⟩ := hs
  exact False.elim q
 | cont =>
  obtain ⟨_, _, _, q⟩ := hs
  exact False.elim q
section
variable {X : Cx} {QlP : List (Addr × Obj)} {σ : St} {H : Hp} {s : Shared}
theorem Inv.locals {h' : Heap} {t' : Nat} {σ' : St} {m' : Str->Option Value} (I : Inv X QlP σ H s) (hs : Heap.SameBut X.env.locals s.heap h') (hn' : h'.Ns X.env.locals m') (hl : σ'.length = σ.length)
  (hv : ∀ (i : Nat) (x : Str) (v : V), X.N[i]? = some x->σ'[i]? = some (some v)->Vis X.env.scope x->∃ u, aq v u/\Look X.env h' m' x u) : Inv X QlP σ' H { s with heap := h', toks := t' } := by
 have cne := I.cne
 obtain ⟨m, ⟨oL, _, _, hoL, _⟩, _⟩ := id I.loc
 refine ⟨I.ok, I.os, I.bare, ⟨fun b o e n hb hx => ?_, fun b o e n hb hx => ?_, I.base.free, fun b o e hx => ?_, I.base.tups, I.base.frzs, I.base.tbls⟩, ⟨m', hn', hv⟩, fun y c e => ?_, I.free, I.freeC, fun p hp => ?_, fun b ob e => ?_, hl.trans I.len⟩
 ·exact (hs.2 b (Qme (Qmb (QlV e) I.ok.above))).trans (I.base.keep b o e n hb hx)
 ·obtain ⟨sl, e1⟩ := I.base.slot b o e n hb hx
  exact ⟨sl, (hs.2 b (Qme (Qmb (QlV e) I.ok.above))).trans e1⟩
 ·obtain ⟨o', e1⟩ := I.base.there b o e hx
  exact ⟨o', (hs.2 b (Qme (Qmb (QlV e) I.ok.above))).trans e1⟩
 ·obtain ⟨w', z⟩ := I.cell y c e
  exact ⟨w', z.sameBut hs (cne y c e)⟩
 ·obtain ⟨e, n, ne, nf, d⟩ := I.pin p hp
  exact ⟨(hs.2 p.1 ne).trans e, n, ne, nf, d⟩
 ·refine (I.hok b ob e).stay (fun c w' hc q => (hs.2 c ?_).trans q) (fun _ q => q) fun _ _ q => q
  rintro rfl
  rcases hc with rfl | hc
  ·rw [I.free] at e; cases e
  ·rw [I.free] at hc; cases hc
theorem zh {M : Model} {A : Around} {E : Value->Shared->Prop} {i : Nat} {n : Str} {pos : Pos} {Q : Unit->Shared->Prop} (I : Inv X QlP σ H s) (hN : X.N.Nodup) (hi : X.N[i]? = some n) (hx : X.env.scope.names.lookup n = some .local)
  (h : ∀ s', Inv X QlP (σ.set i none) H s'->Q () s') : wpAny M A (do bindName X.env n .none; unbindBehindTheSuite X.env n pos) Q E s := by
 have hcls : (X.env.scope.kind == .class || (X.env.scope.kind == .module && X.env.locals != X.env.globals)) = false := by rw [I.ok.kind]; rfl
 refine Qmn (wpAny_bindName (wx (v := .non) I hN hi (.inl hx) rfl (fun s1 I1 => ?_) (.inr hx)))
 unfold unbindBehindTheSuite
 refine wpAny_onRaise ?_
 obtain ⟨m, hn, hl⟩ := id I1.loc
 have hiσ : i < σ.length := by rw [I.len]; exact (List.getElem?_eq_some_iff.mp hi).1
 obtain ⟨u, ru, lk⟩ := hl i n .non hi (List.getElem?_set_self hiσ) (.inl hx)
 have hmn : m n = some u := by
  rcases lk with ⟨_, e⟩ | ⟨k, _⟩
  ·exact e
  ·rcases k with k | k <;> exact absurd (k.symm.trans (show X.env.kindOf n = some .local from hx)) (by simp)
 refine Qmt (wpAny_unbindName_local (show X.env.kindOf n = some .local from hx) hn hmn hcls fun h' u' hn' hs => ?_) (fun _ _ x => x) (fun _ _ x => wpAny_standAt x)
 refine h _ (Inv.locals (t' := s1.toks) I1 hs hn' (by simp) fun j y v e1 e2 e3 => ?_)
 by_cases hj : j = i
 ·subst hj
  rw [List.getElem?_set_self hiσ] at e2; cases e2
 ·rw [List.getElem?_set_ne (Ne.symm hj)] at e2
  obtain ⟨u2, r2, l2⟩ := hl j y v e1 (by rw [List.getElem?_set_ne (Ne.symm hj)]; exact e2) e3
  refine ⟨u2, r2, ?_⟩
  have ny : y ≠ n := fun e => hj (Qba hN e1 (e ▸ hi))
  rcases l2 with ⟨k, e⟩ | ⟨k, c, e, z⟩
  ·exact .inl ⟨k, by simp [ny, e]⟩
  ·exact .inr ⟨k, c, e, z.sameBut hs (I1.cne y c e)⟩
def exPh (a : Addr) (cls : Value) : Heap->Prop := fun h => ∃ o, h.get? a = some o/\o.cls = cls/\∃ vs, o.data = .fields vs
theorem Inv.trackX {a : Addr} {φ : Heap->Prop} (I : Inv X QlP σ H s) (hn : H a = none) (h0 : X.s₀.heap.get? a = none) (hL : a ≠ X.env.locals) (hC : ∀ x c, X.env.cells.lookup x = some c->c ≠ a) (hP : ∀ p ∈ X.pn ++ QlP, p.1 ≠ a)
  (hφ : φ s.heap) (ho : ∃ o, s.heap.get? a = some o) (st : ∀ h1 h2 : Heap, φ h1->(∀ o, h1.get? a = some o->h2.get? a = some o)->φ h2) : Inv X QlP σ (upd H a (.ext φ)) s := by
 have ne : ∀ b u, H b = some u->b ≠ a := fun b u e z => by rw [z, hn] at e; cases e
 have up : ∀ b u, H b = some u->upd H a (.ext φ) b = some u := fun b u e => by unfold upd; rw [Qmp (ne b u e)]; exact e
 have un : ∀ b, b ≠ a->H b = none->upd H a (.ext φ) b = none := fun b n e => by unfold upd; rw [Qmp n]; exact e
 refine ⟨I.ok, I.os, I.bare, ⟨I.base.keep, I.base.slot, fun b o e n hx => un b (fun z => ?_) (I.base.free b o e n hx), I.base.there, fun b xs e => up _ _ (I.base.tups b xs e), fun b o xs e => up _ _ (I.base.frzs b o xs e), fun b ps e => ?_⟩, I.loc, I.cell, un _ (Ne.symm hL) I.free,
  fun x c e => un _ (hC x c e) (I.freeC x c e), fun p hp => ?_, fun b u e => ?_, I.len⟩
 ·rw [z, h0] at e; cases e
 ·obtain ⟨more, e'⟩ := I.base.tbls b ps e
  exact ⟨more, up _ _ e'⟩
 ·obtain ⟨e, n, ne', nf, d⟩ := I.pin p hp
  exact ⟨e, un _ (hP p hp) n, ne', nf, d⟩
 ·by_cases z : b = a
  ·subst z
   unfold upd at e; rw [Qmo rfl] at e; cases e
   exact ⟨hφ, ho, st⟩
  ·unfold upd at e; rw [Qmp z] at e
   exact (I.hok b u e).stay (fun _ _ _ q => q) (fun _ q => up _ _ q) fun _ _ q => up _ _ q
end
theorem Qig {P : Program} {w : World} {H : Hp} {h : Heap} {a : Addr} {o : HO} (x : dm P w H h a o) : ∃ ob, h.get? a = some ob := by
 cases o with
 | lst xs => obtain ⟨_, _, _, _, e⟩ := x; exact ⟨_, e⟩
 | tup xs => obtain ⟨_, _, _, ob, e, _⟩ := x; exact ⟨_, e⟩
 | dK kvs => obtain ⟨_, _, _, _, o, _, _, e, _⟩ := x; exact ⟨_, e⟩
 | dT kvs => obtain ⟨_, _, _, _, o, _, _, e, _⟩ := x; exact ⟨_, e⟩
 | set S n => obtain ⟨o, _, _, _, e, _⟩ := x; exact ⟨_, e⟩
 | ins C dx fs => obtain ⟨_, _, _, e, _⟩ := x; exact ⟨_, e⟩
 | own y => obtain ⟨_, e⟩ := x; exact ⟨_, e⟩
 | xd fs => obtain ⟨_, ⟨_, _, _, e, _⟩, _⟩ := x; exact ⟨_, e⟩
 | rng lo hi => obtain ⟨_, _, _, e⟩ := x; exact ⟨_, e⟩
 | frz ob u => obtain ⟨e, _⟩ := x; exact ⟨_, e⟩
 | tbl ps => exact ⟨_, (show h.get? a = some _ from x)⟩
 | met f y => exact ⟨_, (show h.get? a = some _ from x)⟩
 | ext φ => obtain ⟨_, e, _⟩ := x; exact e
abbrev Cx.pin (X : Cx) (pn : List (Addr × Obj)) : Cx := { X with pn := pn }
theorem Inv.pnd {X : Cx} {QlP : List (Addr × Obj)} {σ : St} {H : Hp} {s : Shared} (I : Inv X QlP σ H s) : Inv (X.pin (X.pn ++ QlP)) [] σ H s :=
 have ok := I.ok
 ⟨⟨ok.mod, ok.kind, ok.glob, ok.blt, ok.above, ok.inj, ok.has, ok.cab, ok.hd, ok.frames, ok.stk, ok.exf, ok.bs, ok.bsz, ok.noex, ok.exfs, ok.funs, ok.frf⟩, I.os, I.bare, I.base, I.loc, I.cell, I.free, I.freeC, fun p hp => I.pin p (by simpa using hp), I.hok, I.len⟩
theorem Inv.unpnd {X : Cx} {QlP pins' : List (Addr × Obj)} {σ : St} {H : Hp} {s : Shared} (I : Inv (X.pin (X.pn ++ QlP)) pins' σ H s) : Inv X QlP σ H s :=
 have ok := I.ok
 ⟨⟨ok.mod, ok.kind, ok.glob, ok.blt, ok.above, ok.inj, ok.has, ok.cab, ok.hd, ok.frames, ok.stk, ok.exf, ok.bs, ok.bsz, ok.noex, ok.exfs, ok.funs, ok.frf⟩, I.os, I.bare, I.base, I.loc, I.cell, I.free, I.freeC, fun p hp => I.pin p (List.mem_append_left _ hp), I.hok, I.len⟩
theorem SP.unpnd {X : Cx} {QlP : List (Addr × Obj)} {D : Ends} {f : Flow} {s' : Shared} (h : SP (X.pin (X.pn ++ QlP)) [] D f s') : SP X QlP D f s' := by
 cases f with
 | next => obtain ⟨σ', H', I, q⟩ := h; exact ⟨σ', H', I.unpnd, q⟩
 | brk => obtain ⟨σ', H', I, q⟩ := h; exact ⟨σ', H', I.unpnd, q⟩
 | cont => obtain ⟨σ', H', I, q⟩ := h; exact ⟨σ', H', I.unpnd, q⟩
 | ret u => obtain ⟨v, σ', H', I, r, q⟩ := h; exact ⟨v, σ', H', I.unpnd, r, q⟩
def Ends.drop (D : Ends) (i : Nat) : Ends := { nx := fun σ H => D.nx (σ.set i none) H, rt := D.rt, bk := fun σ H => D.bk (σ.set i none) H, ct := fun σ H => D.ct (σ.set i none) H }
def hWish (X : Cx) (c : Value) (i : Nat) (ts : TS) (D : Ends) : Value->Hp->Prop := fun cls H => ∃ b, PySem.W.exmOne X.K cls c = some b /\
 (b = true->∀ ea, H ea = none->ts (D.drop i) ((List.replicate X.N.length none).set i (some (.ref ea))) (upd H ea (.ext (exPh ea cls))))/\(b = false->∀ ea s', iq X H ea cls s'->X.xe (.ref ea) s')
def Cx.tryB (X : Cx) (pn : List (Addr × Obj)) (Φ : Value->Hp->Prop) : Cx := (X.pin pn).wish (XE (X.pin pn) Φ)
def Cx.suite (X : Cx) (ea : Addr) : Cx := X.re (X.A.mark (some (.ref ea))) false fun _ _ => False
section
variable {X : Cx} {body suite : List Stmt} {b₀ : Stmt} {x n : Str} {np hpos pos : Pos} {i : Nat} {c : Value} {tb : List (Addr × Obj)->(Value->Hp->Prop)->TS} {ts : TS}
def tTry (X : Cx) (c : Value) (i : Nat) (tb : List (Addr × Obj)->(Value->Hp->Prop)->TS) (ts : TS) : TS := fun D σ H => ∀ pn, tb pn (hWish X c i ts D) D σ H
theorem ps_try (O : OwnFr X) (hN : X.N.Nodup) (hi : X.N[i]? = some n) (hx : X.env.scope.names.lookup n = some .local) (hg : Gl X x) (hm : X.mg x = some c) (hb : ∀ pn Φ, PSs (X.tryB pn Φ) body (tb pn Φ)) (hs : ∀ ea, PSs (X.suite ea) (b₀ :: suite) ts)
  (hdb : (x == ("__debug__" : Str)) = false := by decide) : PS X (.Try body [.ExceptHandler (some (.Name x np)) (some n) (b₀ :: suite) hpos] [] [] pos) (tTry X c i tb ts) := by
 intro QlP s σ H D I h
 refine wpAny_Try_except (Qmt (hb (X.pn ++ QlP) (hWish X c i ts D) [] s σ H D (I.pnd.wish _) (h _)) (fun f s1 hf => ?_) fun v s1 hv => ?_)
 ·have hf := SP.unpnd (SP.unwish hf)
  cases f with
  | next => exact wpAny_execs_nil hf
  | brk => exact hf
  | cont => exact hf
  | ret u => exact hf
 obtain ⟨ea, cls, H', rfl, ⟨pins', σ', sg, B, J0, os, gn, hB, up, L⟩, b, hbm, ht, hfl⟩ := hv
 have J : Inv X QlP σ' H' sg := J0.unpnd
 have hfr : X.A.frames = some (X.env :: X.outer) := by rw [I.ok.frames, O.stk]
 have stk : (X.pin (X.pn ++ QlP)).stack = X.env :: X.outer := O.stk
 rw [stk] at L hB
 have L' : ud B (X.env :: X.outer) X.env.locals ea cls s1.heap := L
 refine QaP hfr O.fr L' fun h1 a0 k1 k2 => ?_
 refine wpAny_landsW k1 fun h2 k3 k4 => ?_
 have up2 : sg.heap.UpToSlots h2 := (up.trans k2).trans k4
 have hB' : ∀ b o, sg.heap.get? b = some o->b ∉ frs X.stack->B.get? b = some o := by rw [O.stk]; exact hB
 have J2 : Inv X QlP σ' H' { s1 with heap := h2 } := QeK (h := h2) J os gn hB' k3.1 up2
 have Y2 : Inv (X.suite ea) QlP σ' H' { s1 with heap := h2 } := J2.re rfl (fun z => nomatch z)
 obtain ⟨oe, hoe, hoc⟩ := k3.there
 have LT : PySem.W.Looks (model X.prog X.w) h2 (typeOf (.ref ea)) cls := by subst hoc; exact (PySem.W.Looks.ld hoe).andThen .now
 refine wpAny_handleBy_cons (codeAny_handlers_test (xm (X := X.suite ea) Y2 hg hm ?_ hdb)) (by intro q; cases q)
 have LE : PySem.W.Looks (model X.prog X.w) h2 (excMatches (.ref ea) c) b := PySem.W.exm_one Y2.kIn LT hbm
 refine LE.here (s := { s1 with heap := h2 }) ?_
 cases b with
 | false =>
  show wpAny _ _ (handleBy (.ref ea) X.env []) _ _ _
  refine wpAny_handleBy_nil ?_
  obtain ⟨_, _, _, oe, ws, T, oT, ts', he, hc, hd, h1', _⟩ := id k3
  unfold PySem.passOn
  refine Qmn (wpAny_field he hd h1' ?_)
  rw [Qmp (show ¬ ((Value.ref T == Value.none) = true) from by simp)]
  have go : ∀ {α : Type} (Q : α->Shared->Prop), wpAny (model X.prog X.w) X.A (do setFlight (.ref ea) X.env.frame; throw (.ref ea) : Sem α) Q X.xe { s1 with heap := h2 } := fun {α} Q => by
   rw [O.fr]
   refine Qmn (PySem.W.setFlight_onW k3 fun h3 hh hsl => wpAny_throw (hfl rfl ea _ ⟨QlP, σ', sg, B, J, os, gn, hB', up2.trans hsl, ?_⟩))
   rw [O.stk]; exact QdW hh
  first | exact go _ | exact Qmn (Qmr (go _))
 | true =>
  show codeAny _ _ _ _ _
  refine codeAny_handlers_suite_as ?_
  refine lands_againW k3 fun h3 k5 k6 => ?_
  have up3 : sg.heap.UpToSlots h3 := up2.trans k6
  have J3 : Inv X QlP σ' H' { s1 with heap := h3 } := QeK (h := h3) J os gn hB' k5.1 up3
  obtain ⟨oe3, vs3, hoe3, hoc3, hod3, _⟩ := k5.first
  have fresh : sg.heap.get? ea = none := by
   cases q : sg.heap.get? ea with
   | none => rfl
   | some o =>
    exfalso
    by_cases hf : ea ∈ frs X.stack
    ·obtain ⟨o', ho', hd'⟩ := Qdw J.stack hf
     obtain ⟨sl, hs'⟩ := up3 _ _ ho' hd'
     rw [hoe3] at hs'; cases hs'
     exact hd' _ hod3
    ·have := hB' _ _ q hf
     rw [k5.2.1] at this; cases this
  have hn : H' ea = none := by
   cases q : H' ea with
   | none => rfl
   | some u =>
    obtain ⟨o, ho⟩ : ∃ o, sg.heap.get? ea = some o := by
     have := J.hok ea u q
     exact Qig this
    rw [fresh] at ho; cases ho
  have T3 : Inv X QlP σ' (upd H' ea (.ext (exPh ea cls))) { s1 with heap := h3 } := by
   refine J3.trackX hn ?_ (fun z => ?_) (fun y c' e z => ?_) (fun p hp z => ?_) ⟨oe3, hoe3, hoc3, vs3, hod3⟩ ⟨oe3, hoe3⟩ fun a1 a2 ⟨o, q1, q2⟩ kk => ⟨o, kk o q1, q2⟩
   ·cases q : X.s₀.heap.get? ea with
    | none => rfl
    | some o =>
     obtain ⟨o', e'⟩ := J.base.there ea o q (by rw [O.ex]; simp)
     rw [fresh] at e'; cases e'
   ·obtain ⟨m, ⟨o, _, _, ho, _⟩, _⟩ := J.loc
    rw [<-z, fresh] at ho; cases ho
   ·obtain ⟨v, o, ho, _⟩ := J.cell y c' e
    rw [z, fresh] at ho; cases ho
   ·have ho := (J.pin p hp).1
    rw [z, fresh] at ho; cases ho
  have T4 : Inv X QlP (List.replicate X.N.length none) (upd H' ea (.ext (exPh ea cls))) { s1 with heap := h3 } := T3.weak (by rw [List.length_replicate]; exact T3.len.symm) fun j v e => by
   rw [List.getElem?_replicate] at e
   split at e <;> cases e
  have Y4 : Inv (X.suite ea) QlP (List.replicate X.N.length none) (upd H' ea (.ext (exPh ea cls))) { s1 with heap := h3 } := T4.re rfl (fun z => nomatch z)
  refine wx (X := X.suite ea) (v := .ref ea) Y4 hN hi (.inl hx) rfl (fun s4 Y5 => ?_) (.inr hx)
  refine Qmt (hs ea QlP s4 _ _ (D.drop i) Y5 (ht rfl ea hn)) (fun f s5 hf => ?_) fun _ _ z => False.elim z
  show wpAny _ _ (do bindName X.env n .none; unbindBehindTheSuite X.env n hpos) _ _ _
  have back : ∀ {σ2 : St} {H2 : Hp}, Inv (X.suite ea) QlP σ2 H2 s5->Inv X QlP σ2 H2 s5 := fun {σ2 H2} K5 => by
   have z := K5.re (A2 := X.A) (b := X.calm) (E := X.xe) rfl I.ok.hd
   exact z
  cases f with
  | next =>
   obtain ⟨σ2, H2, K5, q⟩ := hf
   exact zh (back K5) hN hi hx fun s6 K6 => ⟨_, H2, K6, q⟩
  | brk =>
   obtain ⟨σ2, H2, K5, q⟩ := hf
   exact zh (back K5) hN hi hx fun s6 K6 => ⟨_, H2, K6, q⟩
  | cont =>
   obtain ⟨σ2, H2, K5, q⟩ := hf
   exact zh (back K5) hN hi hx fun s6 K6 => ⟨_, H2, K6, q⟩
  | ret u =>
   obtain ⟨v, σ2, H2, K5, r, q⟩ := hf
   exact zh (back K5) hN hi hx fun s6 K6 => ⟨v, _, H2, K6, r, q⟩
end
end L2
namespace L2
open PySem PySem.Spec PyProof.Rows PySem.W PySem.Builtin PySem.Builtin.ObjectAttr PySem.Builtin.Getset_descriptor
structure ExAt (K : PySem.W.Frag) (C : Addr) : Prop where
 ga : findIn K (.ref C) "__getattribute__" = some (some (.builtin "BaseException.__getattribute__"))
 gh : findIn K (.ref C) "__getattr__" = some none
 sb : subIn K (.ref C) (.type "BaseException") = some true
 ca : findIn K (.ref C) "__class__" = some (some (.builtin "object.__class__"))
 cg : specialIn K (.builtin "object.__class__") "__get__" = some (some (.builtin "getset_descriptor.__get__"))
 ct : takesIn K (.builtin "object.__class__") = some true
 cm : mroIn K C (.type "object") = some true
 cl : (clsIn K C).isSome = true
section
variable {prog : Program} {w : World} {A : Around} {E : Value->Shared->Prop} {s : Shared} {K : PySem.W.Frag} {e C : Addr}
theorem wq {M : Model} {h : Heap} (hx : exPh e (.ref C) h) : Looks M h (typeOf (.ref e)) (.ref C) := by
 obtain ⟨o, ho, hc, _⟩ := hx
 exact hc ▸ (Looks.ld ho).andThen .now
theorem ex_find {M : Model} {h : Heap} (F : ExAt K C) (X : K.In h) : Looks M h (find (.ref e) (.ref C) "__class__") (.bind (.builtin "getset_descriptor.__get__") (.builtin "object.__class__")) := by
 have L1 := looks_findIn (M := M) X F.ca
 have L2 : Looks M h (getOf (some (.builtin "object.__class__"))) (some (.builtin "getset_descriptor.__get__")) := looks_specialIn X F.cg
 have L3 := looks_takesIn (M := M) X F.ct
 refine L1.andThen (L2.andThen ?_)
 exact (show Looks M h (dataDescriptor? (some (.builtin "object.__class__")) (some (.builtin "getset_descriptor.__get__"))) (some (.builtin "getset_descriptor.__get__", .builtin "object.__class__")) from L3.andThen .now).andThen (Looks.tag .now)
theorem ex_get {R : Result->Shared->Prop} {tp : Value} (F : ExAt K C) (X : K.In s.heap) (hx : exPh e (.ref C) s.heap) (h : R (.ok (.ret (.ref C))) s) :
  codeAny (model prog w) A (.call (.builtin "getset_descriptor.__get__") ⟨[.builtin "object.__class__", .ref e, tp], []⟩) R s := by
 obtain ⟨hh, g, dr, t, os⟩ := s
 have L0 := wq (M := model prog w) hx
 have L1 := looks_mroIn (M := model prog w) X F.cm
 refine codeAny_call_builtin KF.slot_gs.plain KF.entry_gs (KF.slot_gs.check _ _ _ _ _ _ _ _ KF.type_class (KF.args_gs _ _ _) ?_)
 unfold Builtin.«getset_descriptor.__get__» descrGet
 rw [dga_obj]
 refine Qmn (Qmr ?_)
 unfold descrGetter descrCheckInstance descrNameAndClass isInstance
 simp only [KF.owner_class]
 repeat lk
 refine ⟨Code.quiet_builtin _ (by decide +kernel), codeAny_builtin KF.entry_class ?_⟩
 unfold Builtin.«object.__class__» shownTypeOf
 repeat lk
 exact h
theorem Qlx {M : Model} {nameV : Value} {Q : Unit->Shared->Prop} (F : ExAt K C) (X : K.In s.heap) (hx : exPh e (.ref C) s.heap) (h : Q () s) : wpAny M A (checkBuiltinCall "BaseException.__getattribute__" ⟨[.ref e, nameV], []⟩) Q E s := by
 have hk : builtinKind "BaseException.__getattribute__" = some .slot := by decide +kernel
 have hsplit : splitId "BaseException.__getattribute__" = some ("BaseException", "__getattribute__") := by decide +kernel
 have ha := PySem.F.args_bexc_ga (.ref e) nameV
 have L0 := wq (M := M) hx
 have L1 := looks_subIn (M := M) X F.sb
 have LI : Looks M s.heap (isInstance (.ref e) (.type "BaseException")) true := L0.andThen L1
 simp only [checkBuiltinCall, hk, hsplit]
 refine Qmn (LI.here ?_)
 repeat (first | exact h | wp_step)
theorem Qlv {tk : Tok} {R : Result->Shared->Prop} (F : ExAt K C) (X : K.In s.heap) (hx : exPh e (.ref C) s.heap) (h : R (.ok (.ret (.ref C))) s) :
  codeAny (model prog w) A (.call (.builtin "BaseException.__getattribute__") ⟨[.ref e, .str "__class__" tk], []⟩) R s := by
 refine codeAny_call_builtin PySem.F.excAttr_ValueError.ga.plain PySem.F.entry_bexc_ga (Qlx F X hx ?_)
 have L0 := wq (M := model prog w) hx
 have L1 := ex_find (M := model prog w) (e := e) F X
 obtain ⟨hh, g, dr, t, os⟩ := s
 obtain ⟨oe, ho, hc, _⟩ := id hx
 have f1 : PySem.Shared.heap ⟨hh, g, dr, t, os⟩ = hh := rfl
 repeat (first | (with_reducible refine wpAny_loadPart_at ho ?_; rw [hc]) | (with_reducible refine L1.at ?_) | wp_step)
 exact ex_get F X hx (Qmr h)
theorem Qlw {Q : Option Value->Shared->Prop} (F : ExAt K C) (X : K.In s.heap) (hx : exPh e (.ref C) s.heap) (h : Q (some (.ref C)) { s with toks := s.toks + 1 }) : wpAny (model prog w) A (getAttr? (.ref e) "__class__") Q E s := by
 have L0 := wq (M := model prog w) hx
 have L1 := looks_findIn (M := model prog w) X F.ga
 have L2 := looks_findIn (M := model prog w) X F.gh
 have f3 := PySem.F.excAttr_ValueError.ga.bind (.ref e)
 obtain ⟨hh, g, d, t, os⟩ := s
 unfold getAttr? getAttrBy? getAttrBy
 refine Qmn (wpAny_mkText (Qmn (wpAny_attempt (wpAny_holding (Qmn (L0.at (Qmn (L1.at ?_))))))))
 have hx2 : (Value.builtin "BaseException.__getattribute__" == Value.builtin "object.__getattribute__") = false := by decide +kernel
 dsimp only
 rw [Qmp (by rw [hx2]; simp)]
 unfold getAttrByItsOwn hookBefore
 refine Qmn ?_
 rw [Qmo (show onTheHeap (Value.ref C) = true from rfl)]
 refine L2.at (Qmn (wpAny_attempt (wpAny_holding ?_)))
 unfold callGetattribute
 rw [Qmp (by simp)]
 unfold boundAndCalled
 rw [f3]
 refine Qmn (Qmr ?_)
 refine wpAny_call (Qlv (s := ⟨hh, g, d, t + 1, os⟩) F X hx ?_)
 exact handed_on rfl (Qmr h)
theorem kitx_ex (F : ExAt K C) : KitX K (.ref e) (.ref C) (exPh e (.ref C)) where
 ty := fun _ _ _ p => wq p
 it := fun _ _ X _ => by
  obtain ⟨cdD, hcD⟩ := Option.isSome_iff_exists.mp F.cl
  unfold clsIn at hcD
  split at hcD
  ·rename_i c' d' cd' sl' ho
   intro A' Q' E' s' k q
   unfold isType loadHead
   exact Qmn (wpAny_loadPart (k _ _ (X _ _ ho)) (Qmr q))
  ·cases hcD
 ne := fun h tp dd its n sl X htp => by
  obtain ⟨cdD, hcD⟩ := Option.isSome_iff_exists.mp F.cl
  refine Bool.eq_false_iff.mpr fun q => ?_
  have e : C = tp := Value.ref.inj (beq_iff_eq.mp q)
  subst e
  unfold clsIn at hcD
  split at hcD
  ·rename_i c' d' cd' sl' ho
   have z := (X _ _ ho).symm.trans htp
   cases z
  ·cases hcD
 ca := fun X p k => Qlw F X p k
theorem QjV {X : Cx} {QlP : List (Addr × Obj)} {σ : St} {H : Hp} {Q : Value->Shared->Prop} {c : Value} {b : Bool} (I : Inv X QlP σ H s) (ea : H e = some (.ext (exPh e (.ref C)))) (F : ExAt X.K C) (k : kitOne X.K (.ref C) c = some b) (h : ∀ tk, Q (.bool b) { s with toks := tk }) :
  wpAny (model X.prog X.w) A (call (.builtin "isinstance") [.ref e, c]) Q E s := by
 obtain ⟨p, _⟩ := (show dm X.prog X.w H s.heap e (.ext (exPh e (.ref C))) from I.hok e _ ea)
 exact kia_one (kitx_ex F) I.kIn p k (fun z => nomatch z) h
end
end L2
namespace L2
open PySem PySem.Spec PyProof.Rows
section
variable {prog : Program} {w : World} {A : Around} {E : Value->Shared->Prop} {s : Shared}
theorem QaK {j t : Addr} {k : Nat} {its : Array Value} {y : Value} {Q : Value->Shared->Prop} (hj : s.heap.IsTupleIter j t k) (ht : s.heap.IsTuple t its) (hy : its[k]? = some y)
  (q : ∀ h', h'.IsTupleIter j t (k + 1)->Heap.SameBut j s.heap h'->Q y { s with heap := h' }) : wpAny (model prog w) A (Builtin.SmallTypes.nextOf (.ref j)) Q E s := by
 obtain ⟨oj, gj, cj, dj⟩ := id hj
 obtain ⟨ot, gt, _, mt, dt⟩ := ht
 unfold Builtin.SmallTypes.nextOf
 refine Qmn (wpAny_callSpecial?_slot (name := Str.ofString "__next__") hj.typeIs F.slot_tuple_iterator_next (wpAny_call_entry F.slot_tuple_iterator_next hj.typeIs F.entry_tuple_iterator_next ?_ (F.args_tuple_iterator_next_1 _)))
 show wpAny _ _ (field (.ref j) 0 >>= _) _ _ s
 refine Qmn (wpAny_field gj dj (x := .ref t) rfl ?_)
 show wpAny _ _ (if (Value.ref t == Value.none) = true then _ else (field (.ref j) 1 >>= _)) _ _ s
 rw [Qmp (show ¬ ((Value.ref t == Value.none) = true) from QlQ)]
 refine Qmn (wpAny_field gj dj (x := .int k 0) rfl (Qmn (wpAny_seqItems gt dt ?_)))
 simp only [Int.toNat_natCast, hy]
 refine Qmn (wpAny_setField gj dj (by simp) (Qmr ⟨y, rfl, Qmr (q _ ?_ (Heap.SameBut.update ..))⟩))
 exact ⟨_, Heap.get?_update_self _ gj (Obj.isFreed_of_fields (Obj.data_mapFields dj _)), (Obj.cls_mapFields ..).trans cj, by rw [Obj.data_mapFields dj]; simp [rawInt]⟩
theorem QcE {j t : Addr} {k : Nat} {its : Array Value} {Q : Value->Shared->Prop} (hh : A.handled = none) (hj : s.heap.IsTupleIter j t k) (ht : s.heap.IsTuple t its) (hy : its[k]? = none)
  (q : ∀ h' e, Heap.ExtBut j s.heap h'->(∃ o, h'.get? e = some o/\o.cls = .type "StopIteration")->E (.ref e) { s with heap := h' }) : wpAny (model prog w) A (Builtin.SmallTypes.nextOf (.ref j)) Q E s := by
 obtain ⟨oj, gj, cj, dj⟩ := id hj
 obtain ⟨ot, gt, _, mt, dt⟩ := ht
 unfold Builtin.SmallTypes.nextOf
 refine Qmn (wpAny_callSpecial?_slot (name := Str.ofString "__next__") hj.typeIs F.slot_tuple_iterator_next (wpAny_call_entry F.slot_tuple_iterator_next hj.typeIs F.entry_tuple_iterator_next ?_ (F.args_tuple_iterator_next_1 _)))
 show wpAny _ _ (field (.ref j) 0 >>= _) _ _ s
 refine Qmn (wpAny_field gj dj (x := .ref t) rfl ?_)
 show wpAny _ _ (if (Value.ref t == Value.none) = true then _ else (field (.ref j) 1 >>= _)) _ _ s
 rw [Qmp (show ¬ ((Value.ref t == Value.none) = true) from QlQ)]
 refine Qmn (wpAny_field gj dj (x := .int k 0) rfl (Qmn (wpAny_seqItems gt dt ?_)))
 simp only [Int.toNat_natCast, hy]
 refine Qmn (wpAny_rule (Qmn (wpAny_setField gj dj (by simp) ?_)))
 show wpAny _ _ (newExc (.type "StopIteration") [] >>= fun _ => _) _ _ _
 refine Qmn ?_
 simp only [newExc, newTuple]
 refine Qmn (wpAny_newObj_type (Qmn (m := firstArgMember _ _) (wpAny_of_eq (a := Value.none) (by first | rfl | (simp only [firstArgMember]; rfl)) ?_)) (by size_fits))
 refine wpAny_newObj_type ?_ (by size_fits)
 simp only [raiseNew]
 refine Qmn (wpAny_handled ?_)
 first | rw [show A.in1.handled = none from hh] | rw [hh]
 exact Qmn (Qmr (wpAny_throw (q _ _ (((Heap.SameBut.update ..).extBut.push _).push _) ⟨_, Qmd _ rfl, rfl⟩)))
structure ZA (c P O i j a b : Addr) : Prop where
 Pc : P ≠ c
 Oc : O ≠ c
 ic : i ≠ c
 jc : j ≠ c
 Oi : O ≠ i
 Oj : O ≠ j
 ij : i ≠ j
 ac : a ≠ c
 aO : a ≠ O
 ai : a ≠ i
 aj : a ≠ j
 bc : b ≠ c
 bO : b ≠ O
 bi : b ≠ i
 bj : b ≠ j
 PO : P ≠ O
 Pi : P ≠ i
 Pj : P ≠ j
theorem Qjc {c P O i j a b : Addr} {m n : Nat} {us vs : Array Value} {u v p q : Value} {Q : Value->Shared->Prop} (D : ZA c P O i j a b)
  (gc : IsZip s.heap c P O .none) (gP : IsPair s.heap P (.ref i) (.ref j)) (gO : IsPair s.heap O p q) (gi : s.heap.IsTupleIter i a m) (gj : s.heap.IsTupleIter j b n) (ga : s.heap.IsTuple a us) (gb : s.heap.IsTuple b vs) (hu : us[m]? = some u) (hv : vs[n]? = some v)
  (k : ∀ h', IsZip h' c P O (rawInt s.heap.objs.size)->IsPair h' O u v->h'.IsTupleIter i a (m + 1)->h'.IsTupleIter j b (n + 1)->IsPair h' s.heap.objs.size u v->h'.objs.size = s.heap.objs.size + 1 ->
   (∀ d o, d ≠ c->d ≠ O->d ≠ i->d ≠ j->s.heap.get? d = some o->h'.get? d = some o)->Q (.ref s.heap.objs.size) { s with heap := h' }) :
  wpAny (model prog w) A (Builtin.«zip.__next__» ⟨[.ref c], []⟩) (fun fin s' => ∃ y, fin = .done (.ret y)/\Q y s') E s := by
 show wpAny _ _ (field (.ref c) 2 >>= _) _ _ _
 refine Qmn (wpAny_field gc rfl (x := .bool false) rfl ?_)
 show wpAny _ _ (field (.ref c) 3 >>= _) _ _ _
 refine Qmn (wpAny_field gc rfl (x := .ref P) rfl (Qmn (wpAny_seqItems gP rfl ?_)))
 show wpAny _ _ (Builtin.SmallTypes.ownedTupleIsFree (.ref c) >>= _) _ _ _
 refine Qmn ?_
 unfold Builtin.SmallTypes.ownedTupleIsFree
 refine Qmn (wpAny_field gc rfl (x := .none) rfl (Qmr ?_))
 simp only [if_true]
 refine Qmn (wpAny_rule (Qmn (wpAny_field gc rfl (x := .ref O) rfl (Qmn (wpAny_setField_rec gc (by simp) fun h1 gc1 e1 => ?_)))))
 replace gc1 : IsZip h1 c P O .ellipsis := gc1
 refine Qmn ?_
 simp only [List.zipIdx_cons, List.zipIdx_nil, List.forIn_cons, List.forIn_nil]
 refine Qmn (Qmn (wpAny_onRaise ?_))
 show wpAny _ _ (Builtin.SmallTypes.nextOf (.ref i) >>= _) _ _ _
 refine Qmn (QaK (gi.extBut e1.extBut D.ic) (ga.extBut e1.extBut D.ac) hu fun h2 gi2 e2 => Qmr ?_)
 have gO2 : IsPair h2 O p q := e2.extBut _ _ D.Oi (e1.extBut _ _ D.Oc gO)
 refine Qmn (wpAny_seqItems gO2 rfl (Qmn (wpAny_updateSeq_pair gO2 fun h3 gO3 e3 => ?_)))
 replace gO3 : IsPair h3 O u q := gO3
 refine Qmn (wpAny_letGo (Qmr (Qmn (Qmn (wpAny_onRaise ?_)))))
 show wpAny _ _ (Builtin.SmallTypes.nextOf (.ref j) >>= _) _ _ _
 refine Qmn (QaK (((gj.extBut e1.extBut D.jc).extBut e2.extBut D.ij.symm).extBut e3.extBut D.Oj.symm) (((gb.extBut e1.extBut D.bc).extBut e2.extBut D.bi).extBut e3.extBut D.bO) hv fun h4 gj4 e4 => Qmr ?_)
 have gO4 : IsPair h4 O u q := e4.extBut _ _ D.Oj gO3
 refine Qmn (wpAny_seqItems gO4 rfl (Qmn (wpAny_updateSeq_pair gO4 fun h5 gO5 e5 => ?_)))
 replace gO5 : IsPair h5 O u v := gO5
 refine Qmn (wpAny_letGo (Qmr (Qmr (Qmn (wpAny_seqItems gO5 rfl (Qmn (wpAny_newTuple ?_)))))))
 have sz : h5.objs.size = s.heap.objs.size := by rw [e5.1, e4.1, e3.1, e2.1, e1.1]
 have gc5 : IsZip h5 c P O .ellipsis := e5.extBut _ _ D.Oc.symm (e4.extBut _ _ D.jc.symm (e3.extBut _ _ D.Oc.symm (e2.extBut _ _ D.ic.symm gc1)))
 have k5 : ∀ d o, d ≠ c->d ≠ O->d ≠ i->d ≠ j->s.heap.get? d = some o->h5.get? d = some o := fun d o c1 c2 c3 c4 e => e5.extBut _ _ c2 (e4.extBut _ _ c4 (e3.extBut _ _ c2 (e2.extBut _ _ c3 (e1.extBut _ _ c1 e))))
 have gi5 : h5.IsTupleIter i a (m + 1) := ((gi2.extBut e3.extBut D.Oi.symm).extBut e4.extBut D.ij).extBut e5.extBut D.Oi.symm
 have gj5 : h5.IsTupleIter j b (n + 1) := gj4.extBut e5.extBut D.Oj.symm
 have lc : c < h5.objs.size := QlV gc5
 show wpAny _ _ (Builtin.SmallTypes.ownedTupleHandOut (.ref c) (.ref h5.objs.size) >>= _) _ _ _
 refine Qmn ?_
 unfold Builtin.SmallTypes.ownedTupleHandOut
 have gc6 : IsZip (h5.push { cls := .type "tuple", data := .seq #[u, v] }) c P O .ellipsis := QlS _ gc5
 refine Qmn (wpAny_setField_rec gc6 (by simp) fun h7 gc7 e7 => ?_)
 replace gc7 : IsZip h7 c P O (rawInt h5.objs.size) := gc7
 refine wpAny_setField_rec gc7 (by simp) fun h8 gc8 e8 => ?_
 replace gc8 : IsZip h8 c P O (rawInt h5.objs.size) := gc8
 have up : ∀ d o, d ≠ c->h5.get? d = some o->h8.get? d = some o := fun d o c1 e => e8.extBut _ _ c1 (e7.extBut _ _ c1 (QlS _ e))
 have gn : IsPair h8 h5.objs.size u v := e8.extBut _ _ (Nat.ne_of_gt lc) (e7.extBut _ _ (Nat.ne_of_gt lc) (Qmd _ rfl))
 have s8 : h8.objs.size = h5.objs.size + 1 := by rw [e8.1, e7.1, Heap.size_push]
 rw [sz] at gc8 gn s8
 refine Qmr ⟨_, rfl, ?_⟩
 show Q (.ref h5.objs.size) _
 rw [sz]
 exact k h8 gc8 (up _ _ D.Oc gO5) (let ⟨o, e, r⟩ := gi5; ⟨o, up _ o D.ic e, r⟩) (let ⟨o, e, r⟩ := gj5; ⟨o, up _ o D.jc e, r⟩) gn s8 fun d o c1 c2 c3 c4 e => up d o c1 (k5 d o c1 c2 c3 c4 e)
theorem Qko {c P O i j a b : Addr} {m n : Nat} {us vs : Array Value} {p q : Value} {Q : PySem.Fin->Shared->Prop} (hh : A.handled = none) (D : ZA c P O i j a b)
  (gc : IsZip s.heap c P O .none) (gP : IsPair s.heap P (.ref i) (.ref j)) (gO : IsPair s.heap O p q) (gi : s.heap.IsTupleIter i a m) (gj : s.heap.IsTupleIter j b n) (ga : s.heap.IsTuple a us) (gb : s.heap.IsTuple b vs) (he : us[m]? = none\/vs[n]? = none)
  (k : ∀ h' e, (∀ d o, d ≠ c->d ≠ O->d ≠ i->d ≠ j->s.heap.get? d = some o->h'.get? d = some o)->(∃ o, h'.get? e = some o/\o.cls = .type "StopIteration")->E (.ref e) { s with heap := h' }) :
  wpAny (model prog w) A (Builtin.«zip.__next__» ⟨[.ref c], []⟩) Q E s := by
 show wpAny _ _ (field (.ref c) 2 >>= _) _ _ _
 refine Qmn (wpAny_field gc rfl (x := .bool false) rfl ?_)
 show wpAny _ _ (field (.ref c) 3 >>= _) _ _ _
 refine Qmn (wpAny_field gc rfl (x := .ref P) rfl (Qmn (wpAny_seqItems gP rfl ?_)))
 show wpAny _ _ (Builtin.SmallTypes.ownedTupleIsFree (.ref c) >>= _) _ _ _
 refine Qmn ?_
 unfold Builtin.SmallTypes.ownedTupleIsFree
 refine Qmn (wpAny_field gc rfl (x := .none) rfl (Qmr ?_))
 simp only [if_true]
 refine Qmn (wpAny_rule (Qmn (wpAny_field gc rfl (x := .ref O) rfl (Qmn (wpAny_setField_rec gc (by simp) fun h1 gc1 e1 => ?_)))))
 replace gc1 : IsZip h1 c P O .ellipsis := gc1
 refine Qmn ?_
 simp only [List.zipIdx_cons, List.zipIdx_nil, List.forIn_cons, List.forIn_nil]
 refine Qmn (Qmn (wpAny_onRaise ?_))
 show wpAny _ _ (Builtin.SmallTypes.nextOf (.ref i) >>= _) _ _ _
 cases hu : us[m]? with
 | none =>
  refine Qmn (QcE hh (gi.extBut e1.extBut D.ic) (ga.extBut e1.extBut D.ac) hu fun h2 e e2 hx => ?_)
  obtain ⟨oe, ho, hc⟩ := hx
  have gc2 : IsZip h2 c P O .ellipsis := e2 _ _ D.ic.symm gc1
  have ne : e ≠ c := fun z => by subst z; rw [gc2] at ho; cases ho; simp at hc
  exact wpAny_setField_rec gc2 (by simp) fun h3 _ e3 => k h3 e (fun d o c1 _ c3 _ z => e3.extBut _ _ c1 (e2 _ _ c3 (e1.extBut _ _ c1 z))) ⟨oe, e3.extBut _ _ ne ho, hc⟩
 | some u =>
  have hv : vs[n]? = none := by
   rcases he with h | h
   ·rw [hu] at h; cases h
   ·exact h
  refine Qmn (QaK (gi.extBut e1.extBut D.ic) (ga.extBut e1.extBut D.ac) hu fun h2 gi2 e2 => Qmr ?_)
  have gO2 : IsPair h2 O p q := e2.extBut _ _ D.Oi (e1.extBut _ _ D.Oc gO)
  refine Qmn (wpAny_seqItems gO2 rfl (Qmn (wpAny_updateSeq_pair gO2 fun h3 gO3 e3 => Qmn (wpAny_letGo (Qmr (Qmn (Qmn (wpAny_onRaise ?_))))))))
  show wpAny _ _ (Builtin.SmallTypes.nextOf (.ref j) >>= _) _ _ _
  refine Qmn (QcE hh (((gj.extBut e1.extBut D.jc).extBut e2.extBut D.ij.symm).extBut e3.extBut D.Oj.symm) (((gb.extBut e1.extBut D.bc).extBut e2.extBut D.bi).extBut e3.extBut D.bO) hv fun h4 e e4 hx => ?_)
  obtain ⟨oe, ho, hc⟩ := hx
  have gc4 : IsZip h4 c P O .ellipsis := e4 _ _ D.jc.symm (e3.extBut _ _ D.Oc.symm (e2.extBut _ _ D.ic.symm gc1))
  have ne : e ≠ c := fun z => by subst z; rw [gc4] at ho; cases ho; simp at hc
  exact wpAny_setField_rec gc4 (by simp) fun h5 _ e5 => k h5 e (fun d o c1 c2 c3 c4 z => e5.extBut _ _ c1 (e4 _ _ c4 (e3.extBut _ _ c2 (e2.extBut _ _ c3 (e1.extBut _ _ c1 z))))) ⟨oe, e5.extBut _ _ ne ho, hc⟩
end
section
variable {prog : Program} {w : World} {A : Around} {E : Value->Shared->Prop} {s : Shared}
theorem QjM {c P O i j a b : Addr} {m n : Nat} {us vs : Array Value} {u v p q : Value} {Q : Option Value->Shared->Prop} (D : ZA c P O i j a b)
  (gc : IsZip s.heap c P O .none) (gP : IsPair s.heap P (.ref i) (.ref j)) (gO : IsPair s.heap O p q) (gi : s.heap.IsTupleIter i a m) (gj : s.heap.IsTupleIter j b n) (ga : s.heap.IsTuple a us) (gb : s.heap.IsTuple b vs) (hu : us[m]? = some u) (hv : vs[n]? = some v)
  (k : ∀ h', IsZip h' c P O (rawInt s.heap.objs.size)->IsPair h' O u v->h'.IsTupleIter i a (m + 1)->h'.IsTupleIter j b (n + 1)->IsPair h' s.heap.objs.size u v->h'.objs.size = s.heap.objs.size + 1 ->
   (∀ d o, d ≠ c->d ≠ O->d ≠ i->d ≠ j->s.heap.get? d = some o->h'.get? d = some o)->Q (some (.ref s.heap.objs.size)) { s with heap := h' }) : wpAny (model prog w) A (pyNext (.ref c)) Q E s := by
 have tz : s.TypeIs (.ref c) "zip" := ⟨_, gc, rfl⟩
 unfold pyNext
 refine Qmn (wpAny_attempt (wpAny_callSpecial?_slot (name := Str.ofString "__next__") tz F.slot_zip_next (wpAny_call_entry F.slot_zip_next tz F.entry_zip_next ?_ (F.args_zip_next_1 _))))
 exact Qjc D gc gP gO gi gj ga gb hu hv fun h' a1 a2 a3 a4 a5 a6 a7 => Qmr (k h' a1 a2 a3 a4 a5 a6 a7)
theorem Qhv {c P O i j a b : Addr} {m n : Nat} {us vs : Array Value} {p q : Value} {Q : Option Value->Shared->Prop} (hh : A.handled = none) (D : ZA c P O i j a b)
  (gc : IsZip s.heap c P O .none) (gP : IsPair s.heap P (.ref i) (.ref j)) (gO : IsPair s.heap O p q) (gi : s.heap.IsTupleIter i a m) (gj : s.heap.IsTupleIter j b n) (ga : s.heap.IsTuple a us) (gb : s.heap.IsTuple b vs) (he : us[m]? = none\/vs[n]? = none)
  (k : ∀ h', (∀ d o, d ≠ c->d ≠ O->d ≠ i->d ≠ j->s.heap.get? d = some o->h'.get? d = some o)->Q none { s with heap := h' }) : wpAny (model prog w) A (pyNext (.ref c)) Q E s := by
 have tz : s.TypeIs (.ref c) "zip" := ⟨_, gc, rfl⟩
 unfold pyNext
 refine Qmn (wpAny_attempt (wpAny_callSpecial?_slot (name := Str.ofString "__next__") tz F.slot_zip_next (wpAny_call_entry F.slot_zip_next tz F.entry_zip_next ?_ (F.args_zip_next_1 _))))
 refine Qko hh D gc gP gO gi gj ga gb he fun h' e hk hx => ?_
 obtain ⟨o, ho, hc⟩ := hx
 exact Qmn (wpAny_isInstance (T := "StopIteration") (b := true) ⟨o, ho, hc⟩ isSubtype_stop (Qmr (k _ hk)))
abbrev zt1 (h : Heap) (a : Addr) : Heap := h.push { cls := .type "tuple_iterator", data := .fields #[.ref a, .int 0 0] }
abbrev zt2 (h : Heap) (a b : Addr) : Heap := (zt1 h a).push { cls := .type "tuple_iterator", data := .fields #[.ref b, .int 0 0] }
abbrev zt3 (h : Heap) (a b : Addr) : Heap := (zt2 h a b).push { cls := .type "tuple", data := .seq #[.ref h.objs.size, .ref (zt1 h a).objs.size] }
abbrev zt4 (h : Heap) (a b : Addr) : Heap := (zt3 h a b).push { cls := .type "tuple", data := .seq #[.none, .none] }
abbrev zt5 (h : Heap) (a b : Addr) : Heap := (zt4 h a b).push { cls := .type "zip", data := .fields #[.none, .bool false, .bool false, .ref (zt2 h a b).objs.size, .ref (zt3 h a b).objs.size] }
theorem QiN (a b : Addr) (us vs : Array Value) :
  Meets (Builtin.«zip.__new__» ⟨[.type "zip", .ref a, .ref b], []⟩) (fun _ R s => s.heap.IsTuple a us/\s.heap.IsTuple b vs/\R (.ok (.ret (.ref (zt4 s.heap a b).objs.size))) { s with heap := zt5 s.heap a b }) :=
 .of_wp fun prog w A R s h => by
  obtain ⟨hp, g, d, tk, os⟩ := s; obtain ⟨ha, hb, h⟩ := h
  have hsub := sub_zip
  have hA : Heap.IsTuple (Shared.heap ⟨hp, g, d, tk, os⟩) a us := ha
  have hB : Heap.IsTuple (Shared.heap ⟨hp.push { cls := .type "tuple_iterator", data := .fields #[.ref a, .int 0 0] }, g, d, tk, os⟩) b vs := Heap.IsTuple.push hb _
  wp_walk using wpAny_pyIter_tuple hA, wpAny_pyIter_tuple hB
  exact ⟨_, rfl, h⟩
theorem Qki {a b : Addr} {us vs : Array Value} {Q : Value->Shared->Prop} (ha : s.heap.IsTuple a us) (hb : s.heap.IsTuple b vs)
  (k : ∀ h', IsZip h' (s.heap.objs.size + 4) (s.heap.objs.size + 2) (s.heap.objs.size + 3) .none->IsPair h' (s.heap.objs.size + 2) (.ref s.heap.objs.size) (.ref (s.heap.objs.size + 1)) ->
   IsPair h' (s.heap.objs.size + 3) .none .none->h'.IsTupleIter s.heap.objs.size a 0->h'.IsTupleIter (s.heap.objs.size + 1) b 0->(∀ c o, s.heap.get? c = some o->h'.get? c = some o)->Q (.ref (s.heap.objs.size + 4)) { s with heap := h' }) :
  wpAny (model prog w) A (call (.type "zip") [.ref a, .ref b]) Q E s := by
 refine callType_new F.called_zip (by decide) (F.typeCall_zip_2 _ _) (F.newCall_zip_2 _ _) (fun obj => F.args_object_init_3 obj _ _) F.entry_zip_new (QiN a b us vs) ⟨ha, hb, ?_⟩
 have z1 : (zt1 s.heap a).objs.size = s.heap.objs.size + 1 := Heap.size_push ..
 have z2 : (zt2 s.heap a b).objs.size = s.heap.objs.size + 2 := by rw [Heap.size_push, z1]
 have z3 : (zt3 s.heap a b).objs.size = s.heap.objs.size + 3 := by rw [Heap.size_push, z2]
 have z4 : (zt4 s.heap a b).objs.size = s.heap.objs.size + 4 := by rw [Heap.size_push, z3]
 have up : ∀ {h : Heap} {c : Addr} {x : Obj} (o : Obj), h.get? c = some x->(h.push o).get? c = some x := fun o e => QlS o e
 have g5 : (zt5 s.heap a b).get? (zt4 s.heap a b).objs.size = some _ := Qmd _ rfl
 have g4 : (zt5 s.heap a b).get? (zt3 s.heap a b).objs.size = some _ := up _ (Qmd _ rfl)
 have g3 : (zt5 s.heap a b).get? (zt2 s.heap a b).objs.size = some _ := up _ (up _ (Qmd _ rfl))
 have g2 : (zt5 s.heap a b).get? (zt1 s.heap a).objs.size = some _ := up _ (up _ (up _ (Qmd _ rfl)))
 have g1 : (zt5 s.heap a b).get? s.heap.objs.size = some _ := up _ (up _ (up _ (up _ (Qmd _ rfl))))
 show _/\_
 rw [z2, z3, z4] at g5
 rw [z1, z2] at g3
 rw [z3] at g4
 rw [z1] at g2
 rw [z4]
 exact ⟨⟨_, g5, rfl⟩, k _ g5 g3 g4 ⟨_, g1, rfl, rfl⟩ ⟨_, g2, rfl, rfl⟩ fun c o x => up _ (up _ (up _ (up _ (up _ x))))⟩
end
section
variable {X : Cx} {QlP : List (Addr × Obj)} {σ : List (Option V)} {H H' : Hp} {s : Shared} {h' : Heap}
theorem Inv.turnedL {t' : Nat} {ch : List Addr} (I : Inv X QlP σ H s) (k : ∀ b o, b ∉ ch->s.heap.get? b = some o->h'.get? b = some o) (hf : ∀ b ∈ ch, fj X QlP H b) : Inv X QlP σ H { s with heap := h', toks := t' } := by
 have nit : ∀ b u, H b = some u->b ∉ ch := fun b u e z => by rw [(hf b z).1] at e; cases e
 refine I.step (g' := s.gens) (d' := s.drawn) (ch := ch) (fun b hb => ?_) (fun b o _ _ hc e _ => k b o hc e) (fun b o _ _ hc e _ => ⟨o.slots, k b o hc e⟩) (fun _ _ _ _ n => n)
  (fun b o hc e => ⟨o, k b o hc e⟩) (fun _ _ e => e) (fun _ _ _ e => e) (fun b ps e => ⟨#[], by rw [e]; simp⟩) (fun m hm => ?_) (fun b u e => ?_) I.bare
 ·obtain ⟨_, h1, _, h3, h4, h5⟩ := hf b hb
  exact ⟨h3, h1, h4, h5⟩
 ·obtain ⟨o, es, ep, ho, r⟩ := hm
  exact ⟨o, es, ep, k _ o (fun z => (hf _ z).2.1 rfl) ho, r⟩
 ·refine (I.hok b u e).stay (fun c v hc q => k c v ?_ q) (fun _ q => q) fun _ _ q => q
  rcases hc with z | z
  ·rw [z]; exact nit b u e
  ·exact nit c _ z
theorem Inv.trackT {a : Addr} {xs : List V} (I : Inv X QlP σ H s) (fp : fj X QlP H a) (h0 : X.s₀.heap.get? a = none) (ho : dm X.prog X.w (upd H a (.tup xs)) s.heap a (.tup xs)) : Inv X QlP σ (upd H a (.tup xs)) s := by
 obtain ⟨hn, hL, _, _, hC, hP⟩ := fp
 have up : ∀ b u, H b = some u->upd H a (.tup xs) b = some u := fun b u e => by
  unfold upd
  rw [Qmp (fun z => by rw [z, hn] at e; cases e)]; exact e
 have un : ∀ b, b ≠ a->H b = none->upd H a (.tup xs) b = none := fun b n e => by unfold upd; rw [Qmp n]; exact e
 refine ⟨I.ok, I.os, I.bare, ⟨I.base.keep, I.base.slot, fun b o e n hx => un b (fun z => ?_) (I.base.free b o e n hx), I.base.there, fun b xs e => up _ _ (I.base.tups b xs e), fun b o xs e => up _ _ (I.base.frzs b o xs e), fun b ps e => ?_⟩, I.loc, I.cell, un _ (Ne.symm hL) I.free,
  fun x c e => un _ (hC x c e) (I.freeC x c e), fun p hp => ?_, fun b u e => ?_, I.len⟩
 ·rw [z, h0] at e; cases e
 ·obtain ⟨more, e'⟩ := I.base.tbls b ps e
  exact ⟨more, up _ _ e'⟩
 ·obtain ⟨e, n, ne', nf, d⟩ := I.pin p hp
  exact ⟨e, un _ (hP p hp) n, ne', nf, d⟩
 ·by_cases z : b = a
  ·subst z
   unfold upd at e; rw [Qmo rfl] at e; cases e
   exact ho
  ·unfold upd at e; rw [Qmp z] at e
   exact (I.hok b u e).stay (fun _ _ _ q => q) (fun _ q => up _ _ q) fun _ _ q => up _ _ q
def Itz (K : PySem.W.Frag) (a b : Addr) : It :=
  ⟨fun i H => ∃ xs ys x y, SqT K H a xs/\SqT K H b ys/\xs[i]? = some x/\ys[i]? = some y,
   fun i H v H' => ∃ p x y, v = .ref p/\H p = none/\H' = upd H p (.tup [x, y])/\(∀ xs, SqT K H a xs->xs[i]? = some x)/\∀ ys, SqT K H b ys->ys[i]? = some y,
   fun i H => ∃ xs ys, SqT K H a xs/\SqT K H b ys/\(xs.length<=i\/ys.length<=i)⟩
theorem Qkt {P0 : Program} {w : World} {K : PySem.W.Frag} {es : List Expr} {tk : Nat} {tp : Pos} {c P O i j a b : Addr} (D : ZA c P O i j a b) :
  Turn P0 w K (.Tuple es tk tp) (Itz K a b) [c, P, O, i, j] c (fun n h => IsZip h c P O .none/\IsPair h P (.ref i) (.ref j)/\(∃ p q, IsPair h O p q)/\h.IsTupleIter i a n/\h.IsTupleIter j b n) where
 mem := by simp
 obj := fun n h st d hd => by
  obtain ⟨g1, g2, ⟨p, q, g3⟩, ⟨o4, g4, c4, d4⟩, ⟨o5, g5, c5, d5⟩⟩ := st
  simp only [List.mem_cons, List.not_mem_nil, or_false] at hd
  rcases hd with rfl | rfl | rfl | rfl | rfl
  ·exact ⟨_, g1, fun v z => by have z' : Data.fields _ = Data.cell v := z; cases z'⟩
  ·exact ⟨_, g2, fun v z => by have z' : Data.seq _ _ = Data.cell v := z; cases z'⟩
  ·exact ⟨_, g3, fun v z => by have z' : Data.seq _ _ = Data.cell v := z; cases z'⟩
  ·exact ⟨o4, g4, fun v z => by rw [d4] at z; cases z⟩
  ·exact ⟨o5, g5, fun v z => by rw [d5] at z; cases z⟩
 keep := fun n h h' st k => by
  obtain ⟨g1, g2, ⟨p, q, g3⟩, g4, g5⟩ := st
  exact ⟨k c (by simp) _ g1, k P (by simp) _ g2, ⟨p, q, k O (by simp) _ g3⟩, g4.at fun o e => k i (by simp) o e, g5.at fun o e => k j (by simp) o e⟩
 item := by
  intro X hP hw hK hc n QlP s σ H E I hf st hg
  subst hP hw hK
  obtain ⟨xs, ys, x, y, hxs, hys, hx, hy⟩ := hg
  obtain ⟨g1, g2, ⟨p, q, g3⟩, g4, g5⟩ := st
  obtain ⟨us, rx, px, _⟩ := I.tuple hxs
  obtain ⟨vs, ry, py, _⟩ := I.tuple hys
  obtain ⟨u, hu, ru⟩ := rx.get hx
  obtain ⟨v, hv, rv⟩ := ry.get hy
  refine QjM D g1 g2 g3 g4 g5 (show s.heap.IsTuple a us.toArray from px) (show s.heap.IsTuple b vs.toArray from py) (by simpa using hu) (by simpa using hv) fun h1 a1 a2 a3 a4 a5 a6 a7 => ?_
  refine ⟨_, rfl, wpAny_letOwnedTupleGo_zip (s := { s with heap := h1 }) a1 fun h2 b1 b2 => ?_⟩
  have kk : ∀ d o, d ∉ [c, P, O, i, j]->s.heap.get? d = some o->h2.get? d = some o := fun d o nd e => by
   simp only [List.mem_cons, List.not_mem_nil, or_false, not_or] at nd
   exact b2.extBut _ _ nd.1 (a7 d o nd.1 nd.2.2.1 nd.2.2.2.1 nd.2.2.2.2 e)
  have I1 : Inv X QlP σ H { s with heap := h2 } := I.turnedL (t' := s.toks) kk hf
  have lc : c < s.heap.objs.size := QlV g1
  have lt : ∀ d ∈ [c, P, O, i, j], d < s.heap.objs.size := fun d hd => by
   simp only [List.mem_cons, List.not_mem_nil, or_false] at hd
   obtain ⟨o4, e4, _⟩ := g4
   obtain ⟨o5, e5, _⟩ := g5
   rcases hd with rfl | rfl | rfl | rfl | rfl
   ·exact lc
   ·exact QlV g2
   ·exact QlV g3
   ·exact QlV e4
   ·exact QlV e5
  have a5' : IsPair h2 s.heap.objs.size u v := b2.extBut _ _ (Nat.ne_of_gt lc) a5
  have fp := I.fpOk (H' := H) (QlX _) (I.hok.fresh (QlX _))
  have h0 : X.s₀.heap.get? s.heap.objs.size = none := by
   cases e : X.s₀.heap.get? s.heap.objs.size with
   | none => rfl
   | some o => exact absurd (Qmb (QlV e) I.sz) (Qmk _)
  have I2 := I1.trackT (xs := [x, y]) fp h0 ⟨by show 2<=sizeLine; decide, [u, v], .cons ru (.cons rv .nil), ⟨_, a5', rfl, _, rfl⟩⟩
  refine ⟨.ref s.heap.objs.size, _, I2, rfl, ⟨_, x, y, rfl, I.hok.fresh (QlX _), rfl, fun zs hz => by rw [I.tuple_inj hz hxs]; exact hx, fun zs hz => by rw [I.tuple_inj hz hys]; exact hy⟩, ⟨b1, ?_, ⟨u, v, b2.extBut _ _ D.Oc a2⟩, a3.at fun o e => b2.extBut _ _ D.ic e, a4.at fun o e => b2.extBut _ _ D.jc e⟩, fun d hd => ?_⟩
  ·exact b2.extBut _ _ D.Pc (a7 _ _ D.Pc D.PO D.Pi D.Pj g2)
  ·unfold upd
   rw [Qmp (Qme (lt d hd))]
   exact (hf d hd).1
 done := by
  intro X hP hw hK hc n QlP s σ H E I hf st hg
  subst hP hw hK
  obtain ⟨xs, ys, hxs, hys, hl⟩ := hg
  obtain ⟨g1, g2, ⟨p, q, g3⟩, g4, g5⟩ := st
  obtain ⟨us, rx, px, _⟩ := I.tuple hxs
  obtain ⟨vs, ry, py, _⟩ := I.tuple hys
  have l1 := rx.length
  have l2 := ry.length
  refine Qhv (I.ok.hd hc) D g1 g2 g3 g4 g5 (show s.heap.IsTuple a us.toArray from px) (show s.heap.IsTuple b vs.toArray from py) (hl.imp (fun h => by simp; omega) fun h => by simp; omega) fun h1 a7 => ⟨rfl, I.turnedL (t' := s.toks) (fun d o nd e => ?_) hf⟩
  simp only [List.mem_cons, List.not_mem_nil, or_false, not_or] at nd
  exact a7 d o nd.1 nd.2.2.1 nd.2.2.2.1 nd.2.2.2.2 e
 self := fun _ _ _ _ _ st h => wpAny_pyIter_zip st.1 h
theorem za_new {n a b : Nat} (ha : a < n) (hb : b < n) : ZA (n + 4) (n + 2) (n + 3) n (n + 1) a b := by
 constructor <;> exact (show (_ : Nat) ≠ _ by omega)
def iZip (K : PySem.W.Frag) (ta : TA) : TI := fun σ H R => ta σ H fun vs H1 => ∃ a b xs ys, vs = [.ref a, .ref b]/\SqT K H1 a xs/\SqT K H1 b ys/\R (Itz K a b) H1
theorem pi_zip {a b : Expr} {ta : TA} {p pos tp : Pos} {es : List Expr} {tk : Nat} (hg : Gl X "zip") (hm : X.mg "zip" = none) (ha : PA X [a, b] ta) (hs : starEach [a, b] X.env = [(false, eval a X.env), (false, eval b X.env)]) (hs2 : starEach [b] X.env = [(false, eval b X.env)]) :
  PI X (.Tuple es tk tp) (.Call (.Name "zip" p) [a, b] [] pos) (iZip X.K ta) := by
 intro QlP s σ H R I h
 refine Call_ (sj I hg hm (show bootBuiltins "zip" = some (.type "zip") by decide +kernel) (PyProof.Rows.callWith_type1 (thn (ha pos QlP s σ H _ I h) fun us s1 ⟨vs, H1, I1, r1, q1⟩ => ?_) (by rw [hs, hs2]) (by rw [hs2]; rfl)))
 obtain ⟨a', b', xs, ys, e, hx, hy, q⟩ := q1
 subst e
 cases r1 with
 | cons r rr =>
  cases rr with
  | cons r' rr =>
   cases rr
   cases r
   cases r'
   obtain ⟨us, rx, px, _⟩ := I1.tuple hx
   obtain ⟨vs, ry, py, _⟩ := I1.tuple hy
   have la : a' < s1.heap.objs.size := by obtain ⟨o, e, _⟩ := (show s1.heap.IsTuple a' us.toArray from px); exact QlV e
   have lb : b' < s1.heap.objs.size := by obtain ⟨o, e, _⟩ := (show s1.heap.IsTuple b' vs.toArray from py); exact QlV e
   refine Qki (show s1.heap.IsTuple a' us.toArray from px) (show s1.heap.IsTuple b' vs.toArray from py) fun h' g1 g2 g3 g4 g5 gk => ?_
   refine wpAny_pyIter_zip (s := { s1 with heap := h' }) g1 ?_
   refine ⟨_, [s1.heap.objs.size + 4, s1.heap.objs.size + 2, s1.heap.objs.size + 3, s1.heap.objs.size, s1.heap.objs.size + 1], _, _, H1, rfl, I1.kept (t' := s1.toks) gk, Qkt (za_new la lb), ⟨g1, g2, ⟨_, _, g3⟩, g4, g5⟩, fun d hd => ?_, q⟩
   have hd' : s1.heap.objs.size<=d := by
    simp only [List.mem_cons, List.not_mem_nil, or_false] at hd
    rcases hd with rfl | rfl | rfl | rfl | rfl <;> omega
   exact I1.fpOk hd' (I1.hok.fresh hd')
end
section
variable {prog : Program} {w : World} {A : Around} {E : Value->Shared->Prop} {s : Shared}
end
section
variable {X : Cx} {QlP : List (Addr × Obj)} {σ : List (Option V)} {H H' : Hp} {s : Shared} {h' : Heap}
end
structure CompSc2 (X : Cx) (scope : Scope) (x y : Str) (cl : List (Str × Addr)) (N : List Str) (cap : List Nat) : Prop where
 clos : closureFor scope X.env = pure cl
 cell : ∀ y ∈ scope.names, y.2 ≠ .cell
 kind : scope.kind = .function
 names : ∀ y ∈ scope.names, y.2 = .local->scope.names.lookup y.1 = some .local
 loc : scope.names.lookup x = some .local
 loc2 : scope.names.lookup y = some .local
 nd : N.Nodup
 n0 : N[0]? = some x
 n1 : N[1]? = some y
 len : N.length = cap.length + 2
 capN : ∀ (k j : Nat), cap[k]? = some j->N[k + 2]? = X.N[j]?
 out : ∀ (k : Nat) (y : Str), N[k + 2]? = some y->X.env.kindOf y = some .cell\/X.env.kindOf y = some .free
 inn : ∀ (k : Nat) (y : Str), N[k + 2]? = some y->(relabel scope X.env).names.lookup y = some .cell\/(relabel scope X.env).names.lookup y = some .free
 sub : ∀ y c, cl.lookup y = some c->X.env.cells.lookup y = some c
 has : ∀ y, ((relabel scope X.env).names.lookup y = some .cell\/(relabel scope X.env).names.lookup y = some .free)->∃ c, cl.lookup y = some c
def ik (cap : List Nat) (σ : St) (x y : Option V) : St := x :: y :: cap.map fun j => (σ[j]?).getD none
section
variable {X : Cx} {QlP : List (Addr × Obj)} {σ : St} {H : Hp} {s : Shared} {scope : Scope} {x y : Str} {cl : List (Str × Addr)} {N : List Str} {cap : List Nat} {C : Addr} {fp : List Addr}
theorem QiV (S : CompSc2 X scope x y cl N cap) (I : Inv X QlP σ H s) (hC : s.heap.objs.size<=C) (hfp : ∀ b ∈ fp, fj X QlP H b/\b < s.heap.objs.size) : (bu X scope cl C N s H fp).Ok where
 mod := I.ok.mod
 kind := S.kind
 glob := I.ok.glob
 blt := I.ok.blt
 above := hC
 inj := fun y' z c h1 h2 => I.ok.inj y' z c (S.sub y' c h1) (S.sub z c h2)
 has := fun y h => S.has y h
 cab := fun y c h => by cases h
 hd := I.ok.hd
 frames := I.ok.frames
 stk := .inl rfl
 exf := fun b hb => ⟨Qme (Qmb (hfp b hb).2 hC), fun y c h => (hfp b hb).1.2.2.2.2.1 y c (S.sub y c h)⟩
 bs := I.bs
 bsz := Qmh I.ok.bsz I.sz
 noex := fun b o e hb => by
  rcases (hfp b hb).1.2.2.2.1 with z | z
  ·exact I.ok.noex b o e z
  ·exact absurd (Qmb (QlV e) (Qmh I.ok.bsz z)) (Qmk _)
 exfs := fun b hb z => by
  rcases List.mem_cons.mp (I.stkSub b z) with e | e
  ·exact (hfp b hb).1.2.1 e
  ·exact (hfp b hb).1.2.2.1 e
 funs := I.stack
 frf := I.stkFree
theorem Qip {h₁ : Heap} {tk : Nat} {m : Str->Option Value} (S : CompSc2 X scope x y cl N cap) (I : Inv X QlP σ H s) (hC : s.heap.objs.size<=C) (hfp : ∀ b ∈ fp, fj X QlP H b/\b < s.heap.objs.size)
    (hns : h₁.Ns C m) (old : ∀ b o, s.heap.get? b = some o->h₁.get? b = some o) : Inv (bu X scope cl C N s H fp) [] (ik cap σ none none) H { s with heap := h₁, toks := tk } := by
  refine ⟨QiV S I hC hfp, rfl, I.bare, Un.kept old, ⟨m, hns, fun i y' v h1 h2 h3 => ?_⟩, fun y' c h => ?_, I.hok.fresh hC, fun y' c h => I.freeC y' c (S.sub y' c h), fun p hp => absurd (show p ∈ ([] : List (Addr × Obj)) from hp) (by simp), I.hok.kept old, ?_⟩
  · cases i with
    | zero => exact absurd h2 (by simp [ik])
    | succ k =>
     cases k with
     | zero => exact absurd h2 (by simp [ik])
     | succ k =>
      have h2' : (cap.map fun j => (σ[j]?).getD none)[k]? = some (some v) := by simpa [ik] using h2
      rw [Qmf] at h2'
      cases ej : cap[k]? with
      | none => rw [ej] at h2'; cases h2'
      | some j =>
        rw [ej] at h2'
        have e1 : (σ[j]?).getD none = some v := by simpa using h2'
        have e2 : σ[j]? = some (some v) := by
          cases q : σ[j]? with
          | none => rw [q] at e1; cases e1
          | some z => rw [q] at e1; exact congrArg some e1
        have e3 : X.N[j]? = some y' := (S.capN k j ej).symm.trans h1
        obtain ⟨m2, hn2, hl⟩ := I.loc
        have ko := S.out k y' h1
        have vis : Vis X.env.scope y' := .inr ko
        obtain ⟨u, ru, lk⟩ := hl j y' v e3 e2 vis
        refine ⟨u, ru, .inr ⟨S.inn k y' h1, ?_⟩⟩
        rcases lk with ⟨kl, _⟩ | ⟨_, c, hc, cell⟩
        · rcases ko with z | z <;> (rw [z] at kl; cases kl)
        · obtain ⟨c', hc'⟩ := S.has y' (S.inn k y' h1)
          have e4 := S.sub y' c' hc'
          rw [hc] at e4
          cases e4
          obtain ⟨o, ho, hd⟩ := cell
          exact ⟨c, hc', o, old c o ho, hd⟩
  · obtain ⟨v, o, ho, hd⟩ := I.cell y' c (S.sub y' c h)
    exact ⟨v, o, old c o ho, hd⟩
  · show (ik cap σ none none).length = N.length
    rw [S.len]
    simp [ik]
end
section
variable {X : Cx} {QlP : List (Addr × Obj)} {σ : St} {scope : Scope} {x y : Str} {px py pos tp : Pos} {tk : Nat} {cl : List (Str × Addr)} {N : List Str} {cap : List Nat} {elt iter : Expr} {te : TE} {E : Value->Shared->Prop}
end
section
variable {prog : Program} {w : World} {A : Around} {s : Shared} {env : Env} {R : Result->Shared->Prop}
theorem Qkh {elt iter : Expr} {elts ifs : List Expr} {x1 : Nat} {tp : Pos} {scope : Scope} {pos : Pos} {it acc : Value} (I : Nat->Shared->Prop)
  (turn : ∀ n s, I n s->wpAny (model prog w) A (pyNext it) (fun r s1 => match r with
   | none => R (.ok .next) s1
   | some v => wpAny (model prog w) A (letOwnedTupleGo (.Tuple elts x1 tp) it v) (fun _ s2 => wpAny (model prog w) A (assign (.Tuple elts x1 tp) env v) (fun _ s3 =>
     wpAny (model prog w) A (forIn ifs true fun c r => if r = true then do let ok <-isTrue c env (eval c env); pure (ForInStep.yield ok) else pure (ForInStep.yield r)) (fun ok s4 =>
      if ok = true then wpAny (model prog w) A (eval elt env) (fun x s5 =>
       wpAny (model prog w) A (call (.builtin "list.append") [acc, x]) (fun _ s6 => ∃ m, m < n/\I m s6) (notedBy (model prog w) A env fun e s' => R (.error e) s') s5) (notedBy (model prog w) A env fun e s' => R (.error e) s') s4
      else ∃ m, m < n/\I m s4) (notedBy (model prog w) A env fun e s' => R (.error e) s') s3) (notedBy (model prog w) A env fun e s' => R (.error e) s') s2)
     (notedBy (model prog w) A env fun e s' => R (.error e) s') s1) (notedBy (model prog w) A env fun e s' => R (.error e) s') s)
  (n : Nat) (h : I n s) : codeAny (model prog w) A (.compLoop (.ListComp elt [⟨.Tuple elts x1 tp, iter, ifs, 0⟩] scope pos) 0 it acc env) R s := by
 refine codeAny_loop rfl I (fun n s0 h0 => ?_) n h
 show wpAny _ A ((compTurn (.ListComp elt [⟨.Tuple elts x1 tp, iter, ifs, 0⟩] scope pos) 0 it acc env).onRaise (fun x => do noteFrame x env; theTreesLotGoes x)) _ _ s0
 refine wpAny_noted ?_
 rw [compTurn_list]
 refine Qmn (wpAny_standAt (Qmn (Qmt (turn n s0 h0) (fun r s1 h1 => ?_) fun _ _ z => z)))
 cases r with
 | none => exact Qmr h1
 | some v =>
  refine Qmn (Qmt h1 (fun _ s2 h2 => Qmn (Qmt h2 (fun _ s3 h3 => Qmn (Qmt h3 (fun ok s4 h4 => ?_) fun _ _ z => z)) fun _ _ z => z)) fun _ _ z => z)
  cases ok with
  | false => exact Qmr ⟨rfl, h4⟩
  | true => exact Qmn (Qmn (Qmt h4 (fun x s5 h5 => Qmn (Qmt h5 (fun _ s6 h6 => Qmr (Qmr ⟨rfl, h6⟩)) fun _ _ z => z)) fun _ _ z => z))
end
def QgB (K : PySem.W.Frag) (cap : List Nat) (tt : TT) (te : TE) (σ : St) (P : List V->Hp->Prop) (J : It) (H1 : Hp) : Prop :=
  ∃ W : Nat->Nat->List V->Hp->Prop, (∃ m, W 0 m [] H1)/\∀ i m ys H, W i m ys H->ys.length < sizeLine /\
    ((J.stop i H/\P ys H) ∨
     (J.go i H/\∀ v H', J.yld i H v H'->∃ p v1 v2, v = .ref p/\SqT K H' p [v1, v2]/\tt (ik cap σ (some v1) (some v2)) H' fun b H2 => if b = true then te (ik cap σ (some v1) (some v2)) H2 fun y H3 => ∃ m', m' < m/\W (i + 1) m' (ys ++ [y]) H3 else ∃ m', m' < m/\W (i + 1) m' ys H2))
def tComp3 (K : PySem.W.Frag) (wi : TI) (cap : List Nat) (tt : TT) (te : TE) : TE := fun σ H Q => wi σ H (QgB K cap tt te σ fun ys H2 => ∀ p, H2 p = none->Q (.ref p) (upd H2 p (.lst ys)))
section
variable {X : Cx} {QlP : List (Addr × Obj)} {σ : St} {scope : Scope} {x y : Str} {px py pos tp : Pos} {tk : Nat} {cl : List (Str × Addr)} {N : List Str} {cap : List Nat} {elt iter : Expr} {ifs : List Expr} {tt : TT} {te : TE} {E : Value->Shared->Prop}
theorem QiX {P : List V->Hp->Prop} {RR : Value->Addr->Result->Shared->Prop} {H2 : Hp} {s2 : Shared} {it : Addr} {fp : List Addr} {tn : Nat->Heap->Prop} {J : It} (hc : X.calm = true) (S : CompSc2 X scope x y cl N cap)
  (ht : ∀ C s H ex, PTs (bu X scope cl C N s H ex) ifs tt) (he : ∀ C s H ex, PE (bu X scope cl C N s H ex) elt te)
  (I2 : Inv X QlP σ H2 s2) (T : Turn X.prog X.w X.K (.Tuple [.Name x px, .Name y py] tk tp) J fp it tn) (st2 : tn 0 s2.heap) (f2 : ∀ b ∈ fp, fj X QlP H2 b) (h : QgB X.K cap tt te σ P J H2)
  (hRR : ∀ (D C : Addr) (s4 : Shared) (ys : List V) (H3 : Hp) (oC : Obj) (m : Str->Option Value), Inv X (QlP ++ [(C, oC)]) σ (upd H3 D (.lst ys)) s4->(∀ h : Heap, h.get? C = some oC->h.Ns C m)->fj X QlP (upd H3 D (.lst ys)) C->H3 D = none->P ys H3->RR (.ref D) C (.ok .next) s4) :
  wpAny (model X.prog X.w) X.A (newList []) (fun acc s₃ => wpAny (model X.prog X.w) X.A (newFunctionEnv scope X.env.globals cl [] X.env.qual none .none (some X.env)) (fun cenv s₄ =>
   codeAny (model X.prog X.w) X.A (.compStart (.ListComp elt [⟨.Tuple [.Name x px, .Name y py] tk tp, iter, ifs, 0⟩] scope pos) 0 (.ref it) acc { cenv with scope := relabel scope X.env }) (RR acc cenv.locals) s₄) E s₃) E s2 := by
 obtain ⟨W, ⟨m0, w0⟩, turn⟩ := h
 refine wpAny_newObj_type (wpAny_newFunctionEnv S.cell (by intro y hy; simp at hy) (fun h₁ hns₁ hsb₁ => ?_) S.kind)
 dsimp only at hns₁ hsb₁ ⊢
 generalize hG : s2.heap.push { cls := .type "list", dict := none, data := .seq ([] : List Value).toArray } = G at hns₁ hsb₁ ⊢
 have hC : G.objs.size = s2.heap.objs.size + 1 := by rw [<-hG, Heap.size_push]
 have hDC : s2.heap.objs.size ≠ G.objs.size := by rw [hC]; exact Qme (Nat.lt_succ_self _)
 have hCle : s2.heap.objs.size<=G.objs.size := by rw [hC]; exact Nat.le_succ _
 have old : ∀ b o, s2.heap.get? b = some o->h₁.get? b = some o := fun b o e => by
  have hb := QlV e
  exact hsb₁.extBut b o (by rw [hC]; exact Qme (Nat.lt_succ_of_lt hb)) (QlS _ (hG ▸ QlS _ e))
 have hacc : h₁.get? s2.heap.objs.size = some (fq [] 0) := hsb₁.extBut _ _ hDC (QlS _ (hG ▸ Qmd _ rfl))
 have flt : ∀ b ∈ fp, b < s2.heap.objs.size := fun b hb => by obtain ⟨o, e, _⟩ := T.obj 0 _ st2 b hb; exact QlV e
 have fp2 : ∀ b ∈ fp, fj X QlP H2 b/\b < s2.heap.objs.size := fun b hb => ⟨f2 b hb, flt b hb⟩
 have st1 : tn 0 h₁ := T.keep _ _ _ st2 fun b _ o e => old b o e
 have fD2 : H2 s2.heap.objs.size = none := I2.hok.fresh (QlX _)
 have nDx : ∀ y c, X.env.cells.lookup y = some c->c ≠ s2.heap.objs.size/\c ≠ G.objs.size := fun y c e => by
  obtain ⟨v, q⟩ := I2.cell y c e
  have := q.lt
  exact ⟨Qme this, by rw [hC]; exact Qme (Nat.lt_succ_of_lt this)⟩
 have nPx : ∀ p ∈ X.pn ++ QlP, p.1 < s2.heap.objs.size := fun p hp => QlV (I2.pin p hp).1
 have fpB : ∀ {H' : Hp} {pl : List (Addr × Obj)}, (∀ b ∈ fp, H' b = none)->(∀ p ∈ pl, p.1 = s2.heap.objs.size)->∀ b ∈ fp, fj (bu X scope cl G.objs.size N s2 H2 fp) pl H' b := fun {H' pl} hn hp b hb => by
  refine ⟨hn b hb, Qme (Qmb (flt b hb) hCle), fun z => ?_, .inl hb, fun y c e => (f2 b hb).2.2.2.2.1 y c (S.sub y c e), fun p hq z => ?_⟩
  ·rcases List.mem_cons.mp (I2.stkSub b z) with e | e
   ·exact (f2 b hb).2.1 e
   ·exact (f2 b hb).2.2.1 e
  ·have e1 : p.1 = s2.heap.objs.size := hp p (by simpa [bu] using hq)
   rw [e1] at z
   exact absurd (flt b hb) (by rw [<-z]; exact Qmk _)
 have nDfs : s2.heap.objs.size ∉ frs X.stack := fun z => by
  rcases List.mem_cons.mp (I2.stkSub _ z) with e | e
  ·exact absurd I2.lt (by rw [<-e]; exact Qmk _)
  ·exact I2.nofs (QlX _) e
 have pinD : ∀ {σ' : St} {H' : Hp} {s' : Shared} {ob : Obj}, Inv (bu X scope cl G.objs.size N s2 H2 fp) [] σ' H' s'->s'.heap.get? s2.heap.objs.size = some ob->(∀ v, ob.data ≠ .cell v)->H' s2.heap.objs.size = none ->
   Inv (bu X scope cl G.objs.size N s2 H2 fp) [(s2.heap.objs.size, ob)] σ' H' s' := fun {σ' H' s' ob} J' e d n => J'.pins_of fun p hp => by
  have e1 : p = (s2.heap.objs.size, ob) := by simpa using hp
  subst e1
  exact ⟨e, n, hDC, nDfs, d⟩
 have nocell : ∀ (ys : List Value) (n : Nat) v, (fq ys n).data ≠ .cell v := fun ys n v z => by cases (show Data.seq ys.toArray n = Data.cell v from z)
 have loop : ∀ s₃ : Shared, s₃ = { s2 with heap := h₁, toks := s2.toks + ([] : List (Str × Value)).length } ->
   codeAny (model X.prog X.w) X.A (.compLoop (.ListComp elt [⟨.Tuple [.Name x px, .Name y py] tk tp, iter, ifs, 0⟩] scope pos) 0 (.ref it) (.ref s2.heap.objs.size) (compEnvC scope cl G.objs.size X.env)) (RR (.ref s2.heap.objs.size) G.objs.size) s₃ := by
  rintro s₃ rfl
  refine Qkh
   (fun n s' => ∃ i ys vs e H' a a2, Inv (bu X scope cl G.objs.size N s2 H2 fp) [(s2.heap.objs.size, fq vs e)] (ik cap σ a a2) H' s'/\tn i s'.heap/\(∀ b ∈ fp, H' b = none)/\bb ys vs/\H' s2.heap.objs.size = none/\W i n ys H') ?_ m0
   ⟨0, [], [], 0, H2, none, none, pinD (Qip S I2 hCle fp2 hns₁ old) hacc (nocell _ _) fD2, st1, fun b hb => (f2 b hb).1, .nil, fD2, w0⟩
  rintro n s3 ⟨i, ys, vs, e, H3, a, a2, I3, st3, fr3, rel3, fD3, w3⟩
  obtain ⟨hlen, hcase⟩ := turn i n ys H3 w3
  have pl1 : ∀ p ∈ [(s2.heap.objs.size, fq vs e)], p.1 = s2.heap.objs.size := fun p hp => by
   have e1 : p = (s2.heap.objs.size, fq vs e) := by simpa using hp
   rw [e1]
  rcases hcase with ⟨stop, fin⟩ | ⟨go, step⟩
  ·refine Qmt (T.done (bu X scope cl G.objs.size N s2 H2 fp) rfl rfl rfl hc i _ s3 _ H3 (fun _ _ => False) I3 (fpB fr3 pl1) st3 stop) (fun r s4 ⟨hr, I4⟩ => ?_) fun _ _ z => z.elim
   subst hr
   obtain ⟨hD4, hDn, _, _, _⟩ := I4.pin (s2.heap.objs.size, fq vs e) (by simp [bu])
   have un4 : Un (frs X.stack) fp H2 H3 s2.heap s4.heap := I4.base
   have un5 : Un (frs X.stack) fp H2 (upd H3 s2.heap.objs.size (.lst ys)) s2.heap s4.heap := un4.track (QlX _) hDn
   have ok5 : HOk X.prog X.w (upd H3 s2.heap.objs.size (.lst ys)) s4.heap := HOk.track I4.hok hDn ⟨Nat.le_of_lt hlen, vs, e, rel3, hD4⟩
   have I5 : Inv X QlP σ (upd H3 s2.heap.objs.size (.lst ys)) s4 := I2.call' I4.os un5 ok5 I4.bare fun b hb => ⟨(f2 b hb).2.2.2.1, (f2 b hb).2.1, (f2 b hb).2.2.2.2.1, (f2 b hb).2.2.2.2.2⟩
   obtain ⟨m, hnC, _⟩ := I4.loc
   have hnC' : s4.heap.Ns G.objs.size m := hnC
   obtain ⟨oC, es, ep, hoC, hdC, hrC⟩ := id hnC'
   have hHC : (upd H3 s2.heap.objs.size (.lst ys)) G.objs.size = none := by
    rw [bo (Ne.symm hDC)]
    exact I4.free
   have fC : fj X QlP (upd H3 s2.heap.objs.size (.lst ys)) G.objs.size := by
    refine ⟨hHC, Nat.ne_of_gt (Qmb I2.lt hCle), I2.nofs hCle, .inr (Qmh I2.sz hCle), fun y c q => (nDx y c q).2, fun p hp z => ?_⟩
    have := nPx p hp
    rw [z] at this
    exact absurd (Qmb this hCle) (Qmk _)
   refine hRR s2.heap.objs.size G.objs.size s4 ys H3 oC m (I5.pins_of fun p hp => ?_) (fun h q => ⟨oC, es, ep, q, hdC, hrC⟩) fC hDn fin
   rcases List.mem_append.mp hp with hp | hp
   ·exact I5.pin p (QlT _ hp)
   ·have e1 : p = (G.objs.size, oC) := by simpa using hp
    subst e1
    exact ⟨hoC, hHC, fC.2.1, fC.2.2.1, fun v z => by rw [hdC] at z; cases z⟩
  ·refine Qmt (T.item (bu X scope cl G.objs.size N s2 H2 fp) rfl rfl rfl hc i _ s3 _ H3 (fun _ _ => False) I3 (fpB fr3 pl1) st3 go) (fun r s4 ⟨u, hr, h4⟩ => ?_) fun _ _ z => z.elim
   subst hr
   refine Qmt h4 (fun _ s5 ⟨v, H5, I5, r5, y5, st5, fr5⟩ => ?_) fun _ _ z => z.elim
   have I5' := I5.pinned (fpB fr5 pl1) (T.obj _ _ st5)
   have hloc : (bu X scope cl G.objs.size N s2 H2 fp).env.scope.names.lookup x = some .local := lookup_relabel_local S.loc
   have hloc2 : (bu X scope cl G.objs.size N s2 H2 fp).env.scope.names.lookup y = some .local := lookup_relabel_local S.loc2
   obtain ⟨pn, v1, v2, rfl, sq, step'⟩ := step v H5 y5
   have pg : PG (bu X scope cl G.objs.size N s2 H2 fp) (.Tuple [.Name x px, .Name y py] tk tp) _ := QbJ hc (qu (zz (i := 0) (pos := px) S.nd S.n0 (.inl hloc) (.inr hloc)) (qu (zz (i := 1) (pos := py) S.nd S.n1 (.inl hloc2) (.inr hloc2)) Qbl))
   refine Qmt (pg _ s5 _ H5 _ u (fun σ6 H6 => σ6 = ik cap σ (some v1) (some v2)/\H6 = H5) I5' r5 ⟨pn, [v1, v2], rfl, sq, rfl, v1, [v2], rfl, v2, [], rfl, rfl, rfl, rfl⟩) (fun _ s6 ⟨σ6, H6, I6, e6, e6'⟩ => ?_) fun _ _ z => z.elim
   subst e6 e6'
   refine Qmt (ht _ _ _ _ _ s6 _ H6 _ I6 step') (fun ok s7 ⟨H7, I7, q7⟩ => ?_) fun _ _ z => z.elim
   have after : ∀ {H8 : Hp} {s8 : Shared}, Inv (bu X scope cl G.objs.size N s2 H2 fp) ([(s2.heap.objs.size, fq vs e)] ++ sf fp s5.heap) (ik cap σ (some v1) (some v2)) H8 s8 ->
     tn (i + 1) s8.heap/\(∀ b ∈ fp, H8 b = none)/\s8.heap.get? s2.heap.objs.size = some (fq vs e)/\H8 s2.heap.objs.size = none := fun {H8 s8} I8 => by
    refine ⟨T.keep _ _ _ st5 fun b hb o q => (I8.pin (b, o) (QlT _ (QlT _ (qk hb q)))).1, fun b hb => ?_, (I8.pin (s2.heap.objs.size, fq vs e) (QlT _ (List.mem_append_left _ QlU))).1, (I8.pin (s2.heap.objs.size, fq vs e) (QlT _ (List.mem_append_left _ QlU))).2.1⟩
    obtain ⟨o, q, _⟩ := T.obj _ _ st5 b hb
    exact (I8.pin (b, o) (QlT _ (QlT _ (qk hb q)))).2.1
   cases ok with
   | false =>
    rw [Qmp QlQ] at q7 ⊢
    obtain ⟨m', hm, w7⟩ := q7
    obtain ⟨st7, fr7, hD7, fD7⟩ := after I7
    exact ⟨m', hm, i + 1, ys, vs, e, H7, some v1, some v2, I7.unpinned, st7, fr7, rel3, fD7, w7⟩
   | true =>
    rw [Qmo rfl] at q7 ⊢
    refine Qmt (he _ _ _ _ _ s7 _ H7 _ I7 q7) (fun yv s8 ⟨y', H8, I8, r8, m', hm, w8⟩ => ?_) fun _ _ z => z.elim
    obtain ⟨st8, fr8, hD8, fD8⟩ := after I8
    refine append_at (hsz := by rw [QlW, <-rel3.length]; exact Nat.le_of_lt hlen) hD8 fun h9 hs9 hD9 => ?_
    have I8u : Inv (bu X scope cl G.objs.size N s2 H2 fp) [] (ik cap σ (some v1) (some v2)) H8 s8 := I8.pins_of fun p hp => absurd hp (by simp)
    have I9 : Inv (bu X scope cl G.objs.size N s2 H2 fp) [] (ik cap σ (some v1) (some v2)) H8 { s8 with heap := h9 } :=
     I8u.turned (t' := s8.toks) (it := s2.heap.objs.size) (fun b o hb q => (hs9.2 b hb).trans q) fD8 hDC (.inr (QlX _)) (fun y c q => (nDx y c (S.sub y c q)).1) fun p hp => absurd (show p ∈ ([] : List (Addr × Obj)) from hp) (by simp)
    have hD9' : h9.get? s2.heap.objs.size = some (fq (vs ++ [yv]) (e + 1)) := by
     rw [hD9]
     show some ({ cls := .type "list", data := .seq (vs.toArray.push yv) (e + 1) } : Obj) = some { cls := .type "list", data := .seq (vs ++ [yv]).toArray (e + 1) }
     rw [List.push_toArray]
    refine ⟨m', hm, i + 1, ys ++ [y'], vs ++ [yv], e + 1, H8, some v1, some v2, pinD I9 hD9' (nocell _ _) fD8, ?_, fr8, rel3.append (.cons r8 .nil), fD8, w8⟩
    exact T.keep _ _ _ st8 fun b hb o q => (hs9.2 b (Qme (flt b hb))).trans q
 exact codeAny_compStart_list (loop _ rfl) (T.self _ 0 _ _ _ st1 (loop _ rfl))
theorem QkR {wi : TI} (hc : X.calm = true) (hi : PI X (.Tuple [.Name x px, .Name y py] tk tp) iter wi) (S : CompSc2 X scope x y cl N cap) (ht : ∀ C s H ex, PTs (bu X scope cl C N s H ex) ifs tt) (he : ∀ C s H ex, PE (bu X scope cl C N s H ex) elt te)
  (hs : ∀ z, foldedSetIterable iter X.env z = pure z := by intro _; rfl) : PE X (.ListComp elt [⟨.Tuple [.Name x px, .Name y py] tk tp, iter, ifs, 0⟩] scope pos) (tComp3 X.K wi cap tt te) := by
 intro QlP s σ H Q I h
 rw [eval_ListComp]
 refine wpAny_comprehension_free (use := none) rfl hs S.clos S.kind S.names (thn (hi QlP s σ H _ I h) fun v s1 h1 => thn h1 fun itv s2 h2 => ?_)
 obtain ⟨it, fp, tn, J, H2, e, I2, T, st2, f2, h⟩ := h2
 subst e
 refine QiX (RR := fun acc C => compPost (model X.prog X.w) X.A X.xe none (EP X QlP σ Q) acc C) hc S ht he I2 T st2 f2 h fun D C s4 ys H3 oC m I4 hnC fC hD fin => ?_
 have hoC := (I4.pin (C, oC) (QlT _ (QlT _ QlU))).1
 refine ⟨m, hnC _ hoC, fun h' hs' => ?_⟩
 exact ⟨.ref D, _, I4.unpinned.turned (t' := s4.toks) (it := C) (fun b o hb q => (hs'.2 b hb).trans q) fC.1 fC.2.1 fC.2.2.2.1 fC.2.2.2.2.1 fC.2.2.2.2.2, rfl, fin D hD⟩
end
def lh (h : Heap) (d : Addr) (es : Array DictEntry) (ep : Nat) : Prop := ∃ o, h.get? d = some o/\o.ExactDict/\o.data = .dict es ep
section
variable {prog : Program} {w : World} {A : Around} {E : Value->Shared->Prop} {s : Shared} {d it : Addr} {es : Array DictEntry} {ep i : Nat}
theorem lh.type (r : lh s.heap d es ep) : s.TypeIs (.ref d) "dict" := let ⟨o, h1, h2, _⟩ := r; ⟨o, h1, h2.1⟩
theorem lh.at {h h' : Heap} (r : lh h d es ep) (k : ∀ o, h.get? d = some o->h'.get? d = some o) : lh h' d es ep := let ⟨o, h1, h2, h3⟩ := r; ⟨o, k o h1, h2, h3⟩
theorem Qlp {Q : Value->Shared->Prop} (lo : (d == sysModules) = false) (r : lh s.heap d es ep)
  (hQ : Q (.ref s.heap.objs.size) { s with heap := s.heap.push { cls := .type "dict_keyiterator", data := .fields #[.ref d, .int 0 0, .int es.size 0, .int ep 0] } }) : wpAny (model prog w) A (pyIter (.ref d)) Q E s := by
 have ty := r.type
 obtain ⟨o, g1, g2, g3⟩ := id r
 refine wpAny_pyIter_slot ty F.slot_dict_iter (wpAny_call_entry F.slot_dict_iter ty F.entry_dict_iter ?_ (F.args_dict_iter_1 _))
 unfold Builtin.«dict.__iter__»
 refine Qmn ?_
 unfold Builtin.Dict.dictSlotNone
 refine Qmn (wpAny_notOrdered_dict ty ?_)
 show wpAny _ _ (pure (Value.ref d)) _ _ s
 refine Qmr ?_
 show wpAny _ _ (Builtin.Dict.showsAll d >>= _) _ _ s
 unfold Builtin.Dict.showsAll
 rw [Qmp (by rw [lo]; exact QlQ)]
 refine Qmn (Qmr (Qmn (wpAny_dictEntries g1 g3 (Qmn (wpAny_dictEpoch g1 g3 ?_)))))
 refine Qmn (wpAny_newObj_type (Qmr ⟨_, rfl, "dict_keyiterator", _, ⟨_, Qmd _ rfl, rfl⟩, F.slot_dict_keyiterator_next.lookup, ?_⟩))
 simpa [rawInt] using hQ
theorem Qli {Q : Option Value->Shared->Prop} (hit : s.heap.IsKeyIter it d i es.size ep) (r : lh s.heap d es ep) (hlt : i < es.size)
  (hQ : ∀ h', h'.IsKeyIter it d (i + 1) es.size ep->Heap.SameBut it s.heap h'->Q (some es[i].key) { s with heap := h' }) : wpAny (model prog w) A (pyNext (.ref it)) Q E s := by
 obtain ⟨o, ho, hc, hd⟩ := id hit
 obtain ⟨od, g1, g2, g3⟩ := id r
 have ty := hit.typeIs
 unfold pyNext
 refine Qmn (wpAny_attempt (wpAny_callSpecial?_slot (name := Str.ofString "__next__") ty F.slot_dict_keyiterator_next (wpAny_call_entry F.slot_dict_keyiterator_next ty F.entry_dict_keyiterator_next ?_ (F.args_dict_keyiterator_next_1 _))))
 refine Qmn (Qmr (Qmn (Qmn ?_)))
 first | refine Qmn (wpAny_typeNameOfWhole_keyiter ty (Qmr ?_)) | refine Qmn (wpAny_typeNameOf_keyiter ty (Qmr ?_))
 refine Qmn (wpAny_fieldsOf ho hd ?_)
 simp only [show Builtin.Dict_items.ownsTuple "dict_keyiterator" = false by decide, Bool.false_eq_true, if_false]
 show wpAny _ _ (if (Value.ref d == Value.none) = true then _ else _) _ _ s
 rw [Qmp (show ¬ ((Value.ref d == Value.none) = true) from QlQ)]
 refine Qmn (Qmr (Qmn (wpAny_dictEntries g1 g3 ?_)))
 rw [Qmp (by simp)]
 refine Qmn (Qmr (Qmn (wpAny_dictEpoch g1 g3 ?_)))
 rw [Qmp (by simp)]
 refine Qmr ?_
 simp only [show ¬ ((i : Int) < 0) from by omega, if_false, Int.toNat_natCast, Array.getElem?_eq_getElem hlt]
 refine Qmn ?_
 first | refine Qmn (wpAny_typeNameOfWhole_keyiter ty (Qmr ?_)) | refine Qmn (wpAny_typeNameOf_keyiter ty (Qmr ?_))
 refine Qmn (wpAny_isOneOf_keyiter ty ?_)
 show wpAny _ _ (setField (.ref it) 1 (rawInt ((i : Int) + 1)) >>= _) _ _ s
 refine Qmn (wpAny_setField ho hd (by simp) ?_)
 have up : (s.heap.update it (Obj.mapFields (·.setIfInBounds 1 (rawInt ((i : Int) + 1))))).IsKeyIter it d (i + 1) es.size ep :=
  ⟨_, Heap.get?_update_self _ ho (Obj.isFreed_of_fields (Obj.data_mapFields hd _)), (Obj.cls_mapFields ..).trans hc, by rw [Obj.data_mapFields hd]; simp [rawInt]⟩
 refine Qmn (wpAny_holding ?_)
 refine Qmn (wpAny_isOneOf_keyiter (s := { s with heap := s.heap.update it (Obj.mapFields (·.setIfInBounds 1 (rawInt ((i : Int) + 1)))) }) up.typeIs ?_)
 show wpAny _ _ (pure es[i].key) _ _ _
 exact Qmr (Qmr ⟨_, rfl, Qmr (hQ _ up (Heap.SameBut.update ..))⟩)
theorem end_raw {Q : Option Value->Shared->Prop} (hh : A.handled = none) (hit : s.heap.IsKeyIter it d i es.size ep) (r : lh s.heap d es ep) (hge : es.size<=i)
  (hQ : ∀ h', Heap.ExtBut it s.heap h'->Q none { s with heap := h' }) : wpAny (model prog w) A (pyNext (.ref it)) Q E s := by
 obtain ⟨o, ho, hc, hd⟩ := id hit
 obtain ⟨od, g1, g2, g3⟩ := id r
 have ty := hit.typeIs
 unfold pyNext
 refine Qmn (wpAny_attempt (wpAny_callSpecial?_slot (name := Str.ofString "__next__") ty F.slot_dict_keyiterator_next (wpAny_call_entry F.slot_dict_keyiterator_next ty F.entry_dict_keyiterator_next ?_ (F.args_dict_keyiterator_next_1 _))))
 refine Qmn (Qmr (Qmn (Qmn ?_)))
 first | refine Qmn (wpAny_typeNameOfWhole_keyiter ty (Qmr ?_)) | refine Qmn (wpAny_typeNameOf_keyiter ty (Qmr ?_))
 refine Qmn (wpAny_fieldsOf ho hd ?_)
 simp only [show Builtin.Dict_items.ownsTuple "dict_keyiterator" = false by decide, Bool.false_eq_true, if_false]
 show wpAny _ _ (if (Value.ref d == Value.none) = true then _ else _) _ _ s
 rw [Qmp (show ¬ ((Value.ref d == Value.none) = true) from QlQ)]
 refine Qmn (Qmr (Qmn (wpAny_dictEntries g1 g3 ?_)))
 rw [Qmp (by simp)]
 refine Qmn (Qmr (Qmn (wpAny_dictEpoch g1 g3 ?_)))
 rw [Qmp (by simp)]
 refine Qmr ?_
 simp only [show ¬ ((i : Int) < 0) from by omega, if_false, Int.toNat_natCast, Array.getElem?_eq_none hge]
 refine Qmn ?_
 first | refine Qmn (wpAny_typeNameOfWhole_keyiter ty (Qmr ?_)) | refine Qmn (wpAny_typeNameOf_keyiter ty (Qmr ?_))
 show wpAny _ _ (setField (.ref it) 0 .none >>= _) _ _ s
 refine Qmn (wpAny_setField ho hd (by simp) ?_)
 show wpAny _ _ (newExc (.type "StopIteration") [] >>= _) _ _ _
 refine Qmn ?_
 simp only [newExc, newTuple]
 refine Qmn (wpAny_newObj_type ?_ (by size_fits))
 refine Qmn (m := firstArgMember _ _) (wpAny_of_eq (a := Value.none) (by first | (simp only [firstArgMember]; rfl) | rfl) ?_)
 refine wpAny_newObj_type ?_ (by size_fits)
 simp only [raiseNew]
 refine Qmn (wpAny_handled ?_)
 rw [show A.in1.handled = none from hh]
 refine Qmn (Qmr (wpAny_throw ?_))
 refine Qmn (wpAny_isInstance (T := "StopIteration") (b := true) ⟨_, Qmd _ rfl, rfl⟩ isSubtype_stop (Qmr (hQ _ (((Heap.SameBut.update ..).extBut.push _).push _))))
theorem Qjd (hh : A.handled = none) (J d : Addr) (hne : d ≠ J) (es : Array DictEntry) (ep : Nat) :
  Walks prog w A J [J, d] [J] es.size (fun i v => ∃ e, es[i]? = some e/\v = e.key) (fun i h => h.IsKeyIter J d i es.size ep/\lh h d es ep) where
 sub := fun b hb => by simp at hb; simp [hb]
 frame := fun _ _ _ st hk => ⟨st.1.at fun o e => hk J (by simp) o e, st.2.at fun o e => hk d (by simp) o e⟩
 item := fun i s Q E hi st hQ => Qli st.1 st.2 hi fun h' up sb => hQ _ h' s.toks ⟨es[i], by simp [hi], rfl⟩ ⟨up, st.2.at fun o e => sb.extBut d o hne e⟩ fun b o hb e => sb.extBut b o (fun z => hb (by simp [z])) e
 done := fun s Q E st hQ => end_raw hh st.1 st.2 (QlX _) fun h' eb => hQ h' s.toks fun b o hb e => eb b o (fun z => hb (by simp [z])) e
 self := fun _ _ _ _ st hQ => wpAny_pyIter_keyiter st.1 hQ
theorem src_raw (lo : (d == sysModules) = false) : PySem.W.KdlSrc prog w "dict" d d es.size (fun i v => ∃ e, es[i]? = some e/\v = e.key) (fun h => lh h d es ep) where
 type := fun _ r => r.type
 there := fun _ ⟨o, h1, _⟩ => ⟨QlV h1, QlV h1⟩
 keep := fun _ _ r hk => r.at fun o e => hk d (.inl rfl) o e
 notList := by decide
 notTuple := by decide
 hint := fun _ _ _ _ r hq => PySem.W.kdl_hint_dict r.type hq
 iter := fun _ _ hh r => ⟨_, _, (fun _ _ hq => Qlp lo r hq), Qjd hh _ d (let ⟨_, h1, _⟩ := r; Qme (QlV h1)) es ep, ⟨⟨_, Qmd _ rfl, rfl, rfl⟩, r.at fun o e => QlS _ e⟩⟩
end
section
variable {X : Cx} {QlP : List (Addr × Obj)} {σ : St} {H : Hp} {s : Shared} {a : Addr}
theorem Qgx {kvs : List (List Key × V)} {Q : Value->Shared->Prop} (hc : X.A.handled = none) (I : Inv X QlP σ H s) (e : H a = some (.dT kvs))
  (k : ∀ (p : Addr) (bs : List Addr) (s' : Shared), H p = none->bs.length = kvs.length->(∀ (j : Nat) (b : Addr) (q : List Key × V), bs[j]? = some b->kvs[j]? = some q->H b = some (.tup (q.1.map kV)))->Inv X QlP σ (upd H p (.lst (bs.map V.ref))) s'->Q (.ref p) s') :
  wpAny (model X.prog X.w) X.A (call (.type "list") [.ref a]) Q X.xe s := by
 obtain ⟨z, lo, xs, rel, o, es, ep, h1, h2, h3, h4, h5⟩ := (show dm X.prog X.w H s.heap a (.dT kvs) from I.hok a _ e)
 have r : lh s.heap a es ep := ⟨o, h1, h2, h3⟩
 have lk : kvs.length = xs.length := Paired.length rel
 have le : es.size = xs.length := by rw [<-Array.length_toList, h4, QlY]
 have at_ : ∀ (j : Nat) v, (∃ en, es[j]? = some en/\v = en.key)->∃ x, xs[j]? = some x/\v = .ref x.2.1 := fun j v ⟨en, he, hv⟩ => by
  rw [<-Array.getElem?_toList, h4, Qmf] at he
  cases hx : xs[j]? with
  | none => rw [hx] at he; cases he
  | some x => rw [hx] at he; cases he; exact ⟨x, rfl, hv⟩
 have prs : ∀ {l : List (List Key × V)} {m : List (List Key × Addr × Value)}, Paired (fun (p : List Key × V) (q : List Key × Addr × Value) => p.1 = q.1/\H q.2.1 = some (.tup (p.1.map kV))/\aq p.2 q.2.2) l m->∀ (j : Nat) x q, m[j]? = some x->l[j]? = some q->H x.2.1 = some (.tup (q.1.map kV)) := by
  intro l m r
  induction r with
  | nil => intro j x q hx; simp at hx
  | cons hd _ ih =>
   intro j x q hx hq
   cases j with
   | zero => simp at hx hq; subst hx hq; exact hd.2.1
   | succ j => exact ih j x q (by simpa using hx) (by simpa using hq)
 refine PySem.W.kdl_call (src_raw (es := es) (ep := ep) lo) hc r (by rw [le, <-lk]; exact z) fun h' tk acc c' hk hD hacc => ?_
 obtain ⟨ha1, ha2⟩ := hacc
 have hb : acc.toList = (xs.map fun x => x.2.1).map Value.ref := by
  refine List.ext_getElem? fun j => ?_
  rw [Qmf, Qmf, Array.getElem?_toList]
  by_cases hj : j < acc.size
  ·obtain ⟨x, hx, hv⟩ := at_ j acc[j] (ha2 j _ (by simp [hj]))
   rw [hx, Array.getElem?_eq_getElem hj, hv]; rfl
  ·rw [Array.getElem?_eq_none (by omega), List.getElem?_eq_none (by omega)]; rfl
 have vals : ∀ bs : List Addr, bb (bs.map V.ref) (bs.map Value.ref) := by
  intro bs
  induction bs with
  | nil => exact .nil
  | cons b bs ih => exact .cons rfl ih
 refine k s.heap.objs.size (xs.map fun x => x.2.1) _ (I.hok.fresh (QlX _)) (by rw [QlY, lk]) (fun j b q hb' hq => ?_) (I.laid (a := s.heap.objs.size) (o := .lst ((xs.map fun x => x.2.1).map V.ref)) (t' := tk) hk (QlX _) ⟨by rw [QlY, QlY, <-lk]; exact z, (xs.map fun x => x.2.1).map Value.ref, c', vals _, by rw [<-hb, Array.toArray_toList]; exact hD⟩)
 rw [Qmf] at hb'
 cases hx : xs[j]? with
 | none => rw [hx] at hb'; cases hb'
 | some x =>
  rw [hx] at hb'
  cases hb'
  exact prs rel j x q hx hq
end
section
variable {prog : Program} {w : World} {A : Around} {R : Result->Shared->Prop} {J : Addr} {fp wr : List Addr} {n : Nat} {P : Nat->Value->Prop} {St : Nat->Heap->Prop} {kw : List (Str × Value)}
end
section
variable {prog : Program} {w : World} {A : Around} {E : Value->Shared->Prop} {s : Shared}
end
section
open PySem.W
end
section
variable {X : Cx}
end
section
variable {κ : Type} [DecidableEq κ]
def cz (kvs : List (κ × V)) (k : κ) : Option V := (kvs.find? fun kv => decide (kv.1 = k)).map (·.2)
def putK (kvs : List (κ × V)) (k : κ) (v : V) : List (κ × V) :=
 if (kvs.any fun kv => decide (kv.1 = k)) = true then kvs.map (fun kv => if kv.1 = k then (kv.1, v) else kv) else kvs ++ [(k, v)]
theorem mi {p : κ × V} {r : List (κ × V)} {k : κ} (e : p.1 = k) : cz (p :: r) k = some p.2 := by simp [cz, List.find?_cons, e]
theorem mj {p : κ × V} {r : List (κ × V)} {k : κ} (e : ¬ p.1 = k) : cz (p :: r) k = cz r k := by simp [cz, List.find?_cons, e]
theorem qr (k : κ) : ∀ kvs : List (κ × V), (kvs.any fun kv => decide (kv.1 = k)) = (cz kvs k).isSome
 | [] => rfl
 | p :: r => by
  rw [List.any_cons]
  by_cases e : p.1 = k
  ·simp only [mi e, decide_eq_true e, Bool.true_or, Option.isSome_some]
  ·rw [mj e, Qmw e, Bool.false_or]; exact qr k r
theorem vt (kvs : List (κ × V)) (k : κ) (v : V) : (putK kvs k v).length<=kvs.length + 1 := by
 unfold putK
 split
 ·rw [QlY]; omega
 ·rw [Qma, Qmg, List.length_nil]; omega
theorem jo.isSome_eq {o : Option V} {u : Option Value} (r : jo o u) : o.isSome = u.isSome := by
 cases o with
 | none => cases u with
  | none => rfl
  | some _ => exact (show False from r).elim
 | some _ => cases u with
  | none => exact (show False from r).elim
  | some _ => rfl
theorem jo.getD {o : Option V} {u : Option Value} {d : V} {d' : Value} (r : jo o u) (rd : aq d d') : aq (o.getD d) (u.getD d') := by
 cases o with
 | none => cases u with
  | none => exact rd
  | some _ => exact (show False from r).elim
 | some _ => cases u with
  | none => exact (show False from r).elim
  | some _ => exact r
theorem KV.val {kvs : List (κ × V)} {vs : List (κ × Value)} (r : KV kvs vs) (k : κ) : jo (cz kvs k) (valueAt vs k) := by
 unfold KV at r
 induction r with
 | nil => exact True.intro
 | @cons p q ps qs h t ih =>
  obtain ⟨h1, h2⟩ := h
  by_cases e : p.1 = k
  ·have e' : q.1 = k := h1.symm.trans e
   have b : valueAt (q :: qs) k = some q.2 := by simp [valueAt, List.find?_cons, e']
   rw [mi e, b]; exact h2
  ·have e' : ¬ q.1 = k := fun z => e (h1.trans z)
   have b : valueAt (q :: qs) k = valueAt qs k := by simp [valueAt, List.find?_cons, e']
   rw [mj e, b]; exact ih
theorem KV.any {kvs : List (κ × V)} {vs : List (κ × Value)} (r : KV kvs vs) (k : κ) : (kvs.any fun kv => decide (kv.1 = k)) = vs.any fun kv => decide (kv.1 = k) := by
 unfold KV at r
 induction r with
 | nil => rfl
 | cons h t ih => rw [List.any_cons, List.any_cons, ih, h.1]
theorem KV.repl {kvs : List (κ × V)} {vs : List (κ × Value)} (r : KV kvs vs) (k : κ) {y : V} {u : Value} (ry : aq y u) :
  KV (kvs.map fun kv => if kv.1 = k then (kv.1, y) else kv) (vs.map fun kv => if kv.1 = k then (kv.1, u) else kv) := by
 unfold KV at r ⊢
 induction r with
 | nil => exact .nil
 | @cons p q ps qs h t ih =>
  rw [Qms, Qms]
  refine .cons ?_ ih
  obtain ⟨h1, h2⟩ := h
  by_cases e : p.1 = k
  ·rw [Qmo e, Qmo (h1.symm.trans e)]; exact ⟨h1, ry⟩
  ·rw [Qmp e, Qmp (fun z => e (h1.trans z))]; exact ⟨h1, h2⟩
theorem KV.put {kvs : List (κ × V)} {vs : List (κ × Value)} (r : KV kvs vs) (k : κ) {y : V} {u : Value} (ry : aq y u) : KV (putK kvs k y) (stored vs k u) := by
 unfold putK stored
 rw [r.any k]
 by_cases e : (vs.any fun kv => decide (kv.1 = k)) = true
 ·rw [Qmo e, Qmo e]; exact r.repl k ry
 ·rw [Qmp e, Qmp e]; exact Paired.snoc r ⟨rfl, ry⟩
theorem KV.length {kvs : List (κ × V)} {vs : List (κ × Value)} (r : KV kvs vs) : kvs.length = vs.length := Paired.length r
end
theorem my {P : Program} {w : World} {k : Key} {u : Value} (r : aq (kV k) u) : (fg P w).is k u = true := by
 cases k with
 | inl i => obtain ⟨t, e⟩ := (show ∃ t, u = Value.int i t from r); subst e; exact Qii P w i t
 | inr x => obtain ⟨t, e⟩ := (show ∃ t, u = Value.str x t from r); subst e; exact Qih P w x t
theorem QdR {P : Program} {w : World} : ∀ {ks : List Key} {us : List Value}, bb (ks.map kV) us->ItemsAre (fg P w) ks us
 | [], _, r => by rw [List.map_nil] at r; cases r; exact .nil
 | k :: ks, _, r => by
  rw [Qms] at r
  cases r with
  | cons h t => exact .cons (my h) (QdR t)
abbrev KT (H : Hp) : List (List Key × V)->List (List Key × Addr × Value)->Prop := Paired fun p q => p.1 = q.1/\H q.2.1 = some (.tup (p.1.map kV))/\aq p.2 q.2.2
theorem KT.val {H : Hp} {kvs : List (List Key × V)} {xs : List (List Key × Addr × Value)} (r : KT H kvs xs) (k : List Key) : jo (cz kvs k) ((atKey xs k).map (·.2)) := by
 induction r with
 | nil => exact True.intro
 | @cons p q ps qs h t ih =>
  obtain ⟨h1, _, h2⟩ := h
  by_cases e : p.1 = k
  ·have e' : q.1 = k := h1.symm.trans e
   have b : atKey (q :: qs) k = some q.2 := by simp [atKey, List.find?_cons, e']
   rw [mi e, b]; exact h2
  ·have e' : ¬ q.1 = k := fun z => e (h1.trans z)
   have b : atKey (q :: qs) k = atKey qs k := by simp [atKey, List.find?_cons, e']
   rw [mj e, b]; exact ih
theorem KT.repl {H : Hp} {kvs : List (List Key × V)} {xs : List (List Key × Addr × Value)} (r : KT H kvs xs) (k : List Key) {y : V} {u : Value} (ry : aq y u) :
  KT H (kvs.map fun kv => if kv.1 = k then (kv.1, y) else kv) (xs.map (putAt k u)) := by
 induction r with
 | nil => exact .nil
 | @cons p q ps qs h t ih =>
  rw [Qms, Qms]
  refine .cons ?_ ih
  obtain ⟨h1, h2, h3⟩ := h
  unfold putAt
  by_cases e : p.1 = k
  ·rw [Qmo e, Qmo (h1.symm.trans e)]; exact ⟨h1, h2, ry⟩
  ·rw [Qmp e, Qmp (fun z => e (h1.trans z))]; exact ⟨h1, h2, h3⟩
theorem KT.put {H : Hp} {kvs : List (List Key × V)} {xs : List (List Key × Addr × Value)} (r : KT H kvs xs) (k : List Key) {b : Addr} {y : V} {u : Value} (hb : H b = some (.tup (k.map kV))) (ry : aq y u) :
  KT H (putK kvs k y) (storedH xs k b u) := by
 have e : (kvs.any fun kv => decide (kv.1 = k)) = (atKey xs k).isSome := by
  rw [qr, (r.val k).isSome_eq, Option.isSome_map]
 unfold putK storedH
 rw [e]
 by_cases q : (atKey xs k).isSome = true
 ·rw [Qmo q, Qmo q]; exact r.repl k ry
 ·rw [Qmp q, Qmp q]; exact Paired.snoc r ⟨rfl, hb, ry⟩
theorem KT.keeps {H H' : Hp} {kvs : List (List Key × V)} {xs : List (List Key × Addr × Value)} (r : KT H kvs xs) (ht : ∀ b ys, H b = some (.tup ys)->H' b = some (.tup ys)) : KT H' kvs xs :=
 Paired.mapP r fun _ _ z => ⟨z.1, ht _ _ z.2.1, z.2.2⟩
section
variable {P : Program} {w : World} {H : Hp} {h : Heap} {a : Addr}
theorem rd_of {u : HO} (ok : HOk P w H h) (e : Rd H a u) : dm P w H h a u := e.ok ok
theorem og {kvs : List (Key × V)} (ok : HOk P w H h) (e : Rd H a (.dK kvs)) : kvs.length<=sizeLine/\(a == sysModules) = false/\∃ vs, KV kvs vs/\h.DictOf (fg P w) a vs :=
 show dm P w H h a (.dK kvs) from rd_of ok e
theorem tu {kvs : List (Key × V)} (ok : HOk P w H h) (e : H a = some (.dK kvs)) : kvs.length<=sizeLine/\(a == sysModules) = false/\∃ vs, KV kvs vs/\h.DictOf (fg P w) a vs := og ok (.inl e)
theorem nq {ks : List Key} (ok : HOk P w H h) (e : H a = some (.tup (ks.map kV))) : (tupleKind (fg P w)).is h ks a := by
 obtain ⟨_, its, r, o, h1, h2, n, h3⟩ := (show dm P w H h a (.tup (ks.map kV)) from ok a _ e)
 exact ⟨o, its.toArray, n, h1, h2, h3, by simpa using QdR r⟩
theorem pw {kvs : List (List Key × V)} (ok : HOk P w H h) (e : Rd H a (.dT kvs)) : kvs.length<=sizeLine/\(a == sysModules) = false /\
  ∃ xs, KT H kvs xs/\h.DictOfH (tupleKind (fg P w)) a xs := by
 obtain ⟨z, y, xs, r, o, es, ep, h1, h2, h3, h4, h5⟩ := (show dm P w H h a (.dT kvs) from rd_of ok e)
 refine ⟨z, y, xs, r, o, es, ep, h1, h2, h3, h4, fun x hx => ?_, h5⟩
 have all : ∀ {l : List (List Key × V)} {m : List (List Key × Addr × Value)}, KT H l m->∀ x ∈ m, (tupleKind (fg P w)).is h x.1 x.2.1 := by
  intro l m q
  induction q with
  | nil => intro x hx; exact nomatch hx
  | @cons p q ps qs hq t ih =>
   intro x hx
   rcases List.mem_cons.mp hx with e | hx
   ·subst e
    exact nq ok (by rw [<-hq.1]; exact hq.2.1)
   ·exact ih x hx
 exact all r x hx
theorem Qce {kvs : List (List Key × V)} (ok : HOk P w H h) (e : H a = some (.dT kvs)) : kvs.length<=sizeLine/\(a == sysModules) = false /\
  ∃ xs, KT H kvs xs/\h.DictOfH (tupleKind (fg P w)) a xs := pw ok (.inl e)
end
def iu (H : Hp) (a : Addr) (y : V) (r : Option V) : Prop :=
 (∃ kvs k, Rd H a (.dK kvs)/\y = kV k/\r = cz kvs k)\/∃ kvs k b, Rd H a (.dT kvs)/\y = .ref b/\H b = some (.tup (k.map kV))/\r = cz kvs k
def md (H : Hp) (a : Addr) (y v : V) (H' : Hp) : Prop :=
 (∃ kvs k, H a = some (.dK kvs)/\y = kV k/\kvs.length < sizeLine/\H' = upd H a (.dK (putK kvs k v))) ∨
 ∃ kvs k b, H a = some (.dT kvs)/\y = .ref b/\H b = some (.tup (k.map kV))/\kvs.length < sizeLine/\H' = upd H a (.dT (putK kvs k v))
theorem iu.k {H : Hp} {a : Addr} {kvs : List (Key × V)} {k : Key} (e : H a = some (.dK kvs)) : iu H a (kV k) (cz kvs k) := .inl ⟨kvs, k, .inl e, rfl, rfl⟩
theorem iu.t {H : Hp} {a b : Addr} {kvs : List (List Key × V)} {k : List Key} (e : H a = some (.dT kvs)) (eb : H b = some (.tup (k.map kV))) : iu H a (.ref b) (cz kvs k) := .inr ⟨kvs, k, b, .inl e, rfl, eb, rfl⟩
theorem md.k {H : Hp} {a : Addr} {kvs : List (Key × V)} {k : Key} {v : V} (e : H a = some (.dK kvs)) (hl : kvs.length < sizeLine) : md H a (kV k) v (upd H a (.dK (putK kvs k v))) := .inl ⟨kvs, k, e, rfl, hl, rfl⟩
theorem md.t {H : Hp} {a b : Addr} {kvs : List (List Key × V)} {k : List Key} {v : V} (e : H a = some (.dT kvs)) (eb : H b = some (.tup (k.map kV))) (hl : kvs.length < sizeLine) :
  md H a (.ref b) v (upd H a (.dT (putK kvs k v))) := .inr ⟨kvs, k, b, e, rfl, eb, hl, rfl⟩
section
variable {X : Cx} {QlP : List (Addr × Obj)} {σ : St} {H : Hp} {s : Shared} {a : Addr} {y v : V} {u r : Value} {o : Option V} {A : Around} {E : Value->Shared->Prop}
theorem Inv.big (I : Inv X QlP σ H s) : sysModules < s.heap.objs.size := by
 have h : mainGlobals < s.heap.objs.size := (I.mod.glob.keeps I.bk).lt
 exact Nat.lt_trans (by decide) h
theorem Qkf {Q : Value->Shared->Prop} (hu : A.units + 1 < cLine) (I : Inv X QlP σ H s) (g : iu H a y (some v)) (ry : aq y u) (h : ∀ w' s', Inv X QlP σ H s'->aq v w'->Q w' s') :
  wpAny (model X.prog X.w) A (getItem (.ref a) u) Q E s := by
 rcases g with ⟨kvs, k, e, ey, l⟩ | ⟨kvs, k, b, e, ey, eb, l⟩
 ·subst ey
  obtain ⟨z, hd, vs, rel, dd⟩ := og I.hok e
  obtain ⟨w', hw, rw'⟩ := jo.some_of (v := v) (o := valueAt vs k) (by rw [l]; exact rel.val k)
  exact wpAny_getItem_of (my ry) dd.mapOf hw (h w' _ (I.tok _) rw')
 ·subst ey
  cases (show u = Value.ref b from ry)
  obtain ⟨z, hd, xs, rel, dd⟩ := pw I.hok e
  obtain ⟨w', hw, rw'⟩ := jo.some_of (v := v) (o := (atKey xs k).map (·.2)) (by rw [l]; exact rel.val k)
  obtain ⟨p, hp, hp2⟩ := Option.map_eq_some_iff.mp hw
  refine wpAny_getItem_heap (tupleKind_room_in1 hu) (nq I.hok eb) dd hp ?_
  rw [hp2]
  exact h w' _ (I.tok _) rw'
theorem d_in {Q : Value->Shared->Prop} (hu : A.units + 1 < cLine) (I : Inv X QlP σ H s) (g : iu H a y o) (ry : aq y u) (h : ∀ s', Inv X QlP σ H s'->Q (.bool o.isSome) s') :
  wpAny (model X.prog X.w) A (compareOp .In u (.ref a)) Q E s := by
 rcases g with ⟨kvs, k, e, ey, l⟩ | ⟨kvs, k, b, e, ey, eb, l⟩
 ·subst ey
  obtain ⟨z, hd, vs, rel, dd⟩ := og I.hok e
  refine wpAny_in_of (my ry) hd dd.mapOf ?_
  rw [<-(rel.val k).isSome_eq, <-l]
  exact h _ (I.tok _)
 ·subst ey
  cases (show u = Value.ref b from ry)
  obtain ⟨z, hd, xs, rel, dd⟩ := pw I.hok e
  refine wpAny_in_heap (tupleKind_room_in1 hu) (nq I.hok eb) hd dd ?_
  have q := (rel.val k).isSome_eq
  rw [Option.isSome_map] at q
  rw [<-q, <-l]
  exact h _ (I.tok _)
theorem QfO {Q : Value->Shared->Prop} (hu : A.units + 1 < cLine) (I : Inv X QlP σ H s) (g : iu H a y o) (ry : aq y u) (h : ∀ s', Inv X QlP σ H s'->Q (.bool (!o.isSome)) s') :
  wpAny (model X.prog X.w) A (compareOp .NotIn u (.ref a)) Q E s := by
 rcases g with ⟨kvs, k, e, ey, l⟩ | ⟨kvs, k, b, e, ey, eb, l⟩
 ·subst ey
  obtain ⟨z, hd, vs, rel, dd⟩ := og I.hok e
  refine wpAny_notIn_of (my ry) hd dd.mapOf ?_
  rw [<-(rel.val k).isSome_eq, <-l]
  exact h _ (I.tok _)
 ·subst ey
  cases (show u = Value.ref b from ry)
  obtain ⟨z, hd, xs, rel, dd⟩ := pw I.hok e
  refine wpAny_notIn_heap (tupleKind_room_in1 hu) (nq I.hok eb) hd dd ?_
  have q := (rel.val k).isSome_eq
  rw [Option.isSome_map] at q
  rw [<-q, <-l]
  exact h _ (I.tok _)
theorem oy {h' : Heap} {t' : Nat} {ob : HO} (I : Inv X QlP σ H s) (mu : Mut (H a)) (hs : Heap.SameBut a s.heap h') (he : ∃ q, h'.get? a = some q) (new : dm X.prog X.w (upd H a ob) h' a ob) :
  Inv X QlP σ (upd H a ob) { s with heap := h', toks := t' } :=
 I.write (x := a) (e := a) mu (.inl rfl) (fun b q hb z => (hs.2 b hb).trans z) he new
theorem Qap {P : Program} {w : World} {H' : Hp} {h' : Heap} {kvs : List (Key × V)} {vs : List (Key × Value)} (z : kvs.length<=sizeLine) (hd : (a == sysModules) = false) (rel : KV kvs vs) (dd : h'.DictOf (fg P w) a vs) :
  dm P w H' h' a (.dK kvs) := ⟨z, hd, vs, rel, dd⟩
theorem Qea {H' : Hp} {Q : Unit->Shared->Prop} (hu : A.units + 1 < cLine) (I : Inv X QlP σ H s) (g : md H a y v H') (ry : aq y u) (rv : aq v r) (h : ∀ s', Inv X QlP σ H' s'->Q () s') :
  wpAny (model X.prog X.w) A (setItem (.ref a) u r) Q E s := by
 rcases g with ⟨kvs, k, e, ey, l, eH⟩ | ⟨kvs, k, b, e, ey, eb, l, eH⟩
 ·subst ey eH
  obtain ⟨z, hd, vs, rel, dd⟩ := tu I.hok e
  have hz : vs.length<=sizeLine := by rw [<-rel.length]; exact z
  have hl : (putK kvs k v).length<=sizeLine := by have := vt kvs k v; omega
  refine wpAny_setItem_pairs (hsz := hz) (my ry) dd fun h' dd' hs => h _ ?_
  have he : ∃ q, h'.get? a = some q := let ⟨q, _, _, hq, _⟩ := dd'; ⟨q, hq⟩
  exact oy I (by rw [e]; exact True.intro) hs he (Qap hl hd (rel.put k rv) dd')
 ·subst ey eH
  cases (show u = Value.ref b from ry)
  obtain ⟨z, hd, xs, rel, dd⟩ := Qce I.hok e
  have hz : xs.length<=sizeLine := by rw [<-Paired.length rel]; exact z
  have hl : (putK kvs k v).length<=sizeLine := by have := vt kvs k v; omega
  refine wpAny_setItem_heap (hsz := hz) (tupleKind_room_in1 hu) (nq I.hok eb) dd fun h' dd' hs => h _ ?_
  obtain ⟨q, es, ep, hq, h2, h3, h4, _, h5⟩ := dd'
  refine oy I (by rw [e]; exact True.intro) hs ⟨q, hq⟩ ⟨hl, hd, _, (rel.put k eb rv).keeps fun c ys ec => ?_, q, es, ep, hq, h2, h3, h4, h5⟩
  rw [bo (ne_of ec e (fun z => nomatch z))]
  exact ec
end
section
variable {X : Cx} {QlP : List (Addr × Obj)} {σ : St} {H : Hp} {s : Shared} {a : Addr} {kvs : List (Key × V)} {k : Key} {u : Value} {A : Around} {E : Value->Shared->Prop}
end
def NoSl (i : Expr) : Prop := ∀ ov iv, subscripted i false ov iv = operate [ov, iv] (getItem ov iv)
theorem subD_of {prog : Program} {w : World} {A : Around} {E : Value->Shared->Prop} {s : Shared} {env : Env} {value slice : Expr} {pos : Pos} {T id : String} {Q : Value->Shared->Prop}
  (hl : typeLookup (.type T) "__getitem__" = pure (some (.builtin id))) (hs : NoSl slice)
  (h : wpAny (model prog w) A (eval value env) (fun o s₁ => wpAny (model prog w) A (eval slice env) (fun i s₂ => s₂.TypeIs o T/\wpAny (model prog w) A (getItem o i) Q E s₂) E s₁) E s) :
  wpAny (model prog w) A (eval (.Subscript value slice pos) env) Q E s := by
 refine Subscript_ (Qmt h (fun o s₁ h₁ => Qmt h₁ (fun i s₂ h₂ => ?_) fun _ _ x => x) fun _ _ x => x)
 obtain ⟨hT, h₂⟩ := h₂
 unfold subscriptTail
 refine Qmn ?_
 rw [getitemInPython_of_ne hT.not_modules]
 refine Qmn (wpAny_specialOf hT hl ?_)
 have fin : wpAny (model prog w) A (subscripted slice false o i) (fun r s₃ => wpAny (model prog w) A (letTemporaryGo value o r >>= fun _ => pure r) Q E s₃) E s₂ := by
  rw [hs o i]
  exact wpAny_operating (Qmt h₂ (fun r s₃ h₃ => Qmn (wpAny_letTemporaryGo (Qmr h₃))) fun _ _ x => x)
 first
  | exact Qmr (Qmn fin)
  | exact Qmn (Qmr (Qmn fin))
  | exact Qmn fin
theorem Qim {X : Cx} {QlP : List (Addr × Obj)} {σ : St} {H : Hp} {s : Shared} {a : Addr} {y : V} {o : Option V} (I : Inv X QlP σ H s) (g : iu H a y o) : s.TypeIs (.ref a) "dict" := by
 rcases g with ⟨kvs, k, e, _, _⟩ | ⟨kvs, k, b, e, _, _, _⟩
 ·obtain ⟨_, _, vs, _, dd⟩ := og I.hok e
  exact dd.typeIs
 ·obtain ⟨_, _, xs, _, dd⟩ := pw I.hok e
  exact dd.typeIs
def tDGet (td ty : TE) : TE := fun σ H Q => td σ H fun x H1 => ty σ H1 fun y H2 => ∃ a v, x = .ref a/\iu H2 a y (some v)/\Q v H2
section
variable {X : Cx} {o i e value : Expr} {pos pos' tpos : Pos} {td ty tv : TE}
theorem pe_dget (hu : X.A.units + 1 < cLine) (ho : PE X o td) (hi : PE X i ty) (hs : NoSl i) : PE X (.Subscript o i pos) (tDGet td ty) := by
 intro QlP s σ H Q I h
 refine subD_of PySem.F.slot_dict_getitem.lookup hs (thn (ho QlP s σ H _ I h) fun u s1 ⟨x, H1, I1, rx, q1⟩ => thn (hi QlP s1 σ H1 _ I1 q1) fun iv s2 ⟨y, H2, I2, ry, a, v, ex, g, q2⟩ => ?_)
 subst ex
 obtain rfl : u = Value.ref a := rx
 exact ⟨Qim I2 g, Qkf hu I2 g ry fun w' s3 I3 rw' => ⟨v, H2, I3, rw', q2⟩⟩
end
theorem QeS {P : Program} {w : World} {H : Hp} (h : Heap) (hb : sysModules < h.objs.size) : dm P w H (h.push { cls := .type "dict", data := .dict #[] }) h.objs.size (.dK []) :=
 ⟨Nat.zero_le _, beq_eq_false_iff_ne.mpr (Ne.symm (Qme hb)), [], .nil, Heap.DictOf.new h⟩
def tDNewK : TE := fun _ H Q => ∀ p, H p = none->Q (.ref p) (upd H p (.dK []))
section
variable {X : Cx} {pos : Pos}
theorem QkP : PE X (.Dict [] [] pos) tDNewK := fun QlP s σ H Q I h =>
 wpAny_Dict_empty ⟨.ref s.heap.objs.size, _, I.laid (a := s.heap.objs.size) (o := .dK []) (t' := s.toks) (fun _ _ q => QlS _ q) (QlX _) (QeS s.heap I.big), rfl, h _ (I.hok.fresh (QlX _))⟩
end
def QbD : List (TE × TE)->St->Hp->(List (V × V)->Hp->Prop)->Prop
 | [], _, H, Q => Q [] H
 | (tk, tv) :: r, σ, H, Q => tk σ H fun x H1 => tv σ H1 fun y H2 => QbD r σ H2 fun ps H3 => Q ((x, y) :: ps) H3
abbrev VV : List (V × V)->List (Value × Value)->Prop := Paired fun p q => aq p.1 q.1/\aq p.2 q.2
def PPs (X : Cx) (pos : Pos) (keys : List (Option Expr)) (values : List Expr) (trs : List (TE × TE)) : Prop :=
 ∀ (QlP : List (Addr × Obj)) (s : Shared) (σ : St) (H : Hp) (Q : List (V × V)->Hp->Prop), Inv X QlP σ H s->QbD trs σ H Q ->
  wpAny (model X.prog X.w) X.A (evalPairs (pairTrees keys values X.env pos)) (fun vs s' => ∃ ps H', Inv X QlP σ H' s'/\VV ps vs/\Q ps H') X.xe s
theorem pps_nil {X : Cx} {pos : Pos} : PPs X pos [] [] [] := fun QlP s σ H Q I h => pairTrees_nil_walk ⟨[], H, I, .nil, h⟩
theorem QkM {X : Cx} {pos : Pos} {k v : Expr} {ks : List (Option Expr)} {vs : List Expr} {tk tv : TE} {trs : List (TE × TE)} (hk : PE X k tk) (hv : PE X v tv) (hr : PPs X pos ks vs trs) :
  PPs X pos (some k :: ks) (v :: vs) ((tk, tv) :: trs) := fun QlP s σ H Q I h =>
 pairTrees_cons_walk (thn (hk QlP s σ H _ I h) fun u s1 ⟨x, H1, I1, rx, q1⟩ => thn (hv QlP s1 σ H1 _ I1 q1) fun w2 s2 ⟨y, H2, I2, ry, q2⟩ =>
  thn (hr QlP s2 σ H2 _ I2 q2) fun ws s3 ⟨ps, H3, I3, rel, q3⟩ => ⟨(x, y) :: ps, H3, I3, .cons ⟨rx, ry⟩ rel, q3⟩)
def xt (kvs more : List (Key × V)) : List (Key × V) := more.foldl (fun acc kv => putK acc kv.1 kv.2) kvs
theorem KV.merge : ∀ {more : List (Key × V)} {rs : List (Key × Value)} {kvs : List (Key × V)} {vs : List (Key × Value)}, KV more rs->KV kvs vs->KV (xt kvs more) (merged vs rs) := by
 intro more rs kvs vs r
 unfold KV at r
 induction r generalizing kvs vs with
 | nil => intro q; exact q
 | @cons p q ps qs h t ih =>
  intro r0
  have e : KV (putK kvs p.1 p.2) (stored vs q.1 q.2) := by
   have := r0.put p.1 h.2
   rw [<-h.1]; exact this
  exact ih e
theorem QcJ : ∀ (more kvs : List (Key × V)), (xt kvs more).length<=kvs.length + more.length
 | [], kvs => by show kvs.length<=kvs.length + 0; omega
 | p :: r, kvs => by
  have h1 := QcJ r (putK kvs p.1 p.2)
  have h2 := vt kvs p.1 p.2
  show (xt (putK kvs p.1 p.2) r).length<=_
  rw [Qmg]; omega
theorem Qdz {P : Program} {w : World} : ∀ {kvs : List (Key × V)} {ws : List (Value × Value)}, VV (kvs.map fun kv => (kV kv.1, kv.2)) ws->∃ rs, Carries (fg P w) ws rs/\KV kvs rs
 | [], _, r => by rw [List.map_nil] at r; cases r; exact ⟨[], True.intro, .nil⟩
 | p :: kvs, _, r => by
  rw [Qms] at r
  cases r with
  | @cons a b as bs h t =>
   obtain ⟨rs, c, q⟩ := Qdz (P := P) (w := w) t
   obtain ⟨b1, b2⟩ := b
   exact ⟨(p.1, b2) :: rs, ⟨my h.1, rfl, c⟩, .cons ⟨rfl, h.2⟩ q⟩
def tDisp (trs : List (TE × TE)) : TE := fun σ H Q => ∀ p, H p = none->QbD trs σ (upd H p (.dK [])) fun ps H2 => H2 p = some (.dK [])/\∃ kvs : List (Key × V), ps = kvs.map (fun kv => (kV kv.1, kv.2))/\kvs.length<=15/\Q (.ref p) (upd H2 p (.dK (xt [] kvs)))
theorem pe_disp {X : Cx} {pos : Pos} {keys : List (Option Expr)} {values : List Expr} {trs : List (TE × TE)} (h : PPs X pos keys values trs) (hall : keys.all (·.isSome) = true) (hl : keys.length = values.length) (h0 : keys ≠ [])
  (h15 : keys.length<=15) : PE X (.Dict keys values pos) (tDisp trs) := by
 intro QlP s σ H Q I q
 have hn := I.hok.fresh (QlX s.heap.objs.size)
 have I1 := I.laid (a := s.heap.objs.size) (o := .dK []) (h' := s.heap.push { cls := .type "dict", data := .dict #[] }) (t' := s.toks) (fun _ _ q => QlS _ q) (QlX _) (QeS s.heap I.big)
 refine wpAny_Dict_walk (knd := fg X.prog X.w) hall hl h0 h15 (thn (h QlP _ σ _ _ I1 (q _ hn)) fun ws s2 ⟨ps, H2, I2, rel, e, kvs, ep, lk, q2⟩ => ?_)
 subst ep
 obtain ⟨rs, c, rk⟩ := Qdz (P := X.prog) (w := X.w) rel
 obtain ⟨z, hd, vs0, r0, dd⟩ := tu I2.hok e
 cases r0
 refine ⟨rs, c, dd, fun h' dd' hs => ⟨.ref s.heap.objs.size, _, ?_, rfl, q2⟩⟩
 have hz : (xt [] kvs).length<=sizeLine := by
  have h1 := QcJ kvs []
  rw [List.length_nil] at h1
  rw [sizeLine_eq]; omega
 have he : ∃ q, h'.get? s.heap.objs.size = some q := let ⟨q, _, _, hq, _⟩ := dd'; ⟨q, hq⟩
 exact oy I2 (by rw [e]; exact True.intro) hs he (Qap hz hd (rk.merge .nil) dd')
section
variable {X : Cx} {QlP : List (Addr × Obj)} {σ : St} {H : Hp} {s : Shared} {a : Addr} {y d : V} {u r : Value} {o : Option V} {A : Around} {E : Value->Shared->Prop}
theorem Qgz {Q : Value->Shared->Prop} (hu : A.units + 1 < cLine) (I : Inv X QlP σ H s) (g : iu H a y o) (ry : aq y u) (h : ∀ w' s', Inv X QlP σ H s'->aq (o.getD .non) w'->Q w' s') :
  wpAny (model X.prog X.w) A (call (.builtin "dict.get") [.ref a, u]) Q E s := by
 rcases g with ⟨kvs, k, e, ey, l⟩ | ⟨kvs, k, b, e, ey, eb, l⟩
 ·subst ey
  obtain ⟨z, hd, vs, rel, dd⟩ := og I.hok e
  refine call_meetsIn PySem.F.slot_dict_get dd.typeIs PySem.F.entry_dict_get (PySem.F.args_dict_get_2 _ _) (meets_dict_get (fg X.prog X.w) a (my ry) hd) ⟨_, dd.mapOf, h _ _ (I.tok _) ?_⟩
  rw [l]
  exact (rel.val k).getD rfl
 ·subst ey
  cases (show u = Value.ref b from ry)
  obtain ⟨z, hd, xs, rel, dd⟩ := pw I.hok e
  refine call_meetsIn PySem.F.slot_dict_get dd.typeIs PySem.F.entry_dict_get (PySem.F.args_dict_get_2 _ _) (meetsH_dict_get (tupleKind (fg X.prog X.w)) a b hd) ⟨tupleKind_room_in1 hu, k, xs, nq I.hok eb, dd, h _ _ (I.tok _) ?_⟩
  rw [l]
  exact (rel.val k).getD rfl
theorem Qgy {Q : Value->Shared->Prop} (hu : A.units + 1 < cLine) (I : Inv X QlP σ H s) (g : iu H a y o) (ry : aq y u) (rd : aq d r) (h : ∀ w' s', Inv X QlP σ H s'->aq (o.getD d) w'->Q w' s') :
  wpAny (model X.prog X.w) A (call (.builtin "dict.get") [.ref a, u, r]) Q E s := by
 rcases g with ⟨kvs, k, e, ey, l⟩ | ⟨kvs, k, b, e, ey, eb, l⟩
 ·subst ey
  obtain ⟨z, hd, vs, rel, dd⟩ := og I.hok e
  refine call_meetsIn PySem.F.slot_dict_get dd.typeIs PySem.F.entry_dict_get (PySem.F.args_dict_get_3 _ _ _) (meets_dict_get_default (fg X.prog X.w) a (my ry) hd r) ⟨_, dd.mapOf, h _ _ (I.tok _) ?_⟩
  rw [l]
  exact (rel.val k).getD rd
 ·subst ey
  cases (show u = Value.ref b from ry)
  obtain ⟨z, hd, xs, rel, dd⟩ := pw I.hok e
  refine call_meetsIn PySem.F.slot_dict_get dd.typeIs PySem.F.entry_dict_get (PySem.F.args_dict_get_3 _ _ _) (meetsH_dict_get_default (tupleKind (fg X.prog X.w)) a b hd r) ⟨tupleKind_room_in1 hu, k, xs, nq I.hok eb, dd, h _ _ (I.tok _) ?_⟩
  rw [l]
  exact (rel.val k).getD rd
end
section
variable {X : Cx} {o e f : Expr} {apos cpos : Pos} {td ty tx : TE}
end
section
variable {X : Cx} {QlP : List (Addr × Obj)} {σ : St} {H : Hp} {s : Shared} {a : Addr} {kvs : List (Key × V)} {A : Around} {E : Value->Shared->Prop}
theorem QlD {Q : Value->Shared->Prop} (I : Inv X QlP σ H s) (e : Rd H a (.dK kvs)) (h : ∀ p s', H p = none->Inv X QlP σ (upd H p (.dK kvs)) s'->Q (.ref p) s') : wpAny (model X.prog X.w) A (call (.type "dict") [.ref a]) Q E s := by
 obtain ⟨z, hd, vs, rel, dd⟩ := og I.hok e
 refine kt_call_dict hd dd (by rw [<-rel.length]; exact z) fun h' dd' hs => ?_
 refine h _ _ (I.hok.fresh (QlX _)) (I.laid (a := s.heap.objs.size) (o := .dK kvs) (t' := s.toks) (fun b q hq => ?_) (QlX _) (Qap z (beq_eq_false_iff_ne.mpr (Ne.symm (Qme I.big))) rel dd'))
 exact (hs.2 b (Qme (QlV hq))).trans (QlS _ hq)
end
section
variable {X : Cx} {QlP : List (Addr × Obj)} {σ : St} {H : Hp} {s : Shared} {a : Addr} {y : V} {u : Value} {A : Around} {E : Value->Shared->Prop}
end
section
variable {X : Cx} {QlP : List (Addr × Obj)} {σ : St} {H : Hp} {s : Shared} {a : Addr} {y v d : V} {u r : Value} {o : Option V} {A : Around} {E : Value->Shared->Prop}
theorem Qkq {o1 o2 : HO} (e : H a = some o2) : upd (upd H a o1) a o2 = H := by
 funext b
 by_cases h : b = a
 ·subst h; rw [cn, e]
 ·rw [bo h, bo h]
theorem QdG {o1 o2 : HO} : upd (upd H a o1) a o2 = upd H a o2 := by
 funext b
 by_cases h : b = a
 ·subst h; rw [cn, cn]
 ·rw [bo h, bo h, bo h]
theorem Inv.toT (I : Inv X QlP σ H s) (e : H a = some (.dK [])) : Inv X QlP σ (upd H a (.dT [])) s := by
 obtain ⟨z, hd, vs, rel, q, es, ep, h1, h2, h3, h4, h5, h6⟩ := tu I.hok e
 cases rel
 have e0 : es.toList = [] := by
  generalize es.toList = l at h5
  cases h5; rfl
 have J := oy (h' := s.heap) (t' := s.toks) (ob := .dT []) I (by rw [e]; exact True.intro) (Heap.SameBut.refl _ _) ⟨q, h1⟩ ⟨Nat.zero_le _, hd, [], .nil, q, es, ep, h1, h2, h3, e0, .nil⟩
 exact J
theorem Inv.toK (I : Inv X QlP σ H s) (e : H a = some (.dT [])) : Inv X QlP σ (upd H a (.dK [])) s := by
 obtain ⟨z, hd, xs, rel, q, es, ep, h1, h2, h3, h4, h5, h6⟩ := Qce I.hok e
 cases rel
 have J := oy (h' := s.heap) (t' := s.toks) (ob := .dK []) I (by rw [e]; exact True.intro) (Heap.SameBut.refl _ _) ⟨q, h1⟩ ⟨Nat.zero_le _, hd, [], .nil, q, es, ep, h1, h2, h3, (fun x hx => by
  have h4' : es.toList = [] := h4
  have : x ∈ es.toList := Array.mem_toList_iff.mpr hx
  rw [h4'] at this; cases this), (by rw [h4]; exact .nil), .nil⟩
 exact J
def DG (H : Hp) (a : Addr) (y : V) (o : Option V) : Prop := iu H a y o\/(H a = some (.dK [])/\o = none/\∃ b k, y = .ref b/\H b = some (.tup (List.map kV k)))
theorem Qau {b : Addr} {k : List Key} (e : H a = some (.dK [])) (eb : H b = some (.tup (k.map kV))) : iu (upd H a (.dT [])) a (.ref b) none :=
 iu.t (kvs := []) cn (by rw [bo (fun z => by rw [z, e] at eb; cases eb)]; exact eb)
theorem zu (e : H a = some (.dK [])) {s' : Shared} (I : Inv X QlP σ (upd H a (.dT [])) s') : Inv X QlP σ H s' := by
 have := I.toK (a := a) cn
 rw [Qkq e] at this
 exact this
theorem dx_in {Q : Value->Shared->Prop} (hu : A.units + 1 < cLine) (I : Inv X QlP σ H s) (g : DG H a y o) (ry : aq y u) (h : ∀ s', Inv X QlP σ H s'->Q (.bool o.isSome) s') : wpAny (model X.prog X.w) A (compareOp .In u (.ref a)) Q E s := by
 rcases g with g | ⟨e, rfl, b, k, rfl, eb⟩
 ·exact d_in hu I g ry h
 ·exact d_in hu (I.toT e) (Qau e eb) ry fun s' I' => h s' (zu e I')
theorem QlB {Q : Value->Shared->Prop} (hu : A.units + 1 < cLine) (I : Inv X QlP σ H s) (g : DG H a y o) (ry : aq y u) (h : ∀ s', Inv X QlP σ H s'->Q (.bool (!o.isSome)) s') : wpAny (model X.prog X.w) A (compareOp .NotIn u (.ref a)) Q E s := by
 rcases g with g | ⟨e, rfl, b, k, rfl, eb⟩
 ·exact QfO hu I g ry h
 ·exact QfO hu (I.toT e) (Qau e eb) ry fun s' I' => h s' (zu e I')
theorem dx_get1 {Q : Value->Shared->Prop} (hu : A.units + 1 < cLine) (I : Inv X QlP σ H s) (g : DG H a y o) (ry : aq y u) (h : ∀ w' s', Inv X QlP σ H s'->aq (o.getD .non) w'->Q w' s') : wpAny (model X.prog X.w) A (call (.builtin "dict.get") [.ref a, u]) Q E s := by
 rcases g with g | ⟨e, rfl, b, k, rfl, eb⟩
 ·exact Qgz hu I g ry h
 ·exact Qgz hu (I.toT e) (Qau e eb) ry fun w' s' I' rw' => h w' s' (zu e I') rw'
theorem dx_get2 {Q : Value->Shared->Prop} (hu : A.units + 1 < cLine) (I : Inv X QlP σ H s) (g : DG H a y o) (ry : aq y u) (rd : aq d r) (h : ∀ w' s', Inv X QlP σ H s'->aq (o.getD d) w'->Q w' s') : wpAny (model X.prog X.w) A (call (.builtin "dict.get") [.ref a, u, r]) Q E s := by
 rcases g with g | ⟨e, rfl, b, k, rfl, eb⟩
 ·exact Qgy hu I g ry rd h
 ·exact Qgy hu (I.toT e) (Qau e eb) ry rd fun w' s' I' rw' => h w' s' (zu e I') rw'
def DP (H : Hp) (a : Addr) (y v : V) (H' : Hp) : Prop := md H a y v H'\/(H a = some (.dK [])/\∃ b k, y = .ref b/\H b = some (.tup (List.map kV k))/\H' = upd H a (.dT [(k, v)]))
theorem QiR {H' : Hp} {Q : Unit->Shared->Prop} (hu : A.units + 1 < cLine) (I : Inv X QlP σ H s) (g : DP H a y v H') (ry : aq y u) (rv : aq v r) (h : ∀ s', Inv X QlP σ H' s'->Q () s') : wpAny (model X.prog X.w) A (setItem (.ref a) u r) Q E s := by
 rcases g with g | ⟨e, b, k, rfl, eb, rfl⟩
 ·exact Qea hu I g ry rv h
 ·have g2 : md (upd H a (.dT [])) a (.ref b) v (upd (upd H a (.dT [])) a (.dT (putK [] k v))) := md.t (kvs := []) cn (by rw [bo (fun z => by rw [z, e] at eb; cases eb)]; exact eb) (by rw [sizeLine_eq]; decide)
  refine Qea hu (I.toT e) g2 ry rv fun s' I' => h s' ?_
  rw [QdG] at I'
  exact I'
end
section
variable {prog : Program} {w : World} {K : Type} [DecidableEq K] {knd : HeapKind prog w K} {A : Around} {E : Value->Shared->Prop} {s : Shared} {d a : Addr} {k : K} {xs : List (K × Addr × Value)}
theorem setdH {dflt : Value} {Q : Value->Shared->Prop} (hu : knd.room A) (hkey : knd.is s.heap k a) (hm : s.heap.DictOfH knd d xs) (hsz : xs.length<=sizeLine)
  (h1 : ∀ p, atKey xs k = some p->Q p.2 { s with toks := s.toks + knd.draws k })
  (h2 : atKey xs k = none->∀ h', h'.DictOfH knd d (storedH xs k a dflt)->Heap.SameBut d s.heap h'->Q dflt { s with heap := h', toks := s.toks + knd.draws k }) :
  wpAny (model prog w) A (dictSetDefault d (.ref a) dflt) Q E s := by
 obtain ⟨o, es, ep, ho, hc, hd, he, his, hn⟩ := hm
 unfold dictSetDefault
 try with_reducible refine wpAny_holding ?_
 refine Qmn (knd.pyHash hu hkey (Qmn (wpAny_dictFind_heap (s := { s with toks := s.toks + knd.draws k }) hu hkey ho hd he his hn ?_ ?_)))
 ·intro hno
  have hnot : k ∉ xs.map (·.1) := not_mem_keys_of_get hno
  refine Qmn (wpAny_rule (Qmn (wpAny_updateDictKeys (hz := by have e := size_of_entries he; omega) (s := { s with toks := s.toks + knd.draws k }) ho hd (Qmr (h2 (atKey_none_of_get hno) _ ⟨_, _, ep + 1, Heap.get?_update_self _ ho (Obj.isFreed_of_dict (Obj.data_mapDictKeys hd _)),
   hc.mapDictKeys _, Obj.data_mapDictKeys hd _, ?_, ?_, ?_⟩ (Heap.SameBut.update ..))))))
  ·rw [storedH_new (atKey_none_of_get hno)]
   simp [he, entryOfKey]
  ·rw [storedH_new (atKey_none_of_get hno)]
   intro x hx
   rcases List.mem_append.mp hx with hx | hx
   ·exact knd.keeps (his x hx) ho hd (Heap.SameBut.update ..)
   ·simp only [List.mem_singleton] at hx
    subst hx
    exact knd.keeps hkey ho hd (Heap.SameBut.update ..)
  ·rw [storedH_new (atKey_none_of_get hno)]
   rw [List.map_append, List.nodup_append]
   refine ⟨hn, by simp, ?_⟩
   intro x hx y hy
   simp only [Qms, List.map_nil, List.mem_singleton] at hy
   subst hy
   exact fun e => hnot (e ▸ hx)
 ·intro j p hj
  refine Qmn (wpAny_dictEntries (s := { s with toks := s.toks + knd.draws k }) ho hd ?_)
  rw [entry_at he j, hj]
  exact Qmn (wpAny_rule (Qmr (h1 p (atKey_of_get hn hj))))
theorem Qij (hd : (d == sysModules) = false) (dflt : Value) :
  MeetsIn prog w (Builtin.«dict.setdefault» ⟨[.ref d, .ref a, dflt], []⟩) (fun A R s => knd.room A.in1/\∃ k xs, knd.is s.heap k a/\s.heap.DictOfH knd d xs/\xs.length<=sizeLine /\
   (∀ p, atKey xs k = some p->R (.ok (.ret p.2)) { s with toks := s.toks + knd.draws k }) /\
   (atKey xs k = none->∀ h', h'.DictOfH knd d (storedH xs k a dflt)->Heap.SameBut d s.heap h'->R (.ok (.ret dflt)) { s with heap := h', toks := s.toks + knd.draws k })) :=
 .of_wp fun A R s ⟨hu, k, xs, hkey, hm, hz, h1, h2⟩ => by
  unfold Builtin.«dict.setdefault»
  refine Qmn ?_
  unfold Builtin.Dict.keyAndDefault
  refine Qmn (wpAny_notOrdered_dict hm.typeIs ?_)
  show wpAny _ _ (pure (d, Value.ref a, some dflt)) _ _ s
  refine Qmr ?_
  show wpAny _ _ (if (d == sysModules) = true then _ else (dictSetDefault d (.ref a) dflt >>= _)) _ _ s
  rw [Qmp (by rw [hd]; exact QlQ)]
  exact Qmn (setdH hu hkey hm hz (fun p hp => Qmr ⟨p.2, rfl, h1 p hp⟩) fun hn h' hm' hs' => Qmr ⟨dflt, rfl, h2 hn h' hm' hs'⟩)
end
section
variable {X : Cx} {QlP : List (Addr × Obj)} {σ : St} {H : Hp} {s : Shared} {a b : Addr} {d : V} {u r : Value} {A : Around} {E : Value->Shared->Prop} {Q : Value->Shared->Prop}
theorem setd_K {kvs : List (Key × V)} {k : Key} (I : Inv X QlP σ H s) (e : H a = some (.dK kvs)) (hl : kvs.length < sizeLine) (ry : aq (kV k) u) (rd : aq d r)
  (h1 : ∀ v w' s', cz kvs k = some v->Inv X QlP σ H s'->aq v w'->Q w' s') (h2 : cz kvs k = none->∀ s', Inv X QlP σ (upd H a (.dK (putK kvs k d))) s'->Q r s') :
  wpAny (model X.prog X.w) A (call (.builtin "dict.setdefault") [.ref a, u, r]) Q E s := by
 obtain ⟨z, hd, us, rel, dd⟩ := tu I.hok e
 refine call_meetsIn PySem.F.slot_dict_setdefault dd.typeIs PySem.F.entry_dict_setdefault (PySem.F.args_dict_setdefault_3 _ _ _) (kt_meets_setdefault (fg X.prog X.w) a (my ry) hd r) ⟨us, dd, by rw [<-rel.length]; exact z, fun y hy => ?_, fun hn h' dd' hs => ?_⟩
 ·have := rel.val k
  rw [hy] at this
  cases ev : cz kvs k with
  | none => rw [ev] at this; exact (show False from this).elim
  | some v => rw [ev] at this; exact h1 v y _ ev (I.tok _) this
 ·have := rel.val k
  rw [hn] at this
  cases ev : cz kvs k with
  | some v => rw [ev] at this; exact (show False from this).elim
  | none =>
   have he : ∃ q, h'.get? a = some q := let ⟨q, _, _, hq, _⟩ := dd'; ⟨q, hq⟩
   exact h2 ev _ (oy I (by rw [e]; exact True.intro) hs he (Qap (by have := vt kvs k d; omega) hd (rel.put k rd) dd'))
theorem Qgc {kvs : List (List Key × V)} {k : List Key} (hu : A.units + 1 < cLine) (I : Inv X QlP σ H s) (e : H a = some (.dT kvs)) (hl : kvs.length < sizeLine) (eb : H b = some (.tup (k.map kV))) (rd : aq d r)
  (h1 : ∀ v w' s', cz kvs k = some v->Inv X QlP σ H s'->aq v w'->Q w' s') (h2 : cz kvs k = none->∀ s', Inv X QlP σ (upd H a (.dT (putK kvs k d))) s'->Q r s') :
  wpAny (model X.prog X.w) A (call (.builtin "dict.setdefault") [.ref a, .ref b, r]) Q E s := by
 obtain ⟨z, hd, xs, rel, dd⟩ := Qce I.hok e
 have hz : xs.length<=sizeLine := by rw [<-Paired.length rel]; exact z
 refine call_meetsIn PySem.F.slot_dict_setdefault dd.typeIs PySem.F.entry_dict_setdefault (PySem.F.args_dict_setdefault_3 _ _ _) (Qij (knd := tupleKind (fg X.prog X.w)) hd r) ⟨tupleKind_room_in1 hu, k, xs, nq I.hok eb, dd, hz, fun p hp => ?_, fun hn h' dd' hs => ?_⟩
 ·have := rel.val k
  rw [hp] at this
  cases ev : cz kvs k with
  | none => rw [ev] at this; exact (show False from this).elim
  | some v => rw [ev] at this; exact h1 v p.2 _ ev (I.tok _) this
 ·have := rel.val k
  rw [hn] at this
  cases ev : cz kvs k with
  | some v => rw [ev] at this; exact (show False from this).elim
  | none =>
   have hl' : (putK kvs k d).length<=sizeLine := by have := vt kvs k d; omega
   obtain ⟨q, es, ep, hq, g2, g3, g4, _, g5⟩ := dd'
   refine h2 ev _ (oy I (by rw [e]; exact True.intro) hs ⟨q, hq⟩ ⟨hl', hd, _, (rel.put k eb rd).keeps fun c ys ec => ?_, q, es, ep, hq, g2, g3, g4, g5⟩)
   rw [bo (ne_of ec e (fun z => nomatch z))]
   exact ec
theorem setd_E {k : List Key} (hu : A.units + 1 < cLine) (I : Inv X QlP σ H s) (e : H a = some (.dK [])) (eb : H b = some (.tup (k.map kV))) (rd : aq d r)
  (h2 : ∀ s', Inv X QlP σ (upd H a (.dT [(k, d)])) s'->Q r s') : wpAny (model X.prog X.w) A (call (.builtin "dict.setdefault") [.ref a, .ref b, r]) Q E s := by
 refine Qgc (kvs := []) hu (I.toT e) cn (by rw [sizeLine_eq]; decide) (by rw [bo (fun z => by rw [z, e] at eb; cases eb)]; exact eb) rd (fun v w' s' ev => nomatch ev) fun _ s' I' => h2 s' ?_
 rw [QdG] at I'
 exact I'
end
end L2
namespace DL
open PySem PySem.Spec PyProof.Rows L2
abbrev St := L2.St
abbrev ar := Key ⊕ List Key
def isK : ar->Bool
 | .inl _ => true
 | .inr _ => false
def kOf : ar->Key
 | .inl k => k
 | .inr _ => .inl 0
def tOf : ar->List Key
 | .inl _ => []
 | .inr t => t
def dKo (kvs : List (ar × V)) : HO := if (kvs.all fun p => isK p.1) = true then .dK (kvs.map fun p => (kOf p.1, p.2)) else .dT (kvs.map fun p => (tOf p.1, p.2))
theorem dKo_or (kvs : List (ar × V)) : (∃ k, dKo kvs = .dK k)\/∃ k, dKo kvs = .dT k := by
 unfold dKo
 split
 ·exact .inl ⟨_, rfl⟩
 ·exact .inr ⟨_, rfl⟩
theorem QfQ {H : Hp} {a : Addr} {kvs : List (ar × V)} (e : H a = some (dKo kvs)) : (∃ k, H a = some (.dK k))\/∃ k, H a = some (.dT k) := by
 rcases dKo_or kvs with ⟨k, q⟩ | ⟨k, q⟩
 ·exact .inl ⟨k, by rw [e, q]⟩
 ·exact .inr ⟨k, by rw [e, q]⟩
theorem dKo_ne {H : Hp} {a : Addr} {kvs : List (ar × V)} {o : HO} (e : H a = some (dKo kvs)) (e2 : H a = some o) (h : (∀ k, o ≠ .dK k)/\∀ k, o ≠ .dT k) : False := by
 rw [e] at e2
 rcases dKo_or kvs with ⟨k, q⟩ | ⟨k, q⟩
 ·rw [q] at e2; cases e2; exact h.1 _ rfl
 ·rw [q] at e2; cases e2; exact h.2 _ rfl
inductive W where
 | non | bl (b : Bool) | int (i : Int) | str (x : Str) | ty (n : String)
 | tup (xs : List W) | lst (xs : List W) | dct (ks : List ar) (vs : List W) | ref (n : Nat) | exn (x : Str)
instance : Inhabited W := ⟨.non⟩
def kT : Bool := false
inductive MO where
 | lst (xs : List W) | dct (ks : List ar) (vs : List W)
structure S where
 nxt : Nat
 mu : Nat->Option MO
inductive R (α : Type) where
 | ok (a : α) (s : S) | ex (c : W) (s : S) | stuck
def R.bind {α β : Type} (r : R α) (f : α->S->R β) : R β := match r with
 | .ok a s => f a s
 | .ex c s => .ex c s
 | .stuck => .stuck
abbrev Ga := List (Option W)
section
variable (K : PySem.W.Frag) (ι : Nat->Addr) (N : Nat) (G : Hp)
mutual
inductive RelW : V->W->Prop
 | non : RelW .non .non
 | bl (b : Bool) : RelW (.bl b) (.bl b)
 | int (i : Int) : RelW (.int i) (.int i)
 | str (x : Str) : RelW (.str x) (.str x)
 | ty (n : String) : RelW (.ty n) (.ty n)
 | tup {a : Addr} {xs : List V} {ws : List W} : SqT K G a xs->(kT = false->G a = some (.tup xs))->RelWs xs ws->RelW (.ref a) (.tup ws)
 | lst {a : Addr} {xs : List V} {ws : List W} : SqL K G a xs->RelWs xs ws->RelW (.ref a) (.lst ws)
 | dct {a : Addr} {xs : List V} {ks : List ar} {ws : List W} : G a = some (dKo (ks.zip xs))->xs.length = ks.length->RelWs xs ws->RelW (.ref a) (.dct ks ws)
 | ref {n : Nat} : n < N->RelW (.ref (ι n)) (.ref n)
 | exn {a C : Addr} {x : Str} : G a = some (.ext (exPh a (.ref C)))->PySem.W.nsIn K mainGlobals x = some (some (.ref C))->RelW (.ref a) (.exn x)
inductive RelWs : List V->List W->Prop
 | nil : RelWs [] []
 | cons {x : V} {w : W} {xs : List V} {ws : List W} : RelW x w->RelWs xs ws->RelWs (x :: xs) (w :: ws)
end
end
structure Ext (ι : Nat->Addr) (N : Nat) (G : Hp) (ι' : Nat->Addr) (N' : Nat) (G' : Hp) : Prop where
 le : N<=N'
 ag : ∀ n, n < N->ι' n = ι n
 sm : ee G G'
theorem Ext.refl (ι : Nat->Addr) (N : Nat) (G : Hp) : Ext ι N G ι N G := ⟨QlX _, fun _ _ => rfl, ee.refl G⟩
theorem Ext.trans {ι ι1 ι2 : Nat->Addr} {N N1 N2 : Nat} {G G1 G2 : Hp} (a : Ext ι N G ι1 N1 G1) (b : Ext ι1 N1 G1 ι2 N2 G2) : Ext ι N G ι2 N2 G2 :=
 ⟨Qmh a.le b.le, fun n h => (b.ag n (Qmb h a.le)).trans (a.ag n h), a.sm.trans b.sm⟩
theorem sqT_same {K : PySem.W.Frag} {H H' : Hp} {a : Addr} {xs : List V} (e : ee H H') (h : SqT K H a xs) : SqT K H' a xs := by
 rcases h with (h | ⟨o, h⟩) | h
 ·exact .inl (.inl (e _ _ h))
 ·exact .inl (.inr ⟨o, e _ _ h⟩)
 ·exact .inr h
section
variable {K : PySem.W.Frag} {ι ι' : Nat->Addr} {N N' : Nat} {G G' : Hp}
theorem RelW.mono (e : Ext ι N G ι' N' G') {v : V} {w : W} (h : RelW K ι N G v w) : RelW K ι' N' G' v w := by
 refine RelW.rec (motive_1 := fun v w _ => RelW K ι' N' G' v w) (motive_2 := fun vs ws _ => RelWs K ι' N' G' vs ws) ?_ ?_ ?_ ?_ ?_ ?_ ?_ ?_ ?_ ?_ ?_ ?_ h
 ·exact .non
 ·exact .bl
 ·exact .int
 ·exact .str
 ·exact .ty
 ·intro a xs ws s c _ r; exact .tup (sqT_same e.sm s) (fun h => e.sm _ _ (c h)) r
 ·intro a xs ws s _ r; exact .lst (e.sm.seq s) r
 ·intro a xs ks ws s l _ r; exact .dct (e.sm _ _ s) l r
 ·intro n hn; rw [<-e.ag n hn]; exact .ref (Qmb hn e.le)
 ·intro a C x s n; exact .exn (e.sm _ _ s) n
 ·exact .nil
 ·intro x w xs ws _ _ r1 r2; exact .cons r1 r2
theorem RelWs.mono (e : Ext ι N G ι' N' G') : ∀ {vs : List V} {ws : List W}, RelWs K ι N G vs ws->RelWs K ι' N' G' vs ws
 | _, _, .nil => .nil
 | _, _, .cons r t => .cons (r.mono e) (RelWs.mono e t)
theorem RelWs.length : ∀ {vs : List V} {ws : List W}, RelWs K ι N G vs ws->vs.length = ws.length
 | _, _, .nil => rfl
 | _, _, .cons _ t => by rw [Qmg, Qmg, RelWs.length t]
theorem RelWs.get : ∀ {vs : List V} {ws : List W} {i : Nat} {w : W}, RelWs K ι N G vs ws->ws[i]? = some w->∃ v, vs[i]? = some v/\RelW K ι N G v w
 | _, _, _, _, .nil, e => by simp at e
 | _, _, 0, _, .cons r _, e => by simp at e; subst e; exact ⟨_, rfl, r⟩
 | _, _, i + 1, x, .cons _ t, e => by
  obtain ⟨u, h1, h2⟩ := RelWs.get (i := i) (w := x) t (by simpa using e)
  exact ⟨u, by simpa using h1, h2⟩
theorem RelWs.get' : ∀ {vs : List V} {ws : List W} {i : Nat} {v : V}, RelWs K ι N G vs ws->vs[i]? = some v->∃ w, ws[i]? = some w/\RelW K ι N G v w
 | _, _, _, _, .nil, e => by simp at e
 | _, _, 0, _, .cons r _, e => by simp at e; subst e; exact ⟨_, rfl, r⟩
 | _, _, i + 1, x, .cons _ t, e => by
  obtain ⟨u, h1, h2⟩ := RelWs.get' (i := i) (v := x) t (by simpa using e)
  exact ⟨u, by simpa using h1, h2⟩
theorem RelWs.append : ∀ {vs vs' : List V} {ws ws' : List W}, RelWs K ι N G vs ws->RelWs K ι N G vs' ws'->RelWs K ι N G (vs ++ vs') (ws ++ ws')
 | _, _, _, _, .nil, s => s
 | _, _, _, _, .cons r t, s => .cons r (RelWs.append t s)
theorem RelWs.take : ∀ {vs : List V} {ws : List W} (n : Nat), RelWs K ι N G vs ws->RelWs K ι N G (vs.take n) (ws.take n)
 | _, _, 0, _ => .nil
 | _, _, _ + 1, .nil => .nil
 | _, _, n + 1, .cons r t => .cons r (RelWs.take n t)
theorem RelWs.drop : ∀ {vs : List V} {ws : List W} (n : Nat), RelWs K ι N G vs ws->RelWs K ι N G (vs.drop n) (ws.drop n)
 | _, _, 0, r => r
 | _, _, _ + 1, .nil => .nil
 | _, _, n + 1, .cons _ t => RelWs.drop n t
theorem RelWs.set {v : V} {w : W} (r : RelW K ι N G v w) : ∀ {vs : List V} {ws : List W} (n : Nat), RelWs K ι N G vs ws->RelWs K ι N G (vs.set n v) (ws.set n w)
 | _, _, _, .nil => .nil
 | _, _, 0, .cons _ t => .cons r t
 | _, _, n + 1, .cons q t => .cons q (RelWs.set r n t)
theorem RelWs.bls : ∀ {vs : List V} {bs : List Bool}, RelWs K ι N G vs (bs.map W.bl)->vs = bs.map V.bl
 | _, [], .nil => rfl
 | _, b :: bs, .cons r t => by cases r; rw [Qms, RelWs.bls t]
theorem RelWs.ofInts (ns : List Int) : RelWs K ι N G (ns.map V.int) (ns.map W.int) := by
 induction ns with
 | nil => exact .nil
 | cons n ns ih => exact .cons (.int n) ih
def MOR (K : PySem.W.Frag) (ι : Nat->Addr) (N : Nat) (G H : Hp) (a : Addr) : MO->Prop
 | .lst ws => ∃ xs, H a = some (.lst xs)/\RelWs K ι N G xs ws
 | .dct ks ws => ∃ xs, H a = some (dKo (ks.zip xs))/\xs.length = ks.length/\RelWs K ι N G xs ws
structure SR (K : PySem.W.Frag) (ι : Nat->Addr) (st : S) (G H : Hp) : Prop where
 sub : ee G H
 live : ∀ n o, st.mu n = some o->n < st.nxt/\G (ι n) = none/\MOR K ι st.nxt G H (ι n) o
 inj : ∀ n m o o', st.mu n = some o->st.mu m = some o'->ι n = ι m->n = m
end
structure EnvR (K : PySem.W.Frag) (ι : Nat->Addr) (N : Nat) (G : Hp) (σ : St) (Γ : Ga) : Prop where
 len : σ.length = Γ.length
 get : ∀ (i : Nat) (w : W), Γ[i]? = some (some w)->∃ v, σ[i]? = some (some v)/\RelW K ι N G v w
theorem EnvR.mono {K : PySem.W.Frag} {ι ι' : Nat->Addr} {N N' : Nat} {G G' : Hp} {σ : St} {Γ : Ga} (e : Ext ι N G ι' N' G') (h : EnvR K ι N G σ Γ) : EnvR K ι' N' G' σ Γ :=
 ⟨h.len, fun i w q => let ⟨v, h1, h2⟩ := h.get i w q; ⟨v, h1, h2.mono e⟩⟩
theorem EnvR.set {K : PySem.W.Frag} {ι : Nat->Addr} {N : Nat} {G : Hp} {σ : St} {Γ : Ga} {v : V} {w : W} (h : EnvR K ι N G σ Γ) (i : Nat) (r : RelW K ι N G v w) : EnvR K ι N G (σ.set i (some v)) (Γ.set i (some w)) := by
 refine ⟨by rw [List.length_set, List.length_set]; exact h.len, fun j u q => ?_⟩
 rw [List.getElem?_set] at q ⊢
 by_cases hij : i = j
 ·rw [Qmo hij] at q ⊢
  subst hij
  by_cases hl : i < Γ.length
  ·rw [Qmo hl] at q
   rw [Qmo (by rw [h.len]; exact hl)]
   cases q
   exact ⟨v, rfl, r⟩
  ·rw [Qmp hl] at q; cases q
 ·rw [Qmp hij] at q ⊢
  exact h.get j u q
section
variable {K : PySem.W.Frag} {ι : Nat->Addr} {st : S} {G H : Hp}
theorem SR.laid (h : SR K ι st G H) {p : Addr} {o : HO} (hp : H p = none) : SR K ι st (upd G p o) (upd H p o)/\Ext ι st.nxt G ι st.nxt (upd G p o) := by
 have hG : G p = none := h.sub.free hp
 have sm : ee G (upd G p o) := fun b u e => by rw [bo (il e hG)]; exact e
 have ex : Ext ι st.nxt G ι st.nxt (upd G p o) := ⟨QlX _, fun _ _ => rfl, sm⟩
 refine ⟨⟨fun b u e => ?_, fun n m e => ?_, h.inj⟩, ex⟩
 ·by_cases hb : b = p
  ·subst hb; rw [cn] at e ⊢; exact e
  ·rw [bo hb] at e ⊢; exact h.sub b u e
 ·obtain ⟨h1, h2, h3⟩ := h.live n m e
  have hne : ι n ≠ p := by
   intro z
   cases m with
   | lst ws => obtain ⟨xs, q, _⟩ := h3; rw [z, hp] at q; cases q
   | dct ks ws => obtain ⟨xs, q, _⟩ := h3; rw [z, hp] at q; cases q
  refine ⟨h1, by rw [bo hne]; exact h2, ?_⟩
  cases m with
  | lst ws => obtain ⟨xs, q, r⟩ := h3; exact ⟨xs, by rw [bo hne]; exact q, r.mono ex⟩
  | dct ks ws => obtain ⟨xs, q, l, r⟩ := h3; exact ⟨xs, by rw [bo hne]; exact q, l, r.mono ex⟩
def S.new (st : S) (o : MO) : S := ⟨st.nxt + 1, fun n => if n = st.nxt then some o else st.mu n⟩
def S.put (st : S) (n : Nat) (o : MO) : S := ⟨st.nxt, fun m => if m = n then some o else st.mu m⟩
theorem SR.newL (h : SR K ι st G H) {p : Addr} {xs : List V} {ws : List W} (hp : H p = none) (r : RelWs K ι st.nxt G xs ws) :
  ∃ ι', Ext ι st.nxt G ι' (st.nxt + 1) G/\SR K ι' (st.new (.lst ws)) G (upd H p (.lst xs))/\ι' st.nxt = p := by
 have hG : G p = none := h.sub.free hp
 have ex : Ext ι st.nxt G (fun n => if n = st.nxt then p else ι n) (st.nxt + 1) G := ⟨Nat.le_succ _, fun n hn => Qmp (Qme hn), ee.refl G⟩
 have nep : ∀ n o, st.mu n = some o->ι n ≠ p := fun n o e z => by
  obtain ⟨_, _, h3⟩ := h.live n o e
  cases o with
  | lst ws => obtain ⟨xs, q, _⟩ := h3; rw [z, hp] at q; cases q
  | dct ks ws => obtain ⟨xs, q, _⟩ := h3; rw [z, hp] at q; cases q
 refine ⟨fun n => if n = st.nxt then p else ι n, ex, ⟨fun b u e => ?_, fun n o e => ?_, fun n m o o' e e' z => ?_⟩, Qmo rfl⟩
 ·rw [bo (il e hG)]; exact h.sub b u e
 ·by_cases hn : n = st.nxt
  ·subst hn
   have e' : (if st.nxt = st.nxt then some (MO.lst ws) else st.mu st.nxt) = some o := e
   rw [Qmo rfl] at e'
   cases e'
   refine ⟨Nat.lt_succ_self _, by (try dsimp only); rw [Qmo rfl]; exact hG, xs, by (try dsimp only); rw [Qmo rfl, cn], r.mono ex⟩
  ·have e' : (if n = st.nxt then some (MO.lst ws) else st.mu n) = some o := e
   rw [Qmp hn] at e'
   obtain ⟨h1, h2, h3⟩ := h.live n o e'
   have hne := nep n o e'
   refine ⟨Nat.lt_succ_of_lt h1, by (try dsimp only); rw [Qmp hn]; exact h2, ?_⟩
   cases o with
   | lst ws => obtain ⟨xs, q, r⟩ := h3; exact ⟨xs, by (try dsimp only); rw [Qmp hn, bo hne]; exact q, r.mono ex⟩
   | dct ks ws => obtain ⟨xs, q, l, r⟩ := h3; exact ⟨xs, by (try dsimp only); rw [Qmp hn, bo hne]; exact q, l, r.mono ex⟩
 ·have e1 : (if n = st.nxt then some (MO.lst ws) else st.mu n) = some o := e
  have e2 : (if m = st.nxt then some (MO.lst ws) else st.mu m) = some o' := e'
  (try dsimp only at z)
  by_cases hn : n = st.nxt
  ·by_cases hm : m = st.nxt
   ·rw [hn, hm]
   ·rw [Qmp hm] at e2
    rw [Qmo hn, Qmp hm] at z
    exact absurd z.symm (nep m o' e2)
  ·rw [Qmp hn] at e1
   by_cases hm : m = st.nxt
   ·rw [Qmp hn, Qmo hm] at z
    exact absurd z (nep n o e1)
   ·rw [Qmp hm] at e2
    rw [Qmp hn, Qmp hm] at z
    exact h.inj n m o o' e1 e2 z
theorem SR.putL (h : SR K ι st G H) {n : Nat} {o : MO} {xs : List V} {ws : List W} (hn : st.mu n = some o) (r : RelWs K ι st.nxt G xs ws) : SR K ι (st.put n (.lst ws)) G (upd H (ι n) (.lst xs)) := by
 obtain ⟨h1, h2, _⟩ := h.live n o hn
 refine ⟨fun b u e => ?_, fun m u e => ?_, fun a b u u' e e' z => ?_⟩
 ·rw [bo (il e h2)]; exact h.sub b u e
 ·have e' : (if m = n then some (MO.lst ws) else st.mu m) = some u := e
  by_cases hm : m = n
  ·subst hm
   rw [Qmo rfl] at e'
   cases e'
   exact ⟨h1, h2, xs, cn, r⟩
  ·rw [Qmp hm] at e'
   obtain ⟨g1, g2, g3⟩ := h.live m u e'
   have hne : ι m ≠ ι n := fun z => hm (h.inj m n u o e' hn z)
   refine ⟨g1, g2, ?_⟩
   cases u with
   | lst ws => obtain ⟨xs, q, r⟩ := g3; exact ⟨xs, by rw [bo hne]; exact q, r⟩
   | dct ks ws => obtain ⟨xs, q, l, r⟩ := g3; exact ⟨xs, by rw [bo hne]; exact q, l, r⟩
 ·have e1 : (if a = n then some (MO.lst ws) else st.mu a) = some u := e
  have e2 : (if b = n then some (MO.lst ws) else st.mu b) = some u' := e'
  have l1 : ∃ o, st.mu a = some o := by
   by_cases q : a = n
   ·exact ⟨o, by rw [q]; exact hn⟩
   ·rw [Qmp q] at e1; exact ⟨u, e1⟩
  have l2 : ∃ o, st.mu b = some o := by
   by_cases q : b = n
   ·exact ⟨o, by rw [q]; exact hn⟩
   ·rw [Qmp q] at e2; exact ⟨u', e2⟩
  obtain ⟨o1, l1⟩ := l1
  obtain ⟨o2, l2⟩ := l2
  exact h.inj a b o1 o2 l1 l2 z
end
def ClsR (K : PySem.W.Frag) (c : W) (cls : Value) : Prop := ∃ x C, c = .str x/\PySem.W.nsIn K mainGlobals x = some (some (.ref C))/\cls = .ref C
def XW (X : Cx) (ι : Nat->Addr) (N : Nat) (G : Hp) (c : W) (st' : S) : Prop :=
 ∀ (H' : Hp) (ι' : Nat->Addr) (G' : Hp) (ea : Addr) (cls : Value) (s' : Shared), Ext ι N G ι' st'.nxt G'->SR X.K ι' st' G' H'->ClsR X.K c cls->iq X H' ea cls s'->X.xe (.ref ea) s'
theorem XW.mono {X : Cx} {ι ι1 : Nat->Addr} {N N1 : Nat} {G G1 : Hp} {c : W} {st' : S} (e : Ext ι N G ι1 N1 G1) (h : XW X ι N G c st') : XW X ι1 N1 G1 c st' :=
 fun H' ι' G' x cl s' e' r q I => h H' ι' G' x cl s' (e.trans e') r q I
def wpR (X : Cx) {α : Type} (Rel : (ι : Nat->Addr)->Nat->Hp->α->V->Prop) (ι : Nat->Addr) (N : Nat) (G : Hp) (r : R α) (Q : VK) : Prop := match r with
 | .ok w st' => ∀ v ι' G' H', Ext ι N G ι' st'.nxt G'->SR X.K ι' st' G' H'->Rel ι' st'.nxt G' w v->Q v H'
 | .ex c st' => XW X ι N G c st'
 | .stuck => False
abbrev RW (X : Cx) : (ι : Nat->Addr)->Nat->Hp->W->V->Prop := fun ι N G w v => RelW X.K ι N G v w
abbrev wpW (X : Cx) := wpR X (RW X)
theorem wpW.bind {X : Cx} {ι : Nat->Addr} {N : Nat} {G : Hp} {r : R W} {f : W->S->R W} {Q Q' : VK} (h : wpW X ι N G (r.bind f) Q)
  (k : ∀ w st' v ι' G' H', r = .ok w st'->Ext ι N G ι' st'.nxt G'->SR X.K ι' st' G' H'->RelW X.K ι' st'.nxt G' v w->wpW X ι' st'.nxt G' (f w st') Q->Q' v H') : wpW X ι N G r Q' := by
 cases r with
 | stuck => exact h
 | ex c s => exact h
 | ok w st' =>
  intro v ι' G' H' e sr rel
  refine k w st' v ι' G' H' rfl e sr rel ?_
  have h' : wpW X ι N G (f w st') Q := h
  cases q : f w st' with
  | stuck => rw [q] at h'; exact h'
  | ex c s => rw [q] at h'; exact XW.mono e h'
  | ok w2 st2 =>
   rw [q] at h'
   exact fun v2 ι2 G2 H2 e2 sr2 rel2 => h' v2 ι2 G2 H2 (e.trans e2) sr2 rel2
theorem wpW.mono {X : Cx} {ι : Nat->Addr} {N : Nat} {G : Hp} {r : R W} {Q Q' : VK} (h : wpW X ι N G r Q) (k : ∀ v H, Q v H->Q' v H) : wpW X ι N G r Q' := by
 cases r with
 | stuck => exact h
 | ex c s => exact h
 | ok w st' => exact fun v ι' G' H' e sr rel => k _ _ (h v ι' G' H' e sr rel)
theorem wpW.later {X : Cx} {ι ι1 : Nat->Addr} {N N1 : Nat} {G G1 : Hp} {r : R W} {Q : VK} (e : Ext ι N G ι1 N1 G1) (h : wpW X ι N G r Q) : wpW X ι1 N1 G1 r Q := by
 cases r with
 | stuck => exact h
 | ex c s => exact XW.mono e h
 | ok w st' => exact fun v ι' G' H' e' sr rel => h v ι' G' H' (e.trans e') sr rel
abbrev Run := Ga->S->R W
def tD (X : Cx) (run : Run) : TE := fun σ H Q => ∃ ι G st Γ, EnvR X.K ι st.nxt G σ Γ/\SR X.K ι st G H/\wpW X ι st.nxt G (run Γ st) Q
abbrev PD (X : Cx) (e : Expr) (run : Run) : Prop := PE X e (tD X run)
theorem PE.imp {X : Cx} {e : Expr} {t t' : TE} (h : PE X e t) (k : ∀ σ H Q, t' σ H Q->t σ H Q) : PE X e t' := fun QlP s σ H Q I q => h QlP s σ H Q I (k σ H Q q)
theorem PT.imp {X : Cx} {e : Expr} {t t' : TT} (h : PT X e t) (k : ∀ σ H Q, t' σ H Q->t σ H Q) : PT X e t' := fun QlP s σ H Q I q => h QlP s σ H Q I (k σ H Q q)
theorem PS.imp {X : Cx} {e : Stmt} {t t' : TS} (h : PS X e t) (k : ∀ D σ H, t' D σ H->t D σ H) : PS X e t' := fun QlP s σ H D I q => h QlP s σ H D I (k D σ H q)
theorem PSs.imp {X : Cx} {e : List Stmt} {t t' : TS} (h : PSs X e t) (k : ∀ D σ H, t' D σ H->t D σ H) : PSs X e t' := fun QlP s σ H D I q => h QlP s σ H D I (k D σ H q)
theorem PA.imp {X : Cx} {e : List Expr} {t t' : TA} (h : PA X e t) (k : ∀ σ H Q, t' σ H Q->t σ H Q) : PA X e t' := fun pos QlP s σ H Q I q => h pos QlP s σ H Q I (k σ H Q q)
def tDT (X : Cx) (run : Run) : TT := fun σ H Q => tD X run σ H fun v H' => ∃ b, v = .bl b/\Q b H'
section
variable {X : Cx}
def aa (i : Nat) : Run := fun Γ st => match Γ[i]? with
 | some (some w) => .ok w st
 | _ => .stuck
theorem pd_var {i : Nat} {x : Str} {pos : Pos} (hN : X.N[i]? = some x) (hv : Vis X.env.scope x) (hd : (x == ("__debug__" : Str)) = false) (hcd : (x == ("__classdict__" : Str)) = false) : PD X (.Name x pos) (aa i) := by
 refine PE.imp (pe_var hN hv hd hcd) fun σ H Q h => ?_
 obtain ⟨ι, G, st, Γ, en, sr, q⟩ := h
 unfold aa at q
 cases e : Γ[i]? with
 | none => rw [e] at q; exact q.elim
 | some o =>
  cases o with
  | none => rw [e] at q; exact q.elim
  | some w =>
   rw [e] at q
   obtain ⟨v, h1, h2⟩ := en.get i w e
   exact ⟨v, h1, q v ι G H (Ext.refl _ _ _) sr h2⟩
def af (w : W) : Run := fun _ st => .ok w st
theorem sh {e : Expr} {v : V} {w : W} (h : PE X e (tC v)) (r : ∀ ι N G, RelW X.K ι N G v w) : PD X e (af w) := by
 refine PE.imp h fun σ H Q h => ?_
 obtain ⟨ι, G, st, Γ, en, sr, q⟩ := h
 exact q v ι G H (Ext.refl _ _ _) sr (r _ _ _)
abbrev Op2 := W->W->S->R W
def OpW (X : Cx) (f : Value->Value->Sem Value) (op : Op2) : Prop :=
 ∀ (QlP : List (Addr × Obj)) (s : Shared) (σ : St) (H : Hp) (ι : Nat->Addr) (G : Hp) (st : S) (x y : V) (w1 w2 : W) (v u : Value) (Q : VK), Inv X QlP σ H s->SR X.K ι st G H->aq x v->aq y u->RelW X.K ι st.nxt G x w1->RelW X.K ι st.nxt G y w2 ->
  wpW X ι st.nxt G (op w1 w2 st) Q->wpAny (model X.prog X.w) X.A (f v u) (EP X QlP σ Q) X.xe s
def rOp (X : Cx) (op : Op2) : R2 := fun x y H Q => ∃ ι G st w1 w2, SR X.K ι st G H/\RelW X.K ι st.nxt G x w1/\RelW X.K ι st.nxt G y w2/\wpW X ι st.nxt G (op w1 w2 st) Q
theorem OpW.r {f : Value->Value->Sem Value} {op : Op2} (h : OpW X f op) : OpR X f (rOp X op) :=
 fun QlP s σ H x y v u Q I rx ry ⟨ι, G, st, w1, w2, sr, r1, r2, q⟩ => h QlP s σ H ι G st x y w1 w2 v u Q I sr rx ry r1 r2 q
def ah (ra rb : Run) (op : Op2) : Run := fun Γ st => (ra Γ st).bind fun w1 st1 => (rb Γ st1).bind fun w2 st2 => op w1 w2 st2
theorem Qaq {ra rb : Run} {op : Op2} {σ : St} {H : Hp} {Q : VK} (h : tD X (ah ra rb op) σ H Q) : tOp (rOp X op) (tD X ra) (tD X rb) σ H Q := by
 obtain ⟨ι, G, st, Γ, en, sr, q⟩ := h
 refine ⟨ι, G, st, Γ, en, sr, wpW.bind q fun w1 st1 v1 ι1 G1 H1 _ e1 sr1 r1 q1 => ?_⟩
 refine ⟨ι1, G1, st1, Γ, en.mono e1, sr1, wpW.bind q1 fun w2 st2 v2 ι2 G2 H2 _ e2 sr2 r2 q2 => ?_⟩
 exact ⟨ι2, G2, st2, w1, w2, sr2, r1.mono e2, r2, q2⟩
theorem pd_op {a b : Expr} {op : Operator} {pos : Pos} {ra rb : Run} {o : Op2} (ho : OpW X (binaryOp op) o) (ha : PD X a ra) (hb : PD X b rb) : PD X (.BinOp a op b pos) (ah ra rb o) :=
 PE.imp (pe_op ho.r ha hb) fun _ _ _ h => Qaq h
theorem pd_cmp {a b : Expr} {op : CmpOp} {pos : Pos} {ra rb : Run} {o : Op2} (ho : OpW X (compareOp op) o) (ha : PD X a ra) (hb : PD X b rb) (hm : behindInMarks op b = false) : PD X (.Compare a [op] [b] pos) (ah ra rb o) :=
 PE.imp (Qfu ho.r ha hb hm) fun _ _ _ h => Qaq h
theorem pdt_cmp {a b : Expr} {op : CmpOp} {pos : Pos} {ra rb : Run} {o : Op2} (ho : OpW X (compareOp op) o) (ha : PD X a ra) (hb : PD X b rb) (hm : behindInMarks op b = false) : PT X (.Compare a [op] [b] pos) (tDT X (ah ra rb o)) :=
 PT.imp (Qfq ho.r ha hb hm) fun _ _ _ h => Qaq h
def tw (ra rb rc : Run) (o o' : Op2) : Run := fun Γ st => (ra Γ st).bind fun w1 st1 => (rb Γ st1).bind fun w2 st2 => (o w1 w2 st2).bind fun w st3 => match w with
 | .bl true => (rc Γ st3).bind fun w3 st4 => o' w2 w3 st4
 | .bl false => .ok (.bl false) st3
 | _ => .stuck
theorem Qeu {ra rb rc : Run} {o o' : Op2} {σ : St} {H : Hp} {Q : VK} (h : tD X (tw ra rb rc o o') σ H Q) : QbE (rOp X o) (rOp X o') (tD X ra) (tD X rb) (tD X rc) σ H Q := by
 obtain ⟨ι, G, st, Γ, en, sr, q⟩ := h
 refine ⟨ι, G, st, Γ, en, sr, wpW.bind q fun w1 st1 v1 ι1 G1 H1 _ e1 sr1 r1 q1 => ?_⟩
 refine ⟨ι1, G1, st1, Γ, en.mono e1, sr1, wpW.bind q1 fun w2 st2 v2 ι2 G2 H2 _ e2 sr2 r2 q2 => ?_⟩
 refine ⟨ι2, G2, st2, w1, w2, sr2, r1.mono e2, r2, wpW.bind q2 fun w st3 v ι3 G3 H3 _ e3 sr3 r3 q3 => ?_⟩
 cases w with
 | bl b =>
  cases r3
  refine ⟨b, rfl, ?_⟩
  cases b with
  | false => rw [Qmp QlQ]; exact q3 _ ι3 G3 H3 (Ext.refl _ _ _) sr3 (.bl false)
  | true =>
   rw [Qmo rfl]
   refine ⟨ι3, G3, st3, Γ, ((en.mono e1).mono e2).mono e3, sr3, wpW.bind q3 fun w3 st4 v3 ι4 G4 H4 _ e4 sr4 r4 q4 => ?_⟩
   exact ⟨ι4, G4, st4, w2, w3, sr4, (r2.mono e3).mono e4, r4, q4⟩
 | _ => exact (show False from q3).elim
theorem Qle {a b c : Expr} {op op' : CmpOp} {pos : Pos} {ra rb rc : Run} {o o' : Op2} (ho : OpW X (compareOp op) o) (ho' : OpW X (compareOp op') o') (ha : PD X a ra) (hb : PD X b rb) (hc : PD X c rc) (hm : lastMarks [op, op'] [b, c] = false) :
  PD X (.Compare a [op, op'] [b, c] pos) (tw ra rb rc o o') := PE.imp (QkS ho.r ho'.r ha hb hc hm) fun _ _ _ h => Qeu h
theorem QjB {a b c : Expr} {op op' : CmpOp} {pos : Pos} {ra rb rc : Run} {o o' : Op2} (ho : OpW X (compareOp op) o) (ho' : OpW X (compareOp op') o') (ha : PD X a ra) (hb : PD X b rb) (hc : PD X c rc) (hm : lastMarks [op, op'] [b, c] = false) :
  PT X (.Compare a [op, op'] [b, c] pos) (tDT X (tw ra rb rc o o')) := PT.imp (QkH ho.r ho'.r ha hb hc hm) fun _ _ _ h => Qeu h
def oz (ra rb : Run) : Run := fun Γ st => (ra Γ st).bind fun w st1 => match w with
 | .bl true => rb Γ st1
 | .bl false => .ok (.bl false) st1
 | _ => .stuck
def gf (ra rb : Run) : Run := fun Γ st => (ra Γ st).bind fun w st1 => match w with
 | .bl true => .ok (.bl true) st1
 | .bl false => rb Γ st1
 | _ => .stuck
def km (ra : Run) : Run := fun Γ st => (ra Γ st).bind fun w st1 => match w with
 | .bl b => .ok (.bl (!b)) st1
 | _ => .stuck
def sx (rc ra rb : Run) : Run := fun Γ st => (rc Γ st).bind fun w st1 => match w with
 | .bl true => ra Γ st1
 | .bl false => rb Γ st1
 | _ => .stuck
theorem pd_one {a : Expr} {op : BoolOp} {pos : Pos} {ra : Run} (ha : PD X a ra) : PD X (.BoolOp op [a] pos) ra := pe_one ha
theorem pd_and {a b : Expr} {rest : List Expr} {pos : Pos} {ra rb : Run} (ha : PD X a ra) (hb : PD X (.BoolOp .And (b :: rest) pos) rb) : PD X (.BoolOp .And (a :: b :: rest) pos) (oz ra rb) := by
 refine PE.imp (pe_and ha hb) fun σ H Q h => ?_
 obtain ⟨ι, G, st, Γ, en, sr, q⟩ := h
 refine ⟨ι, G, st, Γ, en, sr, wpW.bind q fun w st1 v ι1 G1 H1 _ e1 sr1 r1 q1 => ?_⟩
 cases w with
 | bl b =>
  cases r1
  refine ⟨b, rfl, ?_⟩
  cases b with
  | false => rw [Qmp QlQ]; exact q1 _ ι1 G1 H1 (Ext.refl _ _ _) sr1 (.bl false)
  | true => rw [Qmo rfl]; exact ⟨ι1, G1, st1, Γ, en.mono e1, sr1, q1⟩
 | _ => exact (show False from q1).elim
theorem pd_or {a b : Expr} {rest : List Expr} {pos : Pos} {ra rb : Run} (ha : PD X a ra) (hb : PD X (.BoolOp .Or (b :: rest) pos) rb) : PD X (.BoolOp .Or (a :: b :: rest) pos) (gf ra rb) := by
 refine PE.imp (pe_or ha hb) fun σ H Q h => ?_
 obtain ⟨ι, G, st, Γ, en, sr, q⟩ := h
 refine ⟨ι, G, st, Γ, en, sr, wpW.bind q fun w st1 v ι1 G1 H1 _ e1 sr1 r1 q1 => ?_⟩
 cases w with
 | bl b =>
  cases r1
  refine ⟨b, rfl, ?_⟩
  cases b with
  | true => rw [Qmo rfl]; exact q1 _ ι1 G1 H1 (Ext.refl _ _ _) sr1 (.bl true)
  | false => rw [Qmp QlQ]; exact ⟨ι1, G1, st1, Γ, en.mono e1, sr1, q1⟩
 | _ => exact (show False from q1).elim
theorem pd_not {a : Expr} {pos : Pos} {ra : Run} (ha : PD X a ra) : PD X (.UnaryOp .Not a pos) (km ra) := by
 refine PE.imp (pe_not ha) fun σ H Q h => ?_
 obtain ⟨ι, G, st, Γ, en, sr, q⟩ := h
 refine ⟨ι, G, st, Γ, en, sr, wpW.bind q fun w st1 v ι1 G1 H1 _ e1 sr1 r1 q1 => ?_⟩
 cases w with
 | bl b => cases r1; exact ⟨b, rfl, q1 _ ι1 G1 H1 (Ext.refl _ _ _) sr1 (.bl _)⟩
 | _ => exact (show False from q1).elim
theorem pdt_not {a : Expr} {pos : Pos} {ra : Run} (ha : PT X a (tDT X ra)) : PT X (.UnaryOp .Not a pos) (tDT X (km ra)) := by
 refine PT.imp (pt_not ha) fun σ H Q h => ?_
 obtain ⟨ι, G, st, Γ, en, sr, q⟩ := h
 refine ⟨ι, G, st, Γ, en, sr, wpW.bind q fun w st1 v ι1 G1 H1 _ e1 sr1 r1 q1 => ?_⟩
 cases w with
 | bl b =>
  cases r1
  obtain ⟨b', e, q'⟩ := q1 _ ι1 G1 H1 (Ext.refl _ _ _) sr1 (.bl _)
  cases e
  exact ⟨b, rfl, q'⟩
 | _ => exact (show False from q1).elim
theorem pwt_one {a : Expr} {op : BoolOp} {pos : Pos} {ra : Run} (ha : PT X a (tDT X ra)) : PW X (.BoolOp op [a] pos) (tDT X ra) := by
 cases op with
 | And => exact pw_and1 ha
 | Or => exact pw_or1 ha
theorem PW.imp {e : Expr} {t t' : TT} (h : PW X e t) (k : ∀ σ H Q, t' σ H Q->t σ H Q) : PW X e t' := fun whole QlP s σ H Q I q => h whole QlP s σ H Q I (k σ H Q q)
theorem pwt_and {a b : Expr} {rest : List Expr} {pos : Pos} {ra rb : Run} (ha : PT X a (tDT X ra)) (hb : PW X (.BoolOp .And (b :: rest) pos) (tDT X rb)) : PW X (.BoolOp .And (a :: b :: rest) pos) (tDT X (oz ra rb)) := by
 refine PW.imp (pw_and ha hb) fun σ H Q h => ?_
 obtain ⟨ι, G, st, Γ, en, sr, q⟩ := h
 refine ⟨ι, G, st, Γ, en, sr, wpW.bind q fun w st1 v ι1 G1 H1 _ e1 sr1 r1 q1 => ?_⟩
 cases w with
 | bl b =>
  cases r1
  refine ⟨b, rfl, ?_⟩
  cases b with
  | false =>
   rw [Qmp QlQ]
   obtain ⟨b', e, q'⟩ := q1 _ ι1 G1 H1 (Ext.refl _ _ _) sr1 (.bl false)
   cases e; exact q'
  | true => rw [Qmo rfl]; exact ⟨ι1, G1, st1, Γ, en.mono e1, sr1, q1⟩
 | _ => exact (show False from q1).elim
theorem pwt_or {a b : Expr} {rest : List Expr} {pos : Pos} {ra rb : Run} (ha : PT X a (tDT X ra)) (hb : PW X (.BoolOp .Or (b :: rest) pos) (tDT X rb)) : PW X (.BoolOp .Or (a :: b :: rest) pos) (tDT X (gf ra rb)) := by
 refine PW.imp (pw_or ha hb) fun σ H Q h => ?_
 obtain ⟨ι, G, st, Γ, en, sr, q⟩ := h
 refine ⟨ι, G, st, Γ, en, sr, wpW.bind q fun w st1 v ι1 G1 H1 _ e1 sr1 r1 q1 => ?_⟩
 cases w with
 | bl b =>
  cases r1
  refine ⟨b, rfl, ?_⟩
  cases b with
  | true =>
   rw [Qmo rfl]
   obtain ⟨b', e, q'⟩ := q1 _ ι1 G1 H1 (Ext.refl _ _ _) sr1 (.bl true)
   cases e; exact q'
  | false => rw [Qmp QlQ]; exact ⟨ι1, G1, st1, Γ, en.mono e1, sr1, q1⟩
 | _ => exact (show False from q1).elim
theorem pd_if {c a b : Expr} {pos : Pos} {rc ra rb : Run} (hc : PT X c (tDT X rc)) (ha : PD X a ra) (hb : PD X b rb) : PD X (.IfExp c a b pos) (sx rc ra rb) := by
 refine PE.imp (QkO hc ha hb) fun σ H Q h => ?_
 obtain ⟨ι, G, st, Γ, en, sr, q⟩ := h
 refine ⟨ι, G, st, Γ, en, sr, wpW.bind q fun w st1 v ι1 G1 H1 _ e1 sr1 r1 q1 => ?_⟩
 cases w with
 | bl b =>
  cases r1
  refine ⟨b, rfl, ?_⟩
  cases b with
  | true => rw [Qmo rfl]; exact ⟨ι1, G1, st1, Γ, en.mono e1, sr1, q1⟩
  | false => rw [Qmp QlQ]; exact ⟨ι1, G1, st1, Γ, en.mono e1, sr1, q1⟩
 | _ => exact (show False from q1).elim
theorem pdt_val {e : Expr} {r : Run} (h : PD X e r) (he : ∀ whole, isTrue e X.env whole = (do let v <-whole; standAt e.pos; holding [v] (truthy v))) : PT X e (tDT X r) := pt_val h he
abbrev bw := Ga->S->R (List W)
def tDA (X : Cx) (run : bw) : TA := fun σ H Q => ∃ ι G st Γ, EnvR X.K ι st.nxt G σ Γ/\SR X.K ι st G H/\(match run Γ st with
 | .ok ws st' => ∀ vs ι' G' H', Ext ι st.nxt G ι' st'.nxt G'->SR X.K ι' st' G' H'->RelWs X.K ι' st'.nxt G' vs ws->Q vs H'
 | .ex c st' => XW X ι st.nxt G c st'
 | .stuck => False)
abbrev PDA (X : Cx) (es : List Expr) (run : bw) : Prop := PA X es (tDA X run)
def al : bw := fun _ st => .ok [] st
def ae (ra : Run) (rr : bw) : bw := fun Γ st => (ra Γ st).bind fun w st1 => (rr Γ st1).bind fun ws st2 => .ok (w :: ws) st2
theorem Qbm : PDA X [] al := by
 refine PA.imp Qgk fun σ H Q h => ?_
 obtain ⟨ι, G, st, Γ, en, sr, q⟩ := h
 exact q [] ι G H (Ext.refl _ _ _) sr .nil
theorem zo {e : Expr} {es : List Expr} {ra : Run} {rr : bw} (ha : PD X e ra) (hr : PDA X es rr) (hs : starEach (e :: es) X.env = (false, eval e X.env) :: starEach es X.env) : PDA X (e :: es) (ae ra rr) := by
 refine PA.imp (Qbn ha hr hs) fun σ H Q h => ?_
 obtain ⟨ι, G, st, Γ, en, sr, q⟩ := h
 refine ⟨ι, G, st, Γ, en, sr, ?_⟩
 unfold ae at q
 cases e1 : ra Γ st with
 | stuck => rw [e1] at q; exact q
 | ex c s => rw [e1] at q; exact q
 | ok w st1 =>
  rw [e1] at q
  intro v ι1 G1 H1 x1 sr1 r1
  refine ⟨ι1, G1, st1, Γ, en.mono x1, sr1, ?_⟩
  have q' : match (rr Γ st1).bind fun ws st2 => R.ok (w :: ws) st2 with
   | .ok ws st' => ∀ vs ι' G' H', Ext ι st.nxt G ι' st'.nxt G'->SR X.K ι' st' G' H'->RelWs X.K ι' st'.nxt G' vs ws->Q vs H'
   | .ex c st' => XW X ι st.nxt G c st'
   | .stuck => False := q
  cases e2 : rr Γ st1 with
  | stuck => rw [e2] at q'; exact q'
  | ex c s => rw [e2] at q'; exact XW.mono x1 q'
  | ok ws st2 =>
   rw [e2] at q'
   exact fun vs ι2 G2 H2 x2 sr2 r2 => q' (v :: vs) ι2 G2 H2 (x1.trans x2) sr2 (.cons (r1.mono x2) r2)
abbrev OpN := List W->S->R W
def runN (rr : bw) (op : OpN) : Run := fun Γ st => (rr Γ st).bind op
theorem zw {rr : bw} {op : OpN} {σ : St} {H : Hp} {Q : VK} {Q' : List V->Hp->Prop} (h : tD X (runN rr op) σ H Q)
  (k : ∀ ws st' vs ι' G' H', SR X.K ι' st' G' H'->RelWs X.K ι' st'.nxt G' vs ws->wpW X ι' st'.nxt G' (op ws st') Q->Q' vs H') : tDA X rr σ H Q' := by
 obtain ⟨ι, G, st, Γ, en, sr, q⟩ := h
 refine ⟨ι, G, st, Γ, en, sr, ?_⟩
 unfold runN at q
 cases e1 : rr Γ st with
 | stuck => rw [e1] at q; exact q
 | ex c s => rw [e1] at q; exact q
 | ok ws st1 =>
  rw [e1] at q
  intro vs ι1 G1 H1 x1 sr1 r1
  exact k ws st1 vs ι1 G1 H1 sr1 r1 (wpW.later x1 (show wpW X ι st.nxt G (op ws st1) Q from q))
def jh (X : Cx) (f : Value) (op : OpN) : Prop :=
 ∀ (QlP : List (Addr × Obj)) (s : Shared) (σ : St) (H : Hp) (ι : Nat->Addr) (G : Hp) (st : S) (xs : List V) (ws : List W) (us : List Value) (Q : VK), Inv X QlP σ H s->SR X.K ι st G H->bb xs us->RelWs X.K ι st.nxt G xs ws ->
  wpW X ι st.nxt G (op ws st) Q->wpAny (model X.prog X.w) X.A (call f us) (EP X QlP σ Q) X.xe s
def rCall (X : Cx) (op : OpN) : List V->Hp->VK->Prop := fun xs H Q => ∃ ι G st ws, SR X.K ι st G H/\RelWs X.K ι st.nxt G xs ws/\wpW X ι st.nxt G (op ws st) Q
theorem jh.r {f : Value} {op : OpN} (h : jh X f op) : ls X f (rCall X op) := fun QlP s σ H xs us Q I r ⟨ι, G, st, ws, sr, r1, q⟩ => h QlP s σ H ι G st xs ws us Q I sr r r1 q
theorem Qev {rr : bw} {op : OpN} {σ : St} {H : Hp} {Q : VK} (h : tD X (runN rr op) σ H Q) : tCB (rCall X op) (tDA X rr) σ H Q :=
 zw h fun ws st' vs ι' G' H' sr r q => ⟨ι', G', st', ws, sr, r, q⟩
def bp : OpN := fun ws st => if ws.length<=sizeLine then .ok (.tup ws) st else .stuck
def ln : OpN := fun ws st => if ws.length<=sizeLine then .ok (.lst ws) st else .stuck
def nn : OpN := fun ws st => if ws.length<=sizeLine then .ok (.ref st.nxt) (st.new (.lst ws)) else .stuck
theorem Qet {ι : Nat->Addr} {G H : Hp} {st : S} {xs : List V} {ws : List W} {Q : VK} (sr : SR X.K ι st G H) (r : RelWs X.K ι st.nxt G xs ws) (q : wpW X ι st.nxt G (bp ws st) Q) : xs.length<=sizeLine/\∀ p, H p = none->Q (.ref p) (upd H p (.tup xs)) := by
 unfold bp at q
 by_cases hl : ws.length<=sizeLine
 ·rw [Qmo hl] at q
  refine ⟨by rw [r.length]; exact hl, fun p hp => ?_⟩
  obtain ⟨s2, e2⟩ := sr.laid (o := .tup xs) hp
  exact q _ ι _ _ e2 s2 (.tup (.inl (.inl cn)) (fun _ => cn) (r.mono e2))
 ·rw [Qmp hl] at q; exact q.elim
theorem xg {ι : Nat->Addr} {G H : Hp} {st : S} {xs : List V} {ws : List W} {Q : VK} (sr : SR X.K ι st G H) (r : RelWs X.K ι st.nxt G xs ws) (q : wpW X ι st.nxt G (ln ws st) Q) : xs.length<=sizeLine/\∀ p, H p = none->Q (.ref p) (upd H p (.lst xs)) := by
 unfold ln at q
 by_cases hl : ws.length<=sizeLine
 ·rw [Qmo hl] at q
  refine ⟨by rw [r.length]; exact hl, fun p hp => ?_⟩
  obtain ⟨s2, e2⟩ := sr.laid (o := .lst xs) hp
  exact q _ ι _ _ e2 s2 (.lst (.inl (.inl cn)) (r.mono e2))
 ·rw [Qmp hl] at q; exact q.elim
theorem wp {ι : Nat->Addr} {G H : Hp} {st : S} {xs : List V} {ws : List W} {Q : VK} (sr : SR X.K ι st G H) (r : RelWs X.K ι st.nxt G xs ws) (q : wpW X ι st.nxt G (nn ws st) Q) : xs.length<=sizeLine/\∀ p, H p = none->Q (.ref p) (upd H p (.lst xs)) := by
 unfold nn at q
 by_cases hl : ws.length<=sizeLine
 ·rw [Qmo hl] at q
  refine ⟨by rw [r.length]; exact hl, fun p hp => ?_⟩
  obtain ⟨ι', e2, s2, ep⟩ := sr.newL hp r
  have q' := q (.ref p) ι' G (upd H p (.lst xs)) e2 s2
  rw [<-ep] at q' ⊢
  exact q' (.ref (Nat.lt_succ_self _))
 ·rw [Qmp hl] at q; exact q.elim
theorem pd_tup {es : List Expr} {k : Nat} {pos : Pos} {rr : bw} (h : PDA X es rr) : PD X (.Tuple es k pos) (runN rr bp) :=
 PE.imp (pe_tup h) fun _ _ _ h => zw h fun _ _ _ _ _ _ sr r q => Qet sr r q
theorem pd_lst {es : List Expr} {pos : Pos} {rr : bw} (h : PDA X es rr) : PD X (.List es pos) (runN rr ln) :=
 PE.imp (Qgi h) fun _ _ _ h => zw h fun _ _ _ _ _ _ sr r q => xg sr r q
theorem pd_newL {es : List Expr} {pos : Pos} {rr : bw} (h : PDA X es rr) : PD X (.List es pos) (runN rr nn) :=
 PE.imp (Qgi h) fun _ _ _ h => zw h fun _ _ _ _ _ _ sr r q => wp sr r q
end
section
variable {X : Cx}
def MO.items : Option MO->Option (List W)
 | some (.lst xs) => some xs
 | _ => none
def ol (a b : Option (List W)) (st : S) : R W := match a, b with
 | some xs, some ys => if xs.length + ys.length<=sizeLine then .ok (.lst (xs ++ ys)) st else .stuck
 | _, _ => .stuck
def ce : Op2 := fun a b st => match a, b with
 | .int i, .int j => .ok (.int (i + j)) st
 | .str x, .str y => if x.length + y.length<=sizeLine then .ok (.str (x ++ y)) st else .stuck
 | .lst xs, .lst ys => ol (some xs) (some ys) st
 | .lst xs, .ref m => ol (some xs) (MO.items (st.mu m)) st
 | .ref n, .lst ys => ol (MO.items (st.mu n)) (some ys) st
 | .ref n, .ref m => ol (MO.items (st.mu n)) (MO.items (st.mu m)) st
 | .tup xs, .tup ys => if xs ≠ []/\xs.length + ys.length<=sizeLine then .ok (.tup (xs ++ ys)) st else .stuck
 | _, _ => .stuck
def yf : Op2 := fun a b st => match a, b with
 | .int i, .int j => .ok (.int (i - j)) st
 | _, _ => .stuck
instance (i j : Int) : Decidable (qc i j) := by unfold qc; infer_instance
instance (i j : Int) : Decidable (CDiv i j) := by unfold CDiv; infer_instance
def Qgm : Op2 := fun a b st => match a, b with
 | .int i, .int j => if qc i j then .ok (.int (i * j)) st else .stuck
 | _, _ => .stuck
def df : Op2 := fun a b st => match a, b with
 | .str x, .int k => if x.length<=1000/\0<=k/\k<=1000 then .ok (.str (Txt.mul x k)) st else .stuck
 | a, b => Qgm a b st
def kz : Op2 := fun a b st => match a, b with
 | .int i, .int j => if CDiv i j then .ok (.int (i / j)) st else .stuck
 | _, _ => .stuck
def dz : Op2 := fun a b st => match a, b with
 | .int i, .int j => if 0 < j then .ok (.int (i % j)) st else .stuck
 | _, _ => .stuck
theorem op_catL : OpR X (binaryOp .Add) (fun x y H Q => ∃ l b xs zs, x = .ref l/\y = .ref b/\SqL X.K H l xs/\SqL X.K H b zs/\xs.length + zs.length<=sizeLine/\∀ p, H p = none->Q (.ref p) (upd H p (.lst (xs ++ zs)))) := by
 intro QlP s σ H x y v u Q I rx ry h
 obtain ⟨l, b, xs, zs, rfl, rfl, hH, hB, hz, q⟩ := h
 cases rx
 cases ry
 obtain ⟨its, r, pl, z⟩ := I.list hH
 obtain ⟨its2, r2, pl2, z2⟩ := I.list hB
 have hl := r.length
 have hl2 := r2.length
 obtain ⟨⟨cls, dd, data, sl⟩, n, e, ec, ed, es⟩ := pl
 obtain ⟨⟨cls2, dd2, data2, sl2⟩, n2, e2, ec2, ed2, es2⟩ := pl2
 simp only at ec es ec2 es2
 subst ec es ec2 es2
 have ea : its.toArray ++ its2.toArray = (its ++ its2).toArray := by simp
 refine concat_meets ⟨_, e, rfl⟩ ⟨_, e2, rfl⟩ noFill_list_add seq_list_add PySem.F.slot_list_add PySem.F.entry_list_add (PySem.F.args_list_add_2 _ _) (list_addW l b its.toArray its2.toArray n n2 dd dd2 sl sl2 (by rw [QlW, QlW]; omega)) ⟨e, e2, ?_⟩
 rw [ea]
 exact ⟨.ref _, _, I.lnew (t' := s.toks) (r.append r2) (by rw [Qma]; omega), rfl, q _ I.fresh⟩
theorem wd {K : PySem.W.Frag} {ι : Nat->Addr} {st : S} {G H : Hp} {n : Nat} {ws : List W} (sr : SR K ι st G H) (h : MO.items (st.mu n) = some ws) : ∃ xs, SqL K H (ι n) xs/\RelWs K ι st.nxt G xs ws := by
 cases e : st.mu n with
 | none => rw [e] at h; cases h
 | some o =>
  obtain ⟨_, _, h3⟩ := sr.live n o e
  cases o with
  | lst zs =>
   rw [e] at h
   cases h
   obtain ⟨vs, q, r⟩ := h3
   exact ⟨vs, SqL.of q, r⟩
  | dct ks vs => rw [e] at h; cases h
theorem opw_add : OpW X (binaryOp .Add) ce := by
 intro QlP s σ H ι G st x y w1 w2 v u Q I sr rx ry r1 r2 q
 have cat : ∀ {a b : Addr} {xs ys : List V} {ws ws' : List W}, aq (.ref a) v->aq (.ref b) u->SqL X.K H a xs->SqL X.K H b ys->RelWs X.K ι st.nxt G xs ws->RelWs X.K ι st.nxt G ys ws'->wpW X ι st.nxt G (ol (some ws) (some ws') st) Q ->
   wpAny (model X.prog X.w) X.A (binaryOp .Add v u) (EP X QlP σ Q) X.xe s := by
  intro a b xs ys ws ws' rx ry s1 s2 t1 t2 q
  have q' : wpW X ι st.nxt G (if ws.length + ws'.length<=sizeLine then .ok (.lst (ws ++ ws')) st else .stuck) Q := q
  by_cases hl : ws.length + ws'.length<=sizeLine
  ·rw [Qmo hl] at q'
   refine op_catL QlP s σ H _ _ v u Q I rx ry ⟨_, _, _, _, rfl, rfl, s1, s2, by rw [t1.length, t2.length]; exact hl, fun p hp => ?_⟩
   obtain ⟨sr2, e2⟩ := sr.laid (o := .lst _) hp
   exact q' _ ι _ _ e2 sr2 (.lst (.inl (.inl cn)) ((t1.append t2).mono e2))
  ·rw [Qmp hl] at q'; exact q'.elim
 cases w1 with
 | int i =>
  cases w2 with
  | int j => cases r1; cases r2; exact op_add QlP s σ H _ _ v u Q I rx ry ⟨i, j, rfl, rfl, q _ ι G H (Ext.refl _ _ _) sr (.int _)⟩
  | _ => exact (show False from q).elim
 | str i =>
  cases w2 with
  | str j =>
   cases r1; cases r2
   have q' : wpW X ι st.nxt G (if i.length + j.length<=sizeLine then .ok (.str (i ++ j)) st else .stuck) Q := q
   by_cases hl : i.length + j.length<=sizeLine
   ·rw [Qmo hl] at q'
    exact QiL QlP s σ H _ _ v u Q I rx ry ⟨i, j, rfl, rfl, hl, q' _ ι G H (Ext.refl _ _ _) sr (.str _)⟩
   ·rw [Qmp hl] at q'; exact q'.elim
  | _ => exact (show False from q).elim
 | lst xs =>
  cases w2 with
  | lst ys =>
   cases r1 with
   | lst s1 t1 =>
    cases r2 with
    | lst s2 t2 => exact cat rx ry (sr.sub.seq s1) (sr.sub.seq s2) t1 t2 q
  | ref m =>
   cases r1 with
   | lst s1 t1 =>
    have q' : wpW X ι st.nxt G (ol (some xs) (MO.items (st.mu m)) st) Q := q
    cases hm : MO.items (st.mu m) with
    | none => rw [hm] at q'; exact (show False from q').elim
    | some ys =>
     rw [hm] at q'
     cases r2 with
     | ref hn =>
      obtain ⟨vs, h1, h2⟩ := wd sr hm
      exact cat rx ry (sr.sub.seq s1) h1 t1 h2 q'
  | _ => exact (show False from q).elim
 | ref n =>
  cases w2 with
  | lst ys =>
   cases r2 with
   | lst s2 t2 =>
    have q' : wpW X ι st.nxt G (ol (MO.items (st.mu n)) (some ys) st) Q := q
    cases hm : MO.items (st.mu n) with
    | none => rw [hm] at q'; exact (show False from q').elim
    | some xs =>
     rw [hm] at q'
     cases r1 with
     | ref hn =>
      obtain ⟨vs, h1, h2⟩ := wd sr hm
      exact cat rx ry h1 (sr.sub.seq s2) h2 t2 q'
  | ref m =>
   have q' : wpW X ι st.nxt G (ol (MO.items (st.mu n)) (MO.items (st.mu m)) st) Q := q
   cases hm : MO.items (st.mu n) with
   | none => rw [hm] at q'; exact (show False from q').elim
   | some xs =>
    cases hk : MO.items (st.mu m) with
    | none => rw [hm, hk] at q'; exact (show False from q').elim
    | some ys =>
     rw [hm, hk] at q'
     cases r1 with
     | ref hn =>
      cases r2 with
      | ref hn' =>
       obtain ⟨vs, h1, h2⟩ := wd sr hm
       obtain ⟨vs', h3, h4⟩ := wd sr hk
       exact cat rx ry h1 h3 h2 h4 q'
  | _ => exact (show False from q).elim
 | tup xs =>
  cases w2 with
  | tup ys =>
   cases r1 with
   | tup s1 c1 t1 =>
    cases r2 with
    | tup s2 c2 t2 =>
     have q' : wpW X ι st.nxt G (if xs ≠ []/\xs.length + ys.length<=sizeLine then .ok (.tup (xs ++ ys)) st else .stuck) Q := q
     by_cases hl : xs ≠ []/\xs.length + ys.length<=sizeLine
     ·rw [Qmo hl] at q'
      refine op_catT QlP s σ H _ _ v u Q I rx ry ⟨_, _, _, _, rfl, rfl, sqT_same sr.sub s1, sqT_same sr.sub s2, fun z => hl.1 ?_, by rw [t1.length, t2.length]; exact hl.2, fun z => ?_, fun z p hp => ?_⟩
      ·subst z; cases t1; rfl
      ·subst z
       cases t2
       refine q' _ ι G H (Ext.refl _ _ _) sr (.tup s1 c1 ?_)
       rw [List.append_nil]; exact t1
      ·obtain ⟨sr2, e2⟩ := sr.laid (o := .tup _) hp
       exact q' _ ι _ _ e2 sr2 (.tup (.inl (.inl cn)) (fun _ => cn) ((t1.append t2).mono e2))
     ·rw [Qmp hl] at q'; exact q'.elim
  | _ => exact (show False from q).elim
 | _ => exact (show False from q).elim
theorem opw_sub : OpW X (binaryOp .Sub) yf := by
 intro QlP s σ H ι G st x y w1 w2 v u Q I sr rx ry r1 r2 q
 cases w1 with
 | int i =>
  cases w2 with
  | int j => cases r1; cases r2; exact op_sub QlP s σ H _ _ v u Q I rx ry ⟨i, j, rfl, rfl, q _ ι G H (Ext.refl _ _ _) sr (.int _)⟩
  | _ => exact (show False from q).elim
 | _ => exact (show False from q).elim
theorem QbV {f : Value->Value->Sem Value} {C : Int->Int->Prop} [∀ i j, Decidable (C i j)] {g : Int->Int->Int} {op : Op2} (h : OpR X f (rI C fun i j => .int (g i j)))
  (hi : ∀ i j st, op (.int i) (.int j) st = if C i j then .ok (.int (g i j)) st else .stuck) (ho : ∀ a b st, (∀ i j, ¬ (a = .int i/\b = .int j))->op a b st = .stuck) : OpW X f op := by
 intro QlP s σ H ι G st x y w1 w2 v u Q I sr rx ry r1 r2 q
 by_cases hw : ∃ i j, w1 = .int i/\w2 = .int j
 ·obtain ⟨i, j, rfl, rfl⟩ := hw
  cases r1; cases r2
  rw [hi] at q
  by_cases hc : C i j
  ·rw [Qmo hc] at q
   exact h QlP s σ H _ _ v u Q I rx ry ⟨i, j, rfl, rfl, hc, q _ ι G H (Ext.refl _ _ _) sr (.int _)⟩
  ·rw [Qmp hc] at q; exact (show False from q).elim
 ·rw [ho _ _ _ fun i j z => hw ⟨i, j, z.1, z.2⟩] at q
  exact (show False from q).elim
theorem Qlh : OpW X (binaryOp .Mult) Qgm := QbV op_mul (fun _ _ _ => rfl) fun a b st h => by
 cases a <;> cases b <;> first | rfl | exact absurd ⟨rfl, rfl⟩ (h _ _)
theorem opw_mul : OpW X (binaryOp .Mult) df := by
 intro QlP s σ H ι G st x y w1 w2 v u Q I sr rx ry r1 r2 q
 unfold df at q
 split at q
 ·rename_i z k
  cases r1
  cases r2
  obtain ⟨t1, rfl⟩ := (show ∃ t, v = Value.str z t from rx)
  obtain ⟨t2, rfl⟩ := (show ∃ t, u = Value.int k t from ry)
  by_cases hl : z.length<=1000/\0<=k/\k<=1000
  ·rw [Qmo hl] at q
   exact PySem.SB.mul (mulOk_of 1000 1000 hl.1 hl.2.2 (by omega) (by decide) (by decide)) fun t' k' => ⟨.str (Txt.mul z k), H, I.tok _, ⟨t', rfl⟩, q _ ι G H (Ext.refl _ _ _) sr (.str _)⟩
  ·rw [Qmp hl] at q; exact q.elim
 ·exact Qlh QlP s σ H ι G st x y w1 w2 v u Q I sr rx ry r1 r2 q
theorem opw_div : OpW X (binaryOp .FloorDiv) kz := QbV op_fdiv (fun _ _ _ => rfl) fun a b st h => by
 cases a <;> cases b <;> first | rfl | exact absurd ⟨rfl, rfl⟩ (h _ _)
theorem opw_mod : OpW X (binaryOp .Mod) dz := QbV op_mod (fun _ _ _ => rfl) fun a b st h => by
 cases a <;> cases b <;> first | rfl | exact absurd ⟨rfl, rfl⟩ (h _ _)
def opNeg : W->S->R W := fun a st => match a with
 | .int i => .ok (.int (-i)) st
 | _ => .stuck
def gd (ra : Run) (op : W->S->R W) : Run := fun Γ st => (ra Γ st).bind op
theorem pd_neg {a : Expr} {pos : Pos} {ra : Run} (ha : PD X a ra) : PD X (.UnaryOp .USub a pos) (gd ra opNeg) := by
 refine PE.imp (pe_un un_neg ha) fun σ H Q h => ?_
 obtain ⟨ι, G, st, Γ, en, sr, q⟩ := h
 refine ⟨ι, G, st, Γ, en, sr, wpW.bind q fun w st1 v ι1 G1 H1 _ e1 sr1 r1 q1 => ?_⟩
 cases w with
 | int i => cases r1; exact ⟨i, rfl, q1 _ ι1 G1 H1 (Ext.refl _ _ _) sr1 (.int _)⟩
 | _ => exact (show False from q1).elim
def opLt : Op2 := fun a b st => match a, b with
 | .int i, .int j => .ok (.bl (decide (i < j))) st
 | .str x, .str y => .ok (.bl (decide (x.cps.toList < y.cps.toList))) st
 | _, _ => .stuck
def yl : Op2 := fun a b st => match a, b with
 | .int i, .int j => .ok (.bl (decide (i<=j))) st
 | _, _ => .stuck
def kc : Op2 := fun a b st => match a, b with
 | .int i, .int j => .ok (.bl (decide (j < i))) st
 | _, _ => .stuck
theorem opw_B {f : Value->Value->Sem Value} {g : Int->Int->Bool} {op : Op2} (h : OpR X f (rI0 fun i j => .bl (g i j)))
  (hi : ∀ i j st, op (.int i) (.int j) st = .ok (.bl (g i j)) st) (ho : ∀ a b st, (∀ i j, ¬ (a = .int i/\b = .int j))->op a b st = .stuck) : OpW X f op := by
 intro QlP s σ H ι G st x y w1 w2 v u Q I sr rx ry r1 r2 q
 by_cases hw : ∃ i j, w1 = .int i/\w2 = .int j
 ·obtain ⟨i, j, rfl, rfl⟩ := hw
  cases r1; cases r2
  rw [hi] at q
  exact h QlP s σ H _ _ v u Q I rx ry ⟨i, j, rfl, rfl, q _ ι G H (Ext.refl _ _ _) sr (.bl _)⟩
 ·rw [ho _ _ _ fun i j z => hw ⟨i, j, z.1, z.2⟩] at q
  exact (show False from q).elim
theorem opw_le : OpW X (compareOp .LtE) yl := opw_B op_le (fun _ _ _ => rfl) fun a b st h => by
 cases a <;> cases b <;> first | rfl | exact absurd ⟨rfl, rfl⟩ (h _ _)
theorem opw_gt : OpW X (compareOp .Gt) kc := opw_B op_gt (fun _ _ _ => rfl) fun a b st h => by
 cases a <;> cases b <;> first | rfl | exact absurd ⟨rfl, rfl⟩ (h _ _)
theorem opw_lt : OpW X (compareOp .Lt) opLt := by
 intro QlP s σ H ι G st x y w1 w2 v u Q I sr rx ry r1 r2 q
 cases w1 with
 | int i =>
  cases w2 with
  | int j => cases r1; cases r2; exact op_lt QlP s σ H _ _ v u Q I rx ry ⟨i, j, rfl, rfl, q _ ι G H (Ext.refl _ _ _) sr (.bl _)⟩
  | _ => exact (show False from q).elim
 | str i =>
  cases w2 with
  | str j => cases r1; cases r2; exact QjJ QlP s σ H _ _ v u Q I rx ry ⟨i, j, rfl, rfl, q _ ι G H (Ext.refl _ _ _) sr (.bl _)⟩
  | _ => exact (show False from q).elim
 | _ => exact (show False from q).elim
def ia : W->Option V
 | .non => some .non
 | .bl b => some (.bl b)
 | .int i => some (.int i)
 | .str x => some (.str x)
 | _ => none
def tm : W->Bool
 | .tup _ => true
 | .lst _ => true
 | _ => false
def dh (f : W->W->Option Bool) : List W->List W->Option Bool
 | x :: xs, y :: ys => match f x y, dh f xs ys with
  | some a, some b => some (a && b)
  | _, _ => none
 | _, _ => some true
def eqD : Nat->W->W->Option Bool
 | 0, _, _ => none
 | n + 1, a, b => match ia a, ia b with
  | some x, some y => some (eqV x y)
  | some _, none => if tm b then some false else none
  | none, some _ => if tm a then some false else none
  | none, none => match a, b with
   | .tup xs, .tup ys => (dh (eqD n) xs ys).map fun r => r && xs.length == ys.length
   | .lst xs, .lst ys => if xs.length = ys.length then dh (eqD n) xs ys else some false
   | .tup _, .lst _ => some false
   | .lst _, .tup _ => some false
   | _, _ => none
theorem QaS {f : W->W->Option Bool} : ∀ {xs ys : List W} {r : Bool}, dh f xs ys = some r ->
  ∃ e : Nat->Bool, (∀ (j : Nat) x y, xs[j]? = some x->ys[j]? = some y->f x y = some (e j))/\(List.range (min xs.length ys.length)).all e = r
 | [], ys, r, h => by
  refine ⟨fun _ => true, fun j x y hx _ => by simp at hx, ?_⟩
  cases h
  simp
 | x :: xs, [], r, h => by
  refine ⟨fun _ => true, fun j x y _ hy => by simp at hy, ?_⟩
  cases h
  simp
 | x :: xs, y :: ys, r, h => by
  unfold dh at h
  cases e1 : f x y with
  | none => rw [e1] at h; cases h
  | some a =>
   cases e2 : dh f xs ys with
   | none => rw [e1, e2] at h; cases h
   | some b =>
    rw [e1, e2] at h
    obtain ⟨e, h1, h2⟩ := QaS e2
    refine ⟨fun j => match j with | 0 => a | j + 1 => e j, fun j x' y' hx hy => ?_, ?_⟩
    ·cases j with
     | zero => simp at hx hy; subst hx hy; exact e1
     | succ j => exact h1 j x' y' (by simpa using hx) (by simpa using hy)
    ·have em : min (x :: xs).length (y :: ys).length = min xs.length ys.length + 1 := by simp only [Qmg]; omega
     rw [em, List.range_succ_eq_map, List.all_cons, List.all_map]
     cases h
     show (a && (List.range (min xs.length ys.length)).all e) = (a && b)
     rw [h2]
theorem mh {K : PySem.W.Frag} {ι : Nat->Addr} {N : Nat} {G : Hp} {v x : V} {w : W} (r : RelW K ι N G v w) (h : ia w = some x) : v = x/\lr x = true := by
 cases r <;> first | (cases h; exact ⟨rfl, rfl⟩) | cases h
theorem Qbd {K : PySem.W.Frag} {ι : Nat->Addr} {N : Nat} {G : Hp} (inT : ∀ a xs ys, SqT K G a xs->SqT K G a ys->xs = ys) (inL : ∀ a xs ys, SqL K G a xs->SqL K G a ys->xs = ys) (ntl : ∀ a xs ys, SqT K G a xs->SqL K G a ys->False) :
  ∀ (n : Nat) {v : V} {w1 w2 : W} {b : Bool}, RelW K ι N G v w1->RelW K ι N G v w2->eqD n w1 w2 = some b->b = true
 | 0, _, _, _, _, _, _, h => by cases h
 | n + 1, v, w1, w2, b, r1, r2, h => by
  have items : ∀ {xs : List V} {ws1 ws2 : List W} {r : Bool}, RelWs K ι N G xs ws1->RelWs K ι N G xs ws2->dh (eqD n) ws1 ws2 = some r->r = true := by
   intro xs
   induction xs with
   | nil => intro ws1 ws2 r t1 t2 e; cases t1; cases t2; cases e; rfl
   | cons x xs ih =>
    intro ws1 ws2 r t1 t2 e
    cases t1 with
    | @cons _ w _ wt1 a1 t1 =>
     cases t2 with
     | @cons _ w' _ wt2 a2 t2 =>
      unfold dh at e
      cases e1 : eqD n w w' with
      | none => rw [e1] at e; cases e
      | some p =>
       cases e2 : dh (eqD n) wt1 wt2 with
       | none => rw [e1, e2] at e; cases e
       | some q =>
        rw [e1, e2] at e
        cases e
        rw [Qbd inT inL ntl n a1 a2 e1, ih t1 t2 e2]; rfl
  unfold eqD at h
  cases f1 : ia w1 with
  | some x =>
   obtain ⟨ex, fx⟩ := mh r1 f1
   cases f2 : ia w2 with
   | some y =>
    obtain ⟨ey, fy⟩ := mh r2 f2
    rw [f1, f2] at h
    have h' : some (eqV x y) = some b := h
    cases h'
    rw [<-ex, <-ey]
    exact QlA (by rw [ex]; exact fx)
   | none =>
    rw [f1, f2] at h
    cases r2 <;> first | (cases f2; done) | (subst ex; cases fx; done)
  | none =>
   cases f2 : ia w2 with
   | some y =>
    obtain ⟨ey, fy⟩ := mh r2 f2
    cases r1 <;> first | (cases f1; done) | (subst ey; cases fy; done)
   | none =>
    rw [f1, f2] at h
    cases r1 with
    | tup s1 c1 t1 =>
     rename_i a xs ws1
     cases w2 with
     | tup ws2 =>
      cases r2 with
      | tup s2 c2 t2 =>
       cases inT _ _ _ s1 s2
       have h' : (dh (eqD n) ws1 ws2).map (fun r => r && ws1.length == ws2.length) = some b := h
       cases e : dh (eqD n) ws1 ws2 with
       | none => rw [e] at h'; cases h'
       | some r =>
        rw [e] at h'
        cases h'
        rw [items t1 t2 e, <-t1.length, <-t2.length]
        simp
     | lst ws2 =>
      cases r2 with
      | lst s2 t2 => exact (ntl _ _ _ s1 s2).elim
     | _ => cases h
    | lst s1 t1 =>
     rename_i a xs ws1
     cases w2 with
     | lst ws2 =>
      cases r2 with
      | lst s2 t2 =>
       cases inL _ _ _ s1 s2
       have h' : (if ws1.length = ws2.length then dh (eqD n) ws1 ws2 else some false) = some b := h
       rw [Qmo (by rw [<-t1.length, <-t2.length])] at h'
       exact items t1 t2 h'
     | tup ws2 =>
      cases r2 with
      | tup s2 c2 t2 => exact (ntl _ _ _ s2 s1).elim
     | _ => cases h
    | _ => first | (cases f1; done) | (cases w2 <;> cases h)
end
section
variable {X : Cx}
def EqB (A : Around) (s : Shared) (u v : Value) (b : Bool) : Prop := SeqAt.EqAt A s u v b/\SeqAt.RcAt A s u v b/\SeqAt.RcNeAt A s u v (!b)
theorem eqB_V {A : Around} {s : Shared} {y x : V} {u v : Value} (ry : aq y u) (rx : aq x v) (fy : lr y = true) (fx : lr x = true) : EqB A s u v (eqV y x) := by
 refine ⟨eqAt_V ry rx fy fx, ?_⟩
 cases y with
 | non =>
  cases ry
  cases x with
  | non => cases rx; exact ⟨SeqAt.RcAt.none_none, SeqAt.RcNeAt.none_none⟩
  | bl b => cases rx; exact ⟨SeqAt.RcAt.none_bool b, SeqAt.RcNeAt.none_bool b⟩
  | int b => obtain ⟨t, rfl⟩ := rx; exact ⟨SeqAt.RcAt.none_int b t, SeqAt.RcNeAt.none_int b t⟩
  | str b => obtain ⟨t, rfl⟩ := rx; exact ⟨SeqAt.RcAt.none_str b t, SeqAt.RcNeAt.none_str b t⟩
  | _ => exact absurd (show false = true from fx) QlQ
 | bl a =>
  cases ry
  cases x with
  | non => cases rx; exact ⟨SeqAt.RcAt.bool_none a, SeqAt.RcNeAt.bool_none a⟩
  | bl b => cases rx; exact ⟨SeqAt.RcAt.bool_bool a b, SeqAt.RcNeAt.bool_bool a b⟩
  | int b => obtain ⟨t, rfl⟩ := rx; exact ⟨SeqAt.RcAt.bool_int a b t, SeqAt.RcNeAt.bool_int a b t⟩
  | str b => obtain ⟨t, rfl⟩ := rx; exact ⟨SeqAt.RcAt.bool_str a b t, SeqAt.RcNeAt.bool_str a b t⟩
  | _ => exact absurd (show false = true from fx) QlQ
 | int a =>
  obtain ⟨t', rfl⟩ := ry
  cases x with
  | non => cases rx; exact ⟨SeqAt.RcAt.int_none a t', SeqAt.RcNeAt.int_none a t'⟩
  | bl b => cases rx; exact ⟨SeqAt.RcAt.int_bool a t' b, SeqAt.RcNeAt.int_bool a t' b⟩
  | int b => obtain ⟨t, rfl⟩ := rx; exact ⟨SeqAt.RcAt.int_int a t' b t, SeqAt.RcNeAt.int_int a t' b t⟩
  | str b => obtain ⟨t, rfl⟩ := rx; exact ⟨SeqAt.RcAt.int_str a t' b t, SeqAt.RcNeAt.int_str a t' b t⟩
  | _ => exact absurd (show false = true from fx) QlQ
 | str a =>
  obtain ⟨t', rfl⟩ := ry
  cases x with
  | non => cases rx; exact ⟨SeqAt.RcAt.str_none a t', SeqAt.RcNeAt.str_none a t'⟩
  | bl b => cases rx; exact ⟨SeqAt.RcAt.str_bool a t' b, SeqAt.RcNeAt.str_bool a t' b⟩
  | int b => obtain ⟨t, rfl⟩ := rx; exact ⟨SeqAt.RcAt.str_int a t' b t, SeqAt.RcNeAt.str_int a t' b t⟩
  | str b => obtain ⟨t, rfl⟩ := rx; exact ⟨SeqAt.RcAt.str_str a t' b t, SeqAt.RcNeAt.str_str a t' b t⟩
  | _ => exact absurd (show false = true from fx) QlQ
 | _ => exact absurd (show false = true from fy) QlQ
section
variable {A : Around} {s : Shared} {y : V} {u : Value} {l : Addr} {items : Array Value}
theorem Qhy (ry : aq y u) (fy : lr y = true) (hl : s.heap.IsList l items) (hu : A.units < cLine) : EqB A s u (.ref l) false := by
 cases y with
 | non => cases ry; exact ⟨SeqAt.EqAt.none_list hl hu, SeqAt.RcAt.none_list hl hu, SeqAt.RcNeAt.none_list hl hu⟩
 | bl b => cases ry; exact ⟨SeqAt.EqAt.bool_list b hl hu, SeqAt.RcAt.bool_list b hl hu, SeqAt.RcNeAt.bool_list b hl hu⟩
 | int b => obtain ⟨t, rfl⟩ := ry; exact ⟨SeqAt.EqAt.int_list b t hl hu, SeqAt.RcAt.int_list b t hl hu, SeqAt.RcNeAt.int_list b t hl hu⟩
 | str b => obtain ⟨t, rfl⟩ := ry; exact ⟨SeqAt.EqAt.str_list b t hl hu, SeqAt.RcAt.str_list b t hl hu, SeqAt.RcNeAt.str_list b t hl hu⟩
 | _ => exact absurd (show false = true from fy) QlQ
theorem Qhx (ry : aq y u) (fy : lr y = true) (hl : s.heap.IsList l items) (hu : A.units < cLine) : EqB A s (.ref l) u false := by
 cases y with
 | non => cases ry; exact ⟨SeqAt.EqAt.list_none hl hu, SeqAt.RcAt.list_none hl hu, SeqAt.RcNeAt.list_none hl hu⟩
 | bl b => cases ry; exact ⟨SeqAt.EqAt.list_bool b hl hu, SeqAt.RcAt.list_bool b hl hu, SeqAt.RcNeAt.list_bool b hl hu⟩
 | int b => obtain ⟨t, rfl⟩ := ry; exact ⟨SeqAt.EqAt.list_int b t hl hu, SeqAt.RcAt.list_int b t hl hu, SeqAt.RcNeAt.list_int b t hl hu⟩
 | str b => obtain ⟨t, rfl⟩ := ry; exact ⟨SeqAt.EqAt.list_str b t hl hu, SeqAt.RcAt.list_str b t hl hu, SeqAt.RcNeAt.list_str b t hl hu⟩
 | _ => exact absurd (show false = true from fy) QlQ
theorem Qhm (ry : aq y u) (fy : lr y = true) (hl : s.heap.IsTuple l items) (hu : A.units < cLine) : EqB A s u (.ref l) false := by
 cases y with
 | non => cases ry; exact ⟨SeqAt.EqAt.none_tuple hl hu, SeqAt.RcAt.none_tuple hl hu, SeqAt.RcNeAt.none_tuple hl hu⟩
 | bl b => cases ry; exact ⟨SeqAt.EqAt.bool_tuple b hl hu, SeqAt.RcAt.bool_tuple b hl hu, SeqAt.RcNeAt.bool_tuple b hl hu⟩
 | int b => obtain ⟨t, rfl⟩ := ry; exact ⟨SeqAt.EqAt.int_tuple b t hl hu, SeqAt.RcAt.int_tuple b t hl hu, SeqAt.RcNeAt.int_tuple b t hl hu⟩
 | str b => obtain ⟨t, rfl⟩ := ry; exact ⟨SeqAt.EqAt.str_tuple b t hl hu, SeqAt.RcAt.str_tuple b t hl hu, SeqAt.RcNeAt.str_tuple b t hl hu⟩
 | _ => exact absurd (show false = true from fy) QlQ
theorem Qhl (ry : aq y u) (fy : lr y = true) (hl : s.heap.IsTuple l items) (hu : A.units < cLine) : EqB A s (.ref l) u false := by
 cases y with
 | non => cases ry; exact ⟨SeqAt.EqAt.tuple_none hl hu, SeqAt.RcAt.tuple_none hl hu, SeqAt.RcNeAt.tuple_none hl hu⟩
 | bl b => cases ry; exact ⟨SeqAt.EqAt.tuple_bool b hl hu, SeqAt.RcAt.tuple_bool b hl hu, SeqAt.RcNeAt.tuple_bool b hl hu⟩
 | int b => obtain ⟨t, rfl⟩ := ry; exact ⟨SeqAt.EqAt.tuple_int b t hl hu, SeqAt.RcAt.tuple_int b t hl hu, SeqAt.RcNeAt.tuple_int b t hl hu⟩
 | str b => obtain ⟨t, rfl⟩ := ry; exact ⟨SeqAt.EqAt.tuple_str b t hl hu, SeqAt.RcAt.tuple_str b t hl hu, SeqAt.RcNeAt.tuple_str b t hl hu⟩
 | _ => exact absurd (show false = true from fy) QlQ
end
section
variable {QlP : List (Addr × Obj)} {σ : St} {H : Hp} {s : Shared} {ι : Nat->Addr} {N : Nat}
theorem list_inj (I : Inv X QlP σ H s) {a : Addr} {xs ys : List V} (h1 : SqL X.K H a xs) (h2 : SqL X.K H a ys) : xs = ys := by
 obtain ⟨its, r, pl, _⟩ := I.list h1
 obtain ⟨its2, r2, pl2, _⟩ := I.list h2
 obtain ⟨o, n, e, _, _, d⟩ := pl
 obtain ⟨o2, n2, e2, _, _, d2⟩ := pl2
 rw [e] at e2; cases e2
 rw [d] at d2; cases d2
 exact r.inj r2
theorem qw (I : Inv X QlP σ H s) {a : Addr} {xs ys : List V} (h1 : SqT X.K H a xs) (h2 : SqL X.K H a ys) : False := by
 obtain ⟨its, r, pl, _⟩ := I.tuple h1
 obtain ⟨its2, r2, pl2, _⟩ := I.list h2
 obtain ⟨o, e, c, _⟩ := pl
 obtain ⟨o2, n2, e2, c2, _, _⟩ := pl2
 rw [e] at e2; cases e2
 rw [c] at c2
 injection c2 with h
 exact absurd h (by decide)
theorem ya (I : Inv X QlP σ H s) : ∀ (n : Nat) {w1 w2 : W} {b : Bool} {v1 v2 : V} {u1 u2 : Value} {A : Around}, eqD n w1 w2 = some b->RelW X.K ι N H v1 w1->RelW X.K ι N H v2 w2->aq v1 u1->aq v2 u2->A.units + n < cLine->EqB A s u1 u2 b
 | 0, _, _, _, _, _, _, _, _, h, _, _, _, _, _ => by cases h
 | n + 1, w1, w2, b, v1, v2, u1, u2, A, h, r1, r2, q1, q2, hA => by
  have hA1 : A.units < cLine := by omega
  have its_at : ∀ {xs ys : List V} {ws1 ws2 : List W} {its its2 : List Value} {e : Nat->Bool}, RelWs X.K ι N H xs ws1->RelWs X.K ι N H ys ws2->bb xs its->bb ys its2->(∀ (j : Nat) x y, ws1[j]? = some x->ws2[j]? = some y->eqD n x y = some (e j)) ->
    ∀ j (h1 : j < its.toArray.size) (h2 : j < its2.toArray.size), SeqAt.EqAt A.in1 s its.toArray[j] its2.toArray[j] (e j) := by
   intro xs ys ws1 ws2 its its2 e t1 t2 p1 p2 he j h1 h2
   have h1' : j < its.length := by simpa using h1
   have h2' : j < its2.length := by simpa using h2
   obtain ⟨x', ex, rx⟩ := p1.at h1'
   obtain ⟨y', ey, ry⟩ := p2.at h2'
   obtain ⟨w, ew, rw1⟩ := t1.get' ex
   obtain ⟨w', ew', rw2⟩ := t2.get' ey
   have z1 : its.toArray[j] = its[j] := by simp
   have z2 : its2.toArray[j] = its2[j] := by simp
   rw [z1, z2]
   exact (ya I n (A := A.in1) (he j w w' ew ew') rw1 rw2 rx ry (by show A.units + 1 + n < cLine; omega)).1
  have keep := h
  unfold eqD at h
  cases f1 : ia w1 with
  | some x =>
   obtain ⟨ex, fx⟩ := mh r1 f1
   subst ex
   cases f2 : ia w2 with
   | some y =>
    obtain ⟨ey, fy⟩ := mh r2 f2
    subst ey
    rw [f1, f2] at h
    have h' : some (eqV v1 v2) = some b := h
    cases h'
    exact eqB_V q1 q2 fx fy
   | none =>
    rw [f1, f2] at h
    have h' : (if tm w2 then some false else none) = some b := h
    cases r2 with
    | tup s2 c2 t2 =>
     cases h'
     cases q2
     obtain ⟨its, _, pl, _⟩ := I.tuple s2
     exact Qhm q1 fx pl hA1
    | lst s2 t2 =>
     cases h'
     cases q2
     obtain ⟨its, _, pl, _⟩ := I.list s2
     exact Qhy q1 fx pl.isList hA1
    | _ => first | (cases f2; done) | (cases h'; done)
  | none =>
   cases f2 : ia w2 with
   | some y =>
    obtain ⟨ey, fy⟩ := mh r2 f2
    subst ey
    rw [f1, f2] at h
    have h' : (if tm w1 then some false else none) = some b := h
    cases r1 with
    | tup s1 c1 t1 =>
     cases h'
     cases q1
     obtain ⟨its, _, pl, _⟩ := I.tuple s1
     exact Qhl q2 fy pl hA1
    | lst s1 t1 =>
     cases h'
     cases q1
     obtain ⟨its, _, pl, _⟩ := I.list s1
     exact Qhx q2 fy pl.isList hA1
    | _ => first | (cases f1; done) | (cases h'; done)
   | none =>
    rw [f1, f2] at h
    cases r1 with
    | tup s1 c1 t1 =>
     rename_i a xs ws1
     cases q1
     obtain ⟨its, p1, pl1, _⟩ := I.tuple s1
     cases w2 with
     | tup ws2 =>
      cases r2 with
      | tup s2 c2 t2 =>
       rename_i a2 ys
       cases q2
       obtain ⟨its2, p2, pl2, _⟩ := I.tuple s2
       have h' : (dh (eqD n) ws1 ws2).map (fun r => r && ws1.length == ws2.length) = some b := h
       cases e : dh (eqD n) ws1 ws2 with
       | none => rw [e] at h'; cases h'
       | some r =>
        rw [e] at h'
        obtain ⟨ef, he1, he2⟩ := QaS e
        have l1 : ws1.length = its.toArray.size := by rw [QlW, <-p1.length, t1.length]
        have l2 : ws2.length = its2.toArray.size := by rw [QlW, <-p2.length, t2.length]
        have eb : b = ((List.range (min its.toArray.size its2.toArray.size)).all ef && its.toArray.size == its2.toArray.size) := by
         cases h'
         rw [<-l1, <-l2, he2]
        have at1 := its_at t1 t2 p1 p2 he1
        have rc : SeqAt.RcAt A s (.ref a) (.ref a2) b := by
         rw [eb]
         exact SeqAt.RcAt.tuples (e := ef) pl1 pl2 hA1 at1
        refine ⟨?_, rc, ?_⟩
        ·by_cases ha : a = a2
         ·subst ha
          have ht : b = true := Qbd (fun a xs ys h1 h2 => I.tuple_inj h1 h2) (fun a xs ys h1 h2 => list_inj I h1 h2) (fun a xs ys h1 h2 => qw I h1 h2) (n + 1) (.tup s1 c1 t1) (.tup s2 c2 t2) keep
          rw [ht]; exact SeqAt.EqAt.same _
         ·exact SeqAt.EqAt.of_refs ha rc
        ·rw [eb]
         exact SeqAt.RcNeAt.tuples (e := ef) pl1 pl2 hA1 at1
     | lst ws2 =>
      cases r2 with
      | lst s2 t2 =>
       cases q2
       cases h
       obtain ⟨its2, p2, pl2, _⟩ := I.list s2
       exact ⟨SeqAt.EqAt.tuple_list pl1 pl2.isList hA1, SeqAt.RcAt.tuple_list pl1 pl2.isList hA1, SeqAt.RcNeAt.tuple_list pl1 pl2.isList hA1⟩
     | _ => cases h
    | lst s1 t1 =>
     rename_i a xs ws1
     cases q1
     obtain ⟨its, p1, pl1, _⟩ := I.list s1
     cases w2 with
     | lst ws2 =>
      cases r2 with
      | lst s2 t2 =>
       rename_i a2 ys
       cases q2
       obtain ⟨its2, p2, pl2, _⟩ := I.list s2
       have l1 : ws1.length = its.toArray.size := by rw [QlW, <-p1.length, t1.length]
       have l2 : ws2.length = its2.toArray.size := by rw [QlW, <-p2.length, t2.length]
       have h' : (if ws1.length = ws2.length then dh (eqD n) ws1 ws2 else some false) = some b := h
       by_cases hl : ws1.length = ws2.length
       ·rw [Qmo hl] at h'
        obtain ⟨ef, he1, he2⟩ := QaS h'
        have hsz : its.toArray.size = its2.toArray.size := by rw [<-l1, <-l2, hl]
        have eb : b = (List.range its.toArray.size).all ef := by
         rw [<-he2, <-l1, <-hl, Nat.min_self]
        have at1 := its_at t1 t2 p1 p2 he1
        have rc : SeqAt.RcAt A s (.ref a) (.ref a2) b := by
         rw [eb]
         exact SeqAt.RcAt.lists (e := ef) pl1.isList pl2.isList hsz hA1 at1
        refine ⟨?_, rc, ?_⟩
        ·by_cases ha : a = a2
         ·subst ha
          have ht : b = true := Qbd (fun a xs ys h1 h2 => I.tuple_inj h1 h2) (fun a xs ys h1 h2 => list_inj I h1 h2) (fun a xs ys h1 h2 => qw I h1 h2) (n + 1) (.lst s1 t1) (.lst s2 t2) keep
          rw [ht]; exact SeqAt.EqAt.same _
         ·exact SeqAt.EqAt.of_refs ha rc
        ·rw [eb]
         exact SeqAt.RcNeAt.lists (e := ef) pl1.isList pl2.isList hsz hA1 at1
       ·rw [Qmp hl] at h'
        cases h'
        have hsz : (its.toArray.size != its2.toArray.size) = true := by
         rw [<-l1, <-l2]; simpa using hl
        have rc : SeqAt.RcAt A s (.ref a) (.ref a2) false := SeqAt.RcAt.lists_lengths pl1.isList pl2.isList hsz hA1
        refine ⟨SeqAt.EqAt.of_refs (fun ha => ?_) rc, rc, SeqAt.RcNeAt.lists_lengths pl1.isList pl2.isList hsz hA1⟩
        subst ha
        have := list_inj I s1 s2
        subst this
        exact hl (by rw [<-t1.length, <-t2.length])
     | tup ws2 =>
      cases r2 with
      | tup s2 c2 t2 =>
       cases q2
       cases h
       obtain ⟨its2, p2, pl2, _⟩ := I.tuple s2
       exact ⟨SeqAt.EqAt.list_tuple pl1.isList pl2 hA1, SeqAt.RcAt.list_tuple pl1.isList pl2 hA1, SeqAt.RcNeAt.list_tuple pl1.isList pl2 hA1⟩
     | _ => cases h
    | _ => first | (cases f1; done) | (cases w2 <;> cases h)
end
theorem SR.look {K : PySem.W.Frag} {ι : Nat->Addr} {st : S} {G H : Hp} (h : SR K ι st G H) : Ext ι st.nxt G ι st.nxt H := ⟨QlX _, fun _ _ => rfl, h.sub⟩
def inStr (i j : Str) : Bool := !(Builtin.Str.occurrences j i 0 j.length 1).isEmpty
def inD (x : W) : List W->Option Bool
 | [] => some false
 | y :: ys => match eqD 12 y x, inD x ys with
  | some a, some b => some (a || b)
  | _, _ => none
def eo (st : S) : W->Option (List W)
 | .lst xs => some xs
 | .tup xs => some xs
 | .ref n => MO.items (st.mu n)
 | _ => none
def inW (st : S) (a b : W) : Option Bool := match a, b with
 | .str i, .str j => some (inStr i j)
 | x, y => match eo st y with
  | some ys => inD x ys
  | none => none
def Qas : Op2 := fun a b st => match inW st a b with
 | some r => .ok (.bl r) st
 | none => .stuck
def QeD : Op2 := fun a b st => match inW st a b with
 | some r => .ok (.bl (!r)) st
 | none => .stuck
theorem qp {K : PySem.W.Frag} {ι : Nat->Addr} {st : S} {G H : Hp} {v : V} {w : W} {ws : List W} (sr : SR K ι st G H) (r : RelW K ι st.nxt G v w) (h : eo st w = some ws) : ∃ a xs, v = .ref a/\(SqL K H a xs\/SqT K H a xs)/\RelWs K ι st.nxt G xs ws := by
 cases r with
 | tup s1 c1 t1 => cases h; exact ⟨_, _, rfl, .inr (sqT_same sr.sub s1), t1⟩
 | lst s1 t1 => cases h; exact ⟨_, _, rfl, .inl (sr.sub.seq s1), t1⟩
 | ref hn =>
  rename_i n
  have h : MO.items (st.mu n) = some ws := h
  cases e : st.mu n with
  | none => rw [e] at h; cases h
  | some o =>
   obtain ⟨_, _, h3⟩ := sr.live n o e
   cases o with
   | lst xs =>
    rw [e] at h
    cases h
    obtain ⟨vs, q, r⟩ := h3
    exact ⟨_, vs, rfl, .inl (SqL.of q), r⟩
   | dct ks vs => rw [e] at h; cases h
 | _ => cases h
theorem QfM {K : PySem.W.Frag} {ι : Nat->Addr} {N : Nat} {G : Hp} (inT : ∀ a xs ys, SqT K G a xs->SqT K G a ys->xs = ys) (inL : ∀ a xs ys, SqL K G a xs->SqL K G a ys->xs = ys) (ntl : ∀ a xs ys, SqT K G a xs->SqL K G a ys->False) :
  ∀ (n : Nat) {v : V} {w w' x : W} {c c' : Bool}, RelW K ι N G v w->RelW K ι N G v w'->eqD n w x = some c->eqD n w' x = some c'->c = c'
 | 0, _, _, _, _, _, _, _, _, h, _ => by cases h
 | n + 1, v, w, w', x, c, c', r1, r2, h1, h2 => by
  have items : ∀ {vs : List V} {ws1 ws2 ys : List W} {r r' : Bool}, RelWs K ι N G vs ws1->RelWs K ι N G vs ws2->dh (eqD n) ws1 ys = some r->dh (eqD n) ws2 ys = some r'->r = r' := by
   intro vs
   induction vs with
   | nil => intro ws1 ws2 ys r r' t1 t2 e e'; cases t1; cases t2; rw [e] at e'; exact Qmu e'
   | cons x xs ih =>
    intro ws1 ws2 ys r r' t1 t2 e e'
    cases t1 with
    | @cons _ w1 _ wt1 a1 t1 =>
     cases t2 with
     | @cons _ w2 _ wt2 a2 t2 =>
      cases ys with
      | nil => cases e; cases e'; rfl
      | cons y ys =>
       unfold dh at e e'
       cases e1 : eqD n w1 y with
       | none => rw [e1] at e; cases e
       | some p =>
        cases e2 : dh (eqD n) wt1 ys with
        | none => rw [e1, e2] at e; cases e
        | some q =>
         cases e3 : eqD n w2 y with
         | none => rw [e3] at e'; cases e'
         | some p' =>
          cases e4 : dh (eqD n) wt2 ys with
          | none => rw [e3, e4] at e'; cases e'
          | some q' =>
           rw [e1, e2] at e
           rw [e3, e4] at e'
           cases e; cases e'
           rw [QfM inT inL ntl n a1 a2 e1 e3, ih t1 t2 e2 e4]
  unfold eqD at h1 h2
  cases f1 : ia w with
  | some y =>
   obtain ⟨ey, fy⟩ := mh r1 f1
   cases f2 : ia w' with
   | some z =>
    obtain ⟨ez, fz⟩ := mh r2 f2
    have : y = z := by rw [<-ey, <-ez]
    subst this
    cases f3 : ia x with
    | some z =>
     rw [f1, f3] at h1; rw [f2, f3] at h2
     have g1 : some (eqV y z) = some c := h1
     have g2 : some (eqV y z) = some c' := h2
     rw [g1] at g2; exact Qmu g2
    | none =>
     rw [f1, f3] at h1; rw [f2, f3] at h2
     have g1 : (if tm x then some false else none) = some c := h1
     have g2 : (if tm x then some false else none) = some c' := h2
     rw [g1] at g2; exact Qmu g2
   | none => cases r2 <;> first | (cases f2; done) | (subst ey; cases fy; done)
  | none =>
   cases f2 : ia w' with
   | some z =>
    obtain ⟨ez, fz⟩ := mh r2 f2
    cases r1 <;> first | (cases f1; done) | (subst ez; cases fz; done)
   | none =>
    rw [f1] at h1; rw [f2] at h2
    cases r1 with
    | tup s1 c1 t1 =>
     rename_i a xs ws1
     cases w' with
     | tup ws2 =>
      cases r2 with
      | tup s2 c2 t2 =>
       cases inT _ _ _ s1 s2
       cases f3 : ia x with
       | some z => rw [f3] at h1 h2; cases h1; cases h2; rfl
       | none =>
        rw [f3] at h1 h2
        cases x with
        | tup ys =>
         have g1 : (dh (eqD n) ws1 ys).map (fun r => r && ws1.length == ys.length) = some c := h1
         have g2 : (dh (eqD n) ws2 ys).map (fun r => r && ws2.length == ys.length) = some c' := h2
         cases e1 : dh (eqD n) ws1 ys with
         | none => rw [e1] at g1; cases g1
         | some p =>
          cases e2 : dh (eqD n) ws2 ys with
          | none => rw [e2] at g2; cases g2
          | some q =>
           rw [e1] at g1; rw [e2] at g2
           cases g1; cases g2
           rw [items t1 t2 e1 e2, <-t1.length, <-t2.length]
        | lst ys => cases h1; cases h2; rfl
        | _ => cases h1
     | lst ws2 => cases r2 with | lst s2 t2 => exact (ntl _ _ _ s1 s2).elim
     | _ => first | (cases f2; done) | (cases f3 : ia x <;> rw [f3] at h2 <;> first | (cases h2; done) | (cases x <;> cases h2))
    | lst s1 t1 =>
     rename_i a xs ws1
     cases w' with
     | lst ws2 =>
      cases r2 with
      | lst s2 t2 =>
       cases inL _ _ _ s1 s2
       cases f3 : ia x with
       | some z => rw [f3] at h1 h2; cases h1; cases h2; rfl
       | none =>
        rw [f3] at h1 h2
        cases x with
        | lst ys =>
         have g1 : (if ws1.length = ys.length then dh (eqD n) ws1 ys else some false) = some c := h1
         have g2 : (if ws2.length = ys.length then dh (eqD n) ws2 ys else some false) = some c' := h2
         have hl : ws1.length = ws2.length := by rw [<-t1.length, <-t2.length]
         rw [<-hl] at g2
         by_cases hy : ws1.length = ys.length
         ·rw [Qmo hy] at g1 g2
          exact items t1 t2 g1 g2
         ·rw [Qmp hy] at g1 g2
          cases g1; cases g2; rfl
        | tup ys => cases h1; cases h2; rfl
        | _ => cases h1
     | tup ws2 => cases r2 with | tup s2 c2 t2 => exact (ntl _ _ _ s2 s1).elim
     | _ => first | (cases f2; done) | (cases f3 : ia x <;> rw [f3] at h2 <;> first | (cases h2; done) | (cases x <;> cases h2))
    | _ => first | (cases f1; done) | (cases f3 : ia x <;> rw [f3] at h1 <;> first | (cases h1; done) | (cases x <;> cases h1))
theorem Qbo {QlP : List (Addr × Obj)} {σ : St} {H : Hp} {s : Shared} {ι : Nat->Addr} {N : Nat} {A : Around} {x : W} {vx : V} {ux : Value} (I : Inv X QlP σ H s) (rx : RelW X.K ι N H vx x) (qx : aq vx ux) (hA : A.units + 12 < cLine) :
  ∀ {ws : List W} {vs : List V} {us : List Value} {b : Bool}, inD x ws = some b->RelWs X.K ι N H vs ws->bb vs us ->
   ∃ e : Value->Bool, (∀ u ∈ us, SeqAt.EqAt A s u ux (e u))/\us.any e = b/\∀ (j : Nat) v u w, vs[j]? = some v->us[j]? = some u->ws[j]? = some w->eqD 12 w x = some (e u) := by
 intro ws
 induction ws with
 | nil => intro vs us b h t q; cases t; cases q; cases h; exact ⟨fun _ => false, fun u hu => (by cases hu), rfl, fun j v u w hv => (by simp at hv)⟩
 | cons w ws ih =>
  intro vs us b h t q
  cases t with
  | cons r t =>
   cases q with
   | cons qv q =>
    rename_i v vs u us
    unfold inD at h
    cases e1 : eqD 12 w x with
    | none => rw [e1] at h; cases h
    | some a =>
     cases e2 : inD x ws with
     | none => rw [e1, e2] at h; cases h
     | some c =>
      rw [e1, e2] at h
      obtain ⟨e, h1, h2, h3⟩ := ih e2 t q
      have at1 := (ya I 12 (A := A) e1 r rx qv qx hA).1
      have keep : ∀ u' ∈ us, u' = u->e u' = a := fun u' hu hue => by
       obtain ⟨j, hj, ej⟩ := List.mem_iff_getElem.mp hu
       have g1 : us[j]? = some u' := by rw [QlR hj, ej]
       obtain ⟨v', gv, rv'⟩ := bb.at q hj
       obtain ⟨w', gw, rw'⟩ := t.get' gv
       have d := h3 j v' u' w' gv g1 gw
       rw [ej, hue] at rv'
       have ev : v' = v := rv'.inj qv
       subst ev
       exact QfM (fun a xs ys h1 h2 => I.tuple_inj h1 h2) (fun a xs ys h1 h2 => list_inj I h1 h2) (fun a xs ys h1 h2 => qw I h1 h2) 12 rw' r d e1
      refine ⟨fun z => if z = u then a else e z, fun z hz => ?_, ?_, fun j v' u' w' hv hu hw => ?_⟩
      ·by_cases hzu : z = u
       ·(try dsimp only); rw [Qmo hzu, hzu]; exact at1
       ·(try dsimp only); rw [Qmp hzu]
        rcases List.mem_cons.mp hz with hz | hz
        ·exact absurd hz hzu
        ·exact h1 z hz
      ·rw [List.any_cons, Qmo rfl]
       have e3 : us.any (fun z => if z = u then a else e z) = us.any e := by
        rw [Bool.eq_iff_iff, List.any_eq_true, List.any_eq_true]
        constructor
        ·rintro ⟨z, hz, hq⟩
         refine ⟨z, hz, ?_⟩
         by_cases hzu : z = u
         ·rw [Qmo hzu] at hq; rw [keep z hz hzu]; exact hq
         ·rw [Qmp hzu] at hq; exact hq
        ·rintro ⟨z, hz, hq⟩
         refine ⟨z, hz, ?_⟩
         by_cases hzu : z = u
         ·rw [Qmo hzu, <-keep z hz hzu]; exact hq
         ·rw [Qmp hzu]; exact hq
       rw [e3, h2]
       cases h; rfl
      ·cases j with
       | zero =>
        simp at hv hu hw
        subst hv hu hw
        (try dsimp only); rw [Qmo rfl]; exact e1
       | succ j =>
        have hv' : vs[j]? = some v' := by simpa using hv
        have hu' : us[j]? = some u' := by simpa using hu
        have hw' : ws[j]? = some w' := by simpa using hw
        have d := h3 j v' u' w' hv' hu' hw'
        dsimp only
        by_cases hzu : u' = u
        ·rw [Qmo hzu, <-keep u' (List.mem_of_getElem? hu') hzu]; exact d
        ·rw [Qmp hzu]; exact d
theorem Qfx {neg : Bool} {op : CmpOp} {o : Op2} (ho : o = fun a b st => match inW st a b with | some r => .ok (.bl (if neg then !r else r)) st | none => .stuck)
  (hs : OpR X (compareOp op) (fun x y H Q => ∃ i j, x = .str i/\y = .str j/\Q (.bl (if neg then !(!(Builtin.Str.occurrences j i 0 j.length 1).isEmpty) else (!(Builtin.Str.occurrences j i 0 j.length 1).isEmpty))) H))
  (hl : ∀ {s : Shared} {l : Addr} {items : Array Value} {x : Value} {Q : Value->Shared->Prop} (e : Value->Bool), s.heap.IsList l items->(∀ y, y ∈ items->SeqAt.EqAt X.A.in1 s y x (e y))->Q (.bool (if neg then !items.any e else items.any e)) s->wpAny (model X.prog X.w) X.A (compareOp op x (.ref l)) Q X.xe s)
  (ht : ∀ {s : Shared} {l : Addr} {items : Array Value} {x : Value} {Q : Value->Shared->Prop} (e : Value->Bool), s.heap.IsTuple l items->(∀ y, y ∈ items->SeqAt.EqAt X.A.in1 s y x (e y))->Q (.bool (if neg then !items.any e else items.any e)) s->wpAny (model X.prog X.w) X.A (compareOp op x (.ref l)) Q X.xe s)
  (hu : X.A.units + 64 < cLine) : OpW X (compareOp op) o := by
 subst ho
 intro QlP s σ H ι G st x y w1 w2 v u Q I sr rx ry r1 r2 q
 dsimp only at q
 cases e : inW st w1 w2 with
 | none => rw [e] at q; exact (show False from q).elim
 | some b =>
  rw [e] at q
  have qq : ∀ (H' : Hp), H' = H->Q (.bl (if neg then !b else b)) H' := fun H' hh => by rw [hh]; exact q _ ι G H (Ext.refl _ _ _) sr (.bl _)
  have seq : ∀ {ys : List W}, eo st w2 = some ys->inD w1 ys = some b->wpAny (model X.prog X.w) X.A (compareOp op v u) (EP X QlP σ Q) X.xe s := by
   intro ys hi hd
   obtain ⟨a, xs, ea, hq, t⟩ := qp sr r2 hi
   subst ea
   cases ry
   rcases hq with hq | hq
   ·obtain ⟨its, r, pl, hz⟩ := I.list hq
    obtain ⟨f, h1, h2, _⟩ := Qbo (A := X.A.in1) I (r1.mono sr.look) rx (by show X.A.units + 1 + 12 < cLine; omega) hd (t.mono sr.look) r
    refine hl f pl.isList (fun w hw => h1 w (by simpa using hw)) ⟨.bl (if neg then !b else b), H, I, ?_, qq H rfl⟩
    rw [show its.toArray.any f = its.any f by simp, h2]; rfl
   ·obtain ⟨its, r, pl, hz⟩ := I.tuple hq
    obtain ⟨f, h1, h2, _⟩ := Qbo (A := X.A.in1) I (r1.mono sr.look) rx (by show X.A.units + 1 + 12 < cLine; omega) hd (t.mono sr.look) r
    refine ht f pl (fun w hw => h1 w (by simpa using hw)) ⟨.bl (if neg then !b else b), H, I, ?_, qq H rfl⟩
    rw [show its.toArray.any f = its.any f by simp, h2]; rfl
  by_cases hb : ∃ i j, w1 = .str i/\w2 = .str j
  ·obtain ⟨i, j, rfl, rfl⟩ := hb
   cases r1; cases r2
   have e' : some (inStr i j) = some b := e
   cases e'
   exact hs QlP s σ H _ _ v u Q I rx ry ⟨i, j, rfl, rfl, qq H rfl⟩
  ·have e' : (match eo st w2 with | some ys => inD w1 ys | none => none) = some b := by
    rw [<-e]
    unfold inW
    cases w1 <;> cases w2 <;> first | rfl | exact absurd ⟨_, _, rfl, rfl⟩ hb
   cases hi : eo st w2 with
   | none => rw [hi] at e'; cases e'
   | some ys => rw [hi] at e'; exact seq hi e'
theorem opw_in0 (hu : X.A.units + 64 < cLine) : OpW X (compareOp .In) Qas := Qfx (neg := false) rfl QjK (fun e h1 h2 h3 => SeqAt.in_listAt e h1 h2 h3) (fun e h1 h2 h3 => SeqAt.in_tupleAt e h1 h2 h3) hu
theorem QiK (hu : X.A.units + 64 < cLine) : OpW X (compareOp .NotIn) QeD := Qfx (neg := true) rfl QhM (fun e h1 h2 h3 => SeqAt.notIn_listAt e h1 h2 h3) (fun e h1 h2 h3 => SeqAt.notIn_tupleAt e h1 h2 h3) hu
end
section
variable {X : Cx}
def pd : Op2 := fun a b st => match b with
 | .int i => match a with
  | .str z => if z.length<=sizeLine then (match atI z.cps.toList i with | some c => .ok (.str ⟨#[c]⟩) st | none => .stuck) else .stuck
  | a => match eo st a with
   | some ws => (match atI ws i with | some w => .ok w st | none => .stuck)
   | none => .stuck
 | _ => .stuck
theorem atI_rel {K : PySem.W.Frag} {ι : Nat->Addr} {N : Nat} {G : Hp} {xs : List V} {ws : List W} {i : Int} {w : W} (t : RelWs K ι N G xs ws) (h : atI ws i = some w) : ∃ v, atI xs i = some v/\RelW K ι N G v w := by
 unfold atI at h ⊢
 rw [t.length]
 cases e : ixN ws.length i with
 | none => rw [e] at h; cases h
 | some j =>
  rw [e] at h
  exact t.get (show ws[j]? = some w from h)
theorem ix_w : IxR X (rOp X pd) := by
 intro value slice QlP s σ H x y v u Q I rx ry h hs
 obtain ⟨ι, G, st, w1, w2, sr, r1, r2, q⟩ := h
 cases w2 with
 | int i =>
  cases r2
  have seq : ∀ {ws : List W}, eo st w1 = some ws->wpW X ι st.nxt G (match atI ws i with | some w => .ok w st | none => .stuck) Q->wpAny (model X.prog X.w) X.A (subscriptTail value slice v u) (EP X QlP σ Q) X.xe s := by
   intro ws hi q
   cases e : atI ws i with
   | none => rw [e] at q; exact (show False from q).elim
   | some w =>
    rw [e] at q
    obtain ⟨a, xs, ea, hq, t⟩ := qp sr r1 hi
    subst ea
    obtain ⟨z, hz, rz⟩ := atI_rel t e
    have fin := q z ι G H (Ext.refl _ _ _) sr rz
    rcases hq with hq | hq
    ·exact ix_list value slice QlP s σ H _ _ v u Q I rx ry ⟨a, xs, i, z, rfl, rfl, hq, hz, fin⟩ hs
    ·exact ix_tup value slice QlP s σ H _ _ v u Q I rx ry ⟨a, xs, i, z, rfl, rfl, hq, hz, fin⟩ hs
  cases w1 with
  | str z =>
   cases r1
   have q' : wpW X ι st.nxt G (if z.length<=sizeLine then (match atI z.cps.toList i with | some c => .ok (.str ⟨#[c]⟩) st | none => .stuck) else .stuck) Q := q
   by_cases hl : z.length<=sizeLine
   ·rw [Qmo hl] at q'
    cases e : atI z.cps.toList i with
    | none => rw [e] at q'; exact (show False from q').elim
    | some c =>
     rw [e] at q'
     exact ix_str value slice QlP s σ H _ _ v u Q I rx ry ⟨z, i, c, rfl, rfl, hl, e, q' _ ι G H (Ext.refl _ _ _) sr (.str _)⟩ hs
   ·rw [Qmp hl] at q'; exact (show False from q').elim
  | tup ws => exact seq (ws := ws) rfl q
  | lst ws => exact seq (ws := ws) rfl q
  | ref n =>
   cases hi : eo st (.ref n) with
   | none =>
    have q' : wpW X ι st.nxt G (match eo st (.ref n) with | some ws => (match atI ws i with | some w => .ok w st | none => .stuck) | none => .stuck) Q := q
    rw [hi] at q'; exact (show False from q').elim
   | some ws =>
    have q' : wpW X ι st.nxt G (match eo st (.ref n) with | some ws => (match atI ws i with | some w => .ok w st | none => .stuck) | none => .stuck) Q := q
    rw [hi] at q'; exact seq hi q'
  | _ => exact (show False from q).elim
 | _ => exact (show False from q).elim
theorem pd_ix0 {a b : Expr} {pos : Pos} {ra rb : Run} (ha : PD X a ra) (hb : PD X b rb) (hs : QbC b) : PD X (.Subscript a b pos) (ah ra rb pd) :=
 PE.imp (pe_ix ix_w ha hb hs) fun _ _ _ h => Qaq h
def gp (xs : List W) (lo hi : Option Int) : List W := (xs.drop (HT.sIx xs.length 0 lo)).take (HT.sIx xs.length xs.length hi - HT.sIx xs.length 0 lo)
def lw (m : Bool) (lo hi : Option Int) (a : W) (st : S) : R W := match a with
 | .str z => if z.length<=sizeLine then .ok (.str (Txt.slice z lo hi)) st else .stuck
 | .tup ws => .ok (.tup (gp ws lo hi)) st
 | a => match eo st a with
  | some ws => if m then nn (gp ws lo hi) st else ln (gp ws lo hi) st
  | none => .stuck
theorem Qby {K : PySem.W.Frag} {ι : Nat->Addr} {N : Nat} {G : Hp} {xs : List V} {ws : List W} (t : RelWs K ι N G xs ws) (lo hi : Option Int) : RelWs K ι N G (nc xs lo hi) (gp ws lo hi) := by
 unfold nc gp
 rw [t.length]
 exact (t.drop _).take _
theorem Qhq {prog : Program} {w : World} {A : Around} {E : Value->Shared->Prop} {s : Shared} {t : Addr} {items : Array Value} {Q : Bool->Shared->Prop} (ht : IsTup s.heap t items) (h : Q true s) : wpAny (model prog w) A (Builtin.Tuple.tupleIsExact (.ref t)) Q E s := by
 unfold Builtin.Tuple.tupleIsExact
 refine Qmn (wpAny_typeOf ht.typeIs (Qmr ?_))
 exact h
theorem QgE {prog : Program} {w : World} {A : Around} {E : Value->Shared->Prop} {s : Shared} {t sl : Addr} {items : Array Value} {vl vu : Value} {lo hi : Option Int} {Q : Value->Shared->Prop} (ht : IsTup s.heap t items) (hs : s.heap.IsSliceOf sl vl vu .none) (pl : IsPart vl lo) (pu : IsPart vu hi)
  (h0 : HT.sIx items.size 0 lo = 0) (h1 : HT.sIx items.size items.size hi = items.size) (h : Q (.ref t) s) : wpAny (model prog w) A (getItem (.ref t) (.ref sl)) Q E s := by
 obtain ⟨os, hos, hcs, hds⟩ := id hs
 have hTs : s.TypeIs (.ref sl) "slice" := ⟨os, hos, hcs⟩
 unfold getItem
 try with_reducible refine wpAny_holding ?_
 first | refine Qmn (Qmr ?_) | skip
 refine Qmn (wpAny_sequenceKey ht.typeIs (by decide) ?_)
 refine Qmn (wpAny_callSpecial?_slot (name := Str.ofString "__getitem__") ht.typeIs PyProof.Rows.slot_tuple_getitem
  (wpAny_call_entry PyProof.Rows.slot_tuple_getitem ht.typeIs entry_tuple_getitem ?_ (args_tuple_getitem _ _)))
 show wpAny _ _ (Builtin.Tuple.tupleItemsOf (.ref t) >>= _) _ _ s
 refine Qmn (tupleItemsOf_ ht ?_)
 refine Qmn (wpAny_typeOf hTs ?_)
 rw [Qmo (by decide)]
 refine Qmn (HT.sliceApplied_gen hs pl pu ?_)
 show wpAny _ _ (if (((HT.sIx items.size 0 lo : Nat) : Int) == 0 && (1 : Int) == 1 && (HT.sIx items.size items.size hi - HT.sIx items.size 0 lo) == items.size) = true then _ else _) _ _ s
 rw [h0, h1, Qmo (by simp)]
 refine Qmn (Qhq ht ?_)
 rw [Qmo rfl]
 refine Qmn (wpAny_rule ?_)
 exact Qmr ⟨_, rfl, Qmr h⟩
theorem Qjj : SlR X (fun x lo hi H Q => ∃ a xs, x = .ref a/\SqT X.K H a xs/\HT.sIx xs.length 0 lo = 0/\HT.sIx xs.length xs.length hi = xs.length/\Q (.ref a) H) := by
 intro QlP s σ H x v vl vu lo hi sl Q I rx hs pl pu h
 obtain ⟨a, xs, rfl, hx, h0, h1, q⟩ := h
 cases rx
 obtain ⟨its, r, ht, hz⟩ := I.tuple hx
 have hlen : its.toArray.size = xs.length := by rw [QlW]; exact r.length.symm
 refine ⟨"tuple", _, PyProof.Rows.slot_tuple_getitem.lookup, ht.typeIs, ?_⟩
 exact QgE ht hs pl pu (by rw [hlen]; exact h0) (by rw [hlen]; exact h1) ⟨.ref a, H, I, rfl, q⟩
def rSlW (X : Cx) (m : Bool) : V->Option Int->Option Int->Hp->VK->Prop := fun x lo hi H Q => ∃ ι G st w, SR X.K ι st G H/\RelW X.K ι st.nxt G x w/\wpW X ι st.nxt G (lw m lo hi w st) Q
theorem sl_w {m : Bool} : SlR X (rSlW X m) := by
 intro QlP s σ H x v vl vu lo hi sl Q I rx hs pl pu h
 obtain ⟨ι, G, st, w, sr, r1, q⟩ := h
 have seq : ∀ {a : Addr} {xs : List V} {ws : List W}, v = .ref a->x = .ref a->SqL X.K H a xs->RelWs X.K ι st.nxt G xs ws->wpW X ι st.nxt G (if m then nn (gp ws lo hi) st else ln (gp ws lo hi) st) Q ->
   ∃ T id, typeLookup (.type T) "__getitem__" = pure (some (.builtin id))/\s.TypeIs v T/\wpAny (model X.prog X.w) X.A (getItem v (.ref sl)) (EP X QlP σ Q) X.xe s := by
  intro a xs ws ev ex hq t q
  refine sl_list QlP s σ H x v vl vu lo hi sl Q I rx hs pl pu ⟨a, xs, ex, hq, ?_⟩
  cases m with
  | true => rw [Qmo rfl] at q; exact (wp sr (Qby t lo hi) q).2
  | false => rw [Qmp QlQ] at q; exact (xg sr (Qby t lo hi) q).2
 cases r1 with
 | str z =>
  have q' : wpW X ι st.nxt G (if z.length<=sizeLine then .ok (.str (Txt.slice z lo hi)) st else .stuck) Q := q
  by_cases hl : z.length<=sizeLine
  ·rw [Qmo hl] at q'
   exact sl_str QlP s σ H _ v vl vu lo hi sl Q I rx hs pl pu ⟨z, rfl, hl, q' _ ι G H (Ext.refl _ _ _) sr (.str _)⟩
  ·rw [Qmp hl] at q'; exact (show False from q').elim
 | tup s1 c1 t1 =>
  rename_i a xs ws
  have hq := sqT_same sr.sub s1
  by_cases hw : HT.sIx xs.length 0 lo = 0/\HT.sIx xs.length xs.length hi = xs.length
  ·refine Qjj QlP s σ H _ v vl vu lo hi sl Q I rx hs pl pu ⟨a, xs, rfl, hq, hw.1, hw.2, q _ ι G H (Ext.refl _ _ _) sr (.tup s1 c1 ?_)⟩
   have ec : gp ws lo hi = ws := by
    unfold gp
    rw [<-t1.length, hw.1, hw.2, List.drop_zero, Nat.sub_zero, t1.length, List.take_length]
   rw [ec]; exact t1
  ·refine sl_tup QlP s σ H _ v vl vu lo hi sl Q I rx hs pl pu ⟨a, xs, rfl, hq, hw, fun p hp => ?_⟩
   obtain ⟨sr2, e2⟩ := sr.laid (o := .tup (nc xs lo hi)) hp
   exact q _ ι _ _ e2 sr2 (.tup (.inl (.inl cn)) (fun _ => cn) ((Qby t1 lo hi).mono e2))
 | lst s1 t1 => exact seq rx rfl (sr.sub.seq s1) t1 q
 | ref hn =>
  rename_i n
  have q' : wpW X ι st.nxt G (match eo st (.ref n) with | some ws => if m then nn (gp ws lo hi) st else ln (gp ws lo hi) st | none => .stuck) Q := q
  cases hi' : eo st (.ref n) with
  | none => rw [hi'] at q'; exact (show False from q').elim
  | some ws =>
   rw [hi'] at q'
   obtain ⟨a, xs, ea, hq, t⟩ := qp sr (.ref hn) hi'
   rcases hq with hq | hq
   ·exact seq (by cases ea; exact rx) ea hq t q'
   ·exfalso
    have hi2 := hi'
    have hi2 : MO.items (st.mu n) = some ws := hi2
    cases e : st.mu n with
    | none => rw [e] at hi2; cases hi2
    | some o =>
     obtain ⟨_, _, h3⟩ := sr.live n o e
     cases o with
     | lst zs =>
      obtain ⟨vs, qv, _⟩ := h3
      cases ea
      exact qw I hq (SqL.of qv)
     | dct ks vs => rw [e] at hi2; cases hi2
 | _ => exact (show False from q).elim
def Qfn (m : Bool) (ra : Run) : Run := fun Γ st => (ra Γ st).bind fun w st1 => lw m none none w st1
def im (m : Bool) (ra rl : Run) : Run := fun Γ st => (ra Γ st).bind fun w st1 => (rl Γ st1).bind fun l st2 => (match l with | .int i => lw m (some i) none w st2 | _ => .stuck)
def xj (m : Bool) (ra rh : Run) : Run := fun Γ st => (ra Γ st).bind fun w st1 => (rh Γ st1).bind fun h st2 => (match h with | .int i => lw m none (some i) w st2 | _ => .stuck)
def qz (m : Bool) (ra rl rh : Run) : Run := fun Γ st => (ra Γ st).bind fun w st1 => (rl Γ st1).bind fun l st2 => (match l with | .int i => (rh Γ st2).bind fun h st3 => (match h with | .int j => lw m (some i) (some j) w st3 | _ => .stuck) | _ => .stuck)
section
variable {e lo hi : Expr} {pos p2 : Pos} {ra rl rh : Run} {m : Bool}
theorem pd_slNN (ha : PD X e ra) : PD X (.Subscript e (.Slice none none none p2) pos) (Qfn m ra) := by
 refine PE.imp (zn (sl_w (m := m)) ha zy zy) fun σ H Q h => ?_
 obtain ⟨ι, G, st, Γ, en, sr, q⟩ := h
 exact ⟨ι, G, st, Γ, en, sr, wpW.bind q fun w st1 v ι1 G1 H1 _ e1 sr1 r1 q1 => ⟨ι1, G1, st1, w, sr1, r1, q1⟩⟩
theorem pd_slSN (ha : PD X e ra) (hl : PD X lo rl) : PD X (.Subscript e (.Slice (some lo) none none p2) pos) (im m ra rl) := by
 refine PE.imp (zn (sl_w (m := m)) ha (zx hl) zy) fun σ H Q h => ?_
 obtain ⟨ι, G, st, Γ, en, sr, q⟩ := h
 refine ⟨ι, G, st, Γ, en, sr, wpW.bind q fun w st1 v ι1 G1 H1 _ e1 sr1 r1 q1 => ?_⟩
 refine ⟨ι1, G1, st1, Γ, en.mono e1, sr1, wpW.bind q1 fun l st2 v2 ι2 G2 H2 _ e2 sr2 r2 q2 => ?_⟩
 cases l with
 | int i => cases r2; exact ⟨i, rfl, ι2, G2, st2, w, sr2, r1.mono e2, q2⟩
 | _ => exact (show False from q2).elim
theorem pd_slNS (ha : PD X e ra) (hh : PD X hi rh) : PD X (.Subscript e (.Slice none (some hi) none p2) pos) (xj m ra rh) := by
 refine PE.imp (zn (sl_w (m := m)) ha zy (zx hh)) fun σ H Q h => ?_
 obtain ⟨ι, G, st, Γ, en, sr, q⟩ := h
 refine ⟨ι, G, st, Γ, en, sr, wpW.bind q fun w st1 v ι1 G1 H1 _ e1 sr1 r1 q1 => ?_⟩
 refine ⟨ι1, G1, st1, Γ, en.mono e1, sr1, wpW.bind q1 fun l st2 v2 ι2 G2 H2 _ e2 sr2 r2 q2 => ?_⟩
 cases l with
 | int i => cases r2; exact ⟨i, rfl, ι2, G2, st2, w, sr2, r1.mono e2, q2⟩
 | _ => exact (show False from q2).elim
theorem pd_slSS (ha : PD X e ra) (hl : PD X lo rl) (hh : PD X hi rh) : PD X (.Subscript e (.Slice (some lo) (some hi) none p2) pos) (qz m ra rl rh) := by
 refine PE.imp (zn (sl_w (m := m)) ha (zx hl) (zx hh)) fun σ H Q h => ?_
 obtain ⟨ι, G, st, Γ, en, sr, q⟩ := h
 refine ⟨ι, G, st, Γ, en, sr, wpW.bind q fun w st1 v ι1 G1 H1 _ e1 sr1 r1 q1 => ?_⟩
 refine ⟨ι1, G1, st1, Γ, en.mono e1, sr1, wpW.bind q1 fun l st2 v2 ι2 G2 H2 _ e2 sr2 r2 q2 => ?_⟩
 cases l with
 | int i =>
  cases r2
  refine ⟨i, rfl, ι2, G2, st2, Γ, (en.mono e1).mono e2, sr2, wpW.bind q2 fun h st3 v3 ι3 G3 H3 _ e3 sr3 r3 q3 => ?_⟩
  cases h with
  | int j => cases r3; exact ⟨j, rfl, ι3, G3, st3, w, sr3, (r1.mono e2).mono e3, q3⟩
  | _ => exact (show False from q3).elim
 | _ => exact (show False from q2).elim
end
def cu : OpN := fun ws st => match ws with
 | [.str z] => if z.length<=sizeLine then .ok (.int z.length) st else .stuck
 | [w] => match eo st w with
  | some xs => .ok (.int xs.length) st
  | none => .stuck
 | _ => .stuck
def mz : List W->Option (List Bool)
 | [] => some []
 | .bl b :: ws => (mz ws).map (b :: ·)
 | _ :: _ => none
def nv : OpN := fun ws st => match ws with
 | [.lst xs] => (match mz xs with | some bs => .ok (.bl (bs.all id)) st | none => .stuck)
 | _ => .stuck
def ki : OpN := fun ws st => match ws with
 | [.tup xs] => .ok (.tup xs) st
 | [w] => match eo st w with
  | some xs => bp xs st
  | none => .stuck
 | _ => .stuck
def QbK (m : Bool) : OpN := fun ws st => match ws with
 | [w] => match eo st w with
  | some xs => if m then nn xs st else ln xs st
  | none => .stuck
 | _ => .stuck
def fo : OpN := fun ws st => match ws with
 | [.int i] => .ok (.int i) st
 | [.bl b] => .ok (.int (if b then 1 else 0)) st
 | _ => .stuck
theorem Qeg : ∀ {ws : List W} {bs : List Bool}, mz ws = some bs->ws = bs.map W.bl
 | [], bs, h => by cases h; rfl
 | w :: ws, bs, h => by
  cases w with
  | bl b =>
   have h' : (mz ws).map (b :: ·) = some bs := h
   cases e : mz ws with
   | none => rw [e] at h'; cases h'
   | some cs => rw [e] at h'; cases h'; rw [Qms, <-Qeg e]
  | _ => cases h
theorem jz {K : PySem.W.Frag} {ι : Nat->Addr} {N : Nat} {G : Hp} {xs : List V} {w : W} (t : RelWs K ι N G xs [w]) : ∃ v, xs = [v]/\RelW K ι N G v w := by
 cases t with
 | cons r t => cases t; exact ⟨_, rfl, r⟩
theorem rel2 {K : PySem.W.Frag} {ι : Nat->Addr} {N : Nat} {G : Hp} {xs : List V} {w w' : W} (t : RelWs K ι N G xs [w, w']) : ∃ v v', xs = [v, v']/\RelW K ι N G v w/\RelW K ι N G v' w' := by
 cases t with
 | cons r t => obtain ⟨v, rfl, r'⟩ := jz t; exact ⟨_, _, rfl, r, r'⟩
theorem cw_len : jh X (.builtin "len") cu := by
 intro QlP s σ H ι G st xs ws us Q I sr rv t q
 match ws, t, q with
 | [w], t, q =>
  obtain ⟨v, rfl, r⟩ := jz t
  have seq : ∀ {zs : List W}, eo st w = some zs->wpW X ι st.nxt G (.ok (.int zs.length) st) Q->wpAny (model X.prog X.w) X.A (call (.builtin "len") us) (EP X QlP σ Q) X.xe s := by
   intro zs hi q
   obtain ⟨a, ys, ea, hq, t2⟩ := qp sr r hi
   subst ea
   refine QhX QlP s σ H _ us Q I rv ⟨a, ys, rfl, hq, ?_⟩
   rw [t2.length]
   exact q _ ι G H (Ext.refl _ _ _) sr (.int _)
  cases w with
  | str z =>
   cases r
   have q' : wpW X ι st.nxt G (if z.length<=sizeLine then .ok (.int z.length) st else .stuck) Q := q
   by_cases hl : z.length<=sizeLine
   ·rw [Qmo hl] at q'
    exact QhW QlP s σ H _ us Q I rv ⟨z, rfl, hl, q' _ ι G H (Ext.refl _ _ _) sr (.int _)⟩
   ·rw [Qmp hl] at q'; exact (show False from q').elim
  | tup zs => exact seq rfl q
  | lst zs => exact seq rfl q
  | ref n =>
   have q' : wpW X ι st.nxt G (match eo st (.ref n) with | some xs => .ok (.int xs.length) st | none => .stuck) Q := q
   cases hi : eo st (.ref n) with
   | none => rw [hi] at q'; exact (show False from q').elim
   | some zs => rw [hi] at q'; exact seq hi q'
  | _ => exact (show False from q).elim
 | [], _, q => exact (show False from q).elim
 | w :: w' :: ws, _, q => exact (show False from (by cases w <;> exact q)).elim
theorem cw_all (hc : X.calm = true) : jh X (.builtin "all") nv := by
 intro QlP s σ H ι G st xs ws us Q I sr rv t q
 unfold nv at q
 split at q
 ·rename_i zs
  cases e : mz zs with
  | none => rw [e] at q; exact (show False from q).elim
  | some bs =>
   rw [e] at q
   obtain ⟨v, rfl, r⟩ := jz t
   cases r with
   | lst s1 t1 =>
    rw [Qeg e] at t1
    have e2 := t1.bls
    subst e2
    exact Qkj hc QlP s σ H _ us Q I rv ⟨_, bs, rfl, sr.sub.seq s1, q _ ι G H (Ext.refl _ _ _) sr (.bl _)⟩
 ·exact (show False from q).elim
theorem cw_list {m : Bool} : jh X (.type "list") (QbK m) := by
 intro QlP s σ H ι G st xs ws us Q I sr rv t q
 unfold QbK at q
 split at q
 ·rename_i w
  cases hi : eo st w with
  | none => rw [hi] at q; exact (show False from q).elim
  | some zs =>
   rw [hi] at q
   obtain ⟨v, rfl, r⟩ := jz t
   obtain ⟨a, ys, ea, hq, t2⟩ := qp sr r hi
   subst ea
   refine QhV QlP s σ H _ us Q I rv ⟨a, ys, rfl, hq, ?_⟩
   cases m with
   | true => exact (wp sr t2 q).2
   | false => exact (xg sr t2 q).2
 ·exact (show False from q).elim
theorem QlE : jh X (.type "tuple") ki := by
 intro QlP s σ H ι G st xs ws us Q I sr rv t q
 unfold ki at q
 split at q
 ·rename_i zs
  obtain ⟨v, rfl, r⟩ := jz t
  cases r with
  | tup s1 c1 t1 => exact QcK QlP s σ H _ us Q I rv ⟨_, _, rfl, .inr ⟨sqT_same sr.sub s1, q _ ι G H (Ext.refl _ _ _) sr (.tup s1 c1 t1)⟩⟩
 ·rename_i w hne
  cases hi : eo st w with
  | none => rw [hi] at q; exact (show False from q).elim
  | some zs =>
   rw [hi] at q
   obtain ⟨v, rfl, r⟩ := jz t
   obtain ⟨a, ys, ea, hq, t2⟩ := qp sr r hi
   subst ea
   rcases hq with hq | hq
   ·exact QcK QlP s σ H _ us Q I rv ⟨a, ys, rfl, .inl ⟨hq, (Qet sr t2 q).2⟩⟩
   ·exfalso
    cases r with
    | tup s1 c1 t1 => exact hne _ rfl
    | lst s1 t1 => exact qw I hq (sr.sub.seq s1)
    | @ref n hn =>
     have hi : MO.items (st.mu n) = some zs := hi
     cases e : st.mu n with
     | none => rw [e] at hi; cases hi
     | some o =>
      obtain ⟨_, _, h3⟩ := sr.live n o e
      cases o with
      | lst zs => obtain ⟨vs, qv, _⟩ := h3; exact qw I hq (SqL.of qv)
      | dct ks vs => rw [e] at hi; cases hi
    | _ => cases hi
 ·exact (show False from q).elim
theorem QgA : jh X (.type "int") fo := by
 intro QlP s σ H ι G st xs ws us Q I sr rv t q
 unfold fo at q
 split at q
 ·obtain ⟨v, rfl, r⟩ := jz t
  cases r
  exact Qef QlP s σ H _ us Q I rv (.inl ⟨_, rfl, q _ ι G H (Ext.refl _ _ _) sr (.int _)⟩)
 ·obtain ⟨v, rfl, r⟩ := jz t
  cases r
  exact Qef QlP s σ H _ us Q I rv (.inr ⟨_, rfl, q _ ι G H (Ext.refl _ _ _) sr (.int _)⟩)
 ·exact (show False from q).elim
def MO.kind : Option MO->Option String
 | some (.lst _) => some "list"
 | some (.dct _ _) => some "dict"
 | none => none
def jg (st : S) : W->Option String
 | .non => some "NoneType"
 | .bl _ => some "bool"
 | .int _ => some "int"
 | .str _ => some "str"
 | .tup _ => some "tuple"
 | .lst _ => some "list"
 | .dct _ _ => some "dict"
 | .ref n => MO.kind (st.mu n)
 | .ty _ => none
 | .exn _ => none
def xx (k T : String) : Bool := k == T || (k == "bool" && T == "int")
def kinds : List String := ["NoneType", "bool", "int", "str", "tuple", "list", "dict"]
def Qar : OpN := fun ws st => match ws with
 | [w, .ty T] => if kinds.contains T then (match jg st w with | some k => .ok (.bl (xx k T)) st | none => .stuck) else .stuck
 | _ => .stuck
end
section
variable {X : Cx}
structure SrcR (K : PySem.W.Frag) (J : It) (items : List W) (ι : Nat->Addr) (N : Nat) (G : Hp) : Prop where
 go : ∀ (i : Nat) (w : W) (ι' : Nat->Addr) (N' : Nat) (G' H' : Hp), items[i]? = some w->Ext ι N G ι' N' G'->ee G' H'->J.go i H'/\∀ v H'', J.yld i H' v H''->H'' = H'/\RelW K ι' N' G' v w
 stop : ∀ (G' H' : Hp), ee G G'->ee G' H'->J.stop items.length H'
abbrev Src := Ga->S->R (List W)
def tDI (X : Cx) (src : Src) : TI := fun σ H Rr => ∃ ι G st Γ, EnvR X.K ι st.nxt G σ Γ/\SR X.K ι st G H/\(match src Γ st with
 | .ok items st' => ∀ J ι' G' H', Ext ι st.nxt G ι' st'.nxt G'->SR X.K ι' st' G' H'->SrcR X.K J items ι' st'.nxt G'->Rr J H'
 | .ex c st' => XW X ι st.nxt G c st'
 | .stuck => False)
abbrev PDI (X : Cx) (tg iter : Expr) (src : Src) : Prop := PI X tg iter (tDI X src)
theorem PI.imp {tg e : Expr} {t t' : TI} (h : PI X tg e t) (k : ∀ σ H Q, t' σ H Q->t σ H Q) : PI X tg e t' := fun QlP s σ H Q I q => h QlP s σ H Q I (k σ H Q q)
def iSeq (K : PySem.W.Frag) (tl : TE) : TI := fun σ H R => tl σ H fun x H1 => (∃ a, x = .ref a/\(∃ xs, SqL K H1 a xs)/\R (Itl K a) H1)\/(∃ a, x = .ref a/\(∃ xs, SqT K H1 a xs)/\R (Itt K a) H1)\/∃ z, x = .str z/\R (Its z) H1
theorem pi_seq {y : Str} {py : Pos} {l : Expr} {tl : TE} (hl : PE X l tl) : PI X (.Name y py) l (iSeq X.K tl) := by
 intro QlP s σ H R I h
 refine thn (hl QlP s σ H _ I h) fun v s1 ⟨x, H1, I1, r1, q1⟩ => ?_
 rcases q1 with ⟨a, e, ⟨xs, hq⟩, q⟩ | ⟨a, e, ⟨xs, hq⟩, q⟩ | ⟨z, e, q⟩
 ·subst e
  cases r1
  obtain ⟨its, rv, p, hz⟩ := I1.list hq
  refine wpAny_pyIter_list p.isList ?_
  refine ⟨s1.heap.objs.size, [s1.heap.objs.size], _, _, H1, rfl, I1.kept (t' := s1.toks) fun b o e => QlS _ e, QdH a _, ⟨_, Qmd _ rfl, rfl, rfl⟩, fun b hb => ?_, q⟩
  have e : b = s1.heap.objs.size := by simpa using hb
  subst e
  exact I1.fpOk (QlX _) (I1.hok.fresh (QlX _))
 ·subst e
  cases r1
  obtain ⟨its, rv, p, hz⟩ := I1.tuple hq
  refine wpAny_pyIter_tuple (show s1.heap.IsTuple a its.toArray from p) ?_
  refine ⟨s1.heap.objs.size, [s1.heap.objs.size], _, _, H1, rfl, I1.kept (t' := s1.toks) fun b o e => QlS _ e, Qix a _, ⟨_, Qmd _ rfl, rfl, rfl⟩, fun b hb => ?_, q⟩
  have e : b = s1.heap.objs.size := by simpa using hb
  subst e
  exact I1.fpOk (QlX _) (I1.hok.fresh (QlX _))
 ·subst e
  obtain ⟨t, rfl⟩ := r1
  have fp : ∀ b ∈ [s1.heap.objs.size], fj X QlP H1 b := fun b hb => by
   have e : b = s1.heap.objs.size := by simpa using hb
   subst e
   exact I1.fpOk (QlX _) (I1.hok.fresh (QlX _))
  cases ha : z.cps.all (· < 128)
  ·refine wpAny_pyIter_wide ha ?_
   exact ⟨s1.heap.objs.size, [s1.heap.objs.size], _, _, H1, rfl, I1.kept (t' := s1.toks) fun b o e => QlS _ e,
    Qes (fun A' hA => Walks.strWide hA _ z t) (fun i h st => by obtain ⟨o, e, c, d⟩ := st; exact ⟨o, e, fun v z => by rw [d] at z; cases z⟩) (fun _ _ _ _ _ st h => wpAny_pyIter_striter_wide st h),
    ⟨Nat.zero_le _, ⟨_, Qmd _ rfl, rfl, rfl⟩⟩, fp, q⟩
  ·refine wpAny_pyIter_ascii ha ?_
   exact ⟨s1.heap.objs.size, [s1.heap.objs.size], _, _, H1, rfl, I1.kept (t' := s1.toks) fun b o e => QlS _ e,
    Qes (fun A' hA => Walks.strAscii hA _ z t) (fun i h st => by obtain ⟨o, e, c, d⟩ := st; exact ⟨o, e, fun v z => by rw [d] at z; cases z⟩) (fun _ _ _ _ _ st h => wpAny_pyIter_striter_ascii st h),
    ⟨Nat.zero_le _, ⟨_, Qmd _ rfl, rfl, rfl⟩⟩, fp, q⟩
def ye (z : Str) : List W := z.cps.toList.map fun c => W.str ⟨#[c]⟩
def srcOf : W->Option (List W)
 | .lst xs => some xs
 | .tup xs => some xs
 | .str z => some (ye z)
 | _ => none
def bv (r : Run) : Src := fun Γ st => (r Γ st).bind fun w st1 => match srcOf w with
 | some xs => .ok xs st1
 | none => .stuck
theorem QkB {K : PySem.W.Frag} {ι : Nat->Addr} {N : Nat} {G : Hp} {a : Addr} {xs : List V} {ws : List W} (h : SqL K G a xs) (t : RelWs K ι N G xs ws) : SrcR K (Itl K a) ws ι N G where
 go := fun i w ι' N' G' H' hw e sm => by
  obtain ⟨v, hv, rv⟩ := (t.mono e).get hw
  have hq : SqL K H' a xs := sm.seq (e.sm.seq h)
  refine ⟨⟨xs, v, hq, hv⟩, fun v' H'' ⟨e1, y⟩ => ⟨e1, ?_⟩⟩
  have := y xs hq
  rw [hv] at this
  cases this
  exact rv
 stop := fun G' H' sm sm' => ⟨xs, sm'.seq (sm.seq h), by rw [t.length]; exact QlX _⟩
theorem src_tup {K : PySem.W.Frag} {ι : Nat->Addr} {N : Nat} {G : Hp} {a : Addr} {xs : List V} {ws : List W} (h : SqT K G a xs) (t : RelWs K ι N G xs ws) : SrcR K (Itt K a) ws ι N G where
 go := fun i w ι' N' G' H' hw e sm => by
  obtain ⟨v, hv, rv⟩ := (t.mono e).get hw
  have hq : SqT K H' a xs := sqT_same sm (sqT_same e.sm h)
  refine ⟨⟨xs, v, hq, hv⟩, fun v' H'' ⟨e1, y⟩ => ⟨e1, ?_⟩⟩
  have := y xs hq
  rw [hv] at this
  cases this
  exact rv
 stop := fun G' H' sm sm' => ⟨xs, sqT_same sm' (sqT_same sm h), by rw [t.length]; exact QlX _⟩
theorem src_str {K : PySem.W.Frag} {ι : Nat->Addr} {N : Nat} {G : Hp} (z : Str) : SrcR K (Its z) (ye z) ι N G where
 go := fun i w ι' N' G' H' hw e sm => by
  unfold ye at hw
  rw [Qmf] at hw
  cases hc : z.cps.toList[i]? with
  | none => rw [hc] at hw; cases hw
  | some c =>
   rw [hc] at hw
   cases hw
   have hc' : z.cps[i]? = some c := by simpa using hc
   have hi : i < z.cps.size := (Array.getElem?_eq_some_iff.mp hc').1
   refine ⟨hi, fun v' H'' ⟨e1, c', h1, h2⟩ => ⟨e1, ?_⟩⟩
   rw [hc'] at h1
   cases h1
   rw [h2]
   exact .str _
 stop := fun G' H' sm sm' => by
  show z.cps.size<=(ye z).length
  unfold ye
  simp
def fu (lo : Int) (n : Nat) : List W := (List.range n).map fun (i : Nat) => W.int (lo + i)
theorem QdK {K : PySem.W.Frag} {ι : Nat->Addr} {N : Nat} {G : Hp} (lo : Int) (n : Nat) : SrcR K (Itr lo n) (fu lo n) ι N G where
 go := fun i w ι' N' G' H' hw e sm => by
  unfold fu at hw
  rw [Qmf] at hw
  by_cases hi : i < n
  ·rw [List.getElem?_range hi] at hw
   cases hw
   refine ⟨hi, fun v' H'' ⟨e1, h2⟩ => ⟨e1, ?_⟩⟩
   rw [h2]
   exact .int _
  ·rw [List.getElem?_eq_none (by simp; omega)] at hw; cases hw
 stop := fun G' H' sm sm' => by
  show n<=(fu lo n).length
  unfold fu
  simp
theorem pdi_val {y : Str} {py : Pos} {l : Expr} {r : Run} (h : PD X l r) : PDI X (.Name y py) l (bv r) := by
 refine PI.imp (pi_seq h) fun σ H Q hq => ?_
 obtain ⟨ι, G, st, Γ, en, sr, q⟩ := hq
 refine ⟨ι, G, st, Γ, en, sr, ?_⟩
 unfold bv at q
 cases e1 : r Γ st with
 | stuck => rw [e1] at q; exact q
 | ex c s => rw [e1] at q; exact q
 | ok w st1 =>
  rw [e1] at q
  intro v ι1 G1 H1 x1 sr1 r1
  have q' : match (match srcOf w with | some xs => R.ok xs st1 | none => R.stuck) with
   | .ok items st' => ∀ J ι' G' H', Ext ι st.nxt G ι' st'.nxt G'->SR X.K ι' st' G' H'->SrcR X.K J items ι' st'.nxt G'->Q J H'
   | .ex c st' => XW X ι st.nxt G c st'
   | .stuck => False := q
  cases r1 with
  | tup s1 c1 t1 => exact .inr (.inl ⟨_, rfl, ⟨_, sqT_same sr1.sub s1⟩, q' _ ι1 G1 H1 x1 sr1 (src_tup s1 t1)⟩)
  | lst s1 t1 => exact .inl ⟨_, rfl, ⟨_, sr1.sub.seq s1⟩, q' _ ι1 G1 H1 x1 sr1 (QkB s1 t1)⟩
  | str z => exact .inr (.inr ⟨z, rfl, q' _ ι1 G1 H1 x1 sr1 (src_str z)⟩)
  | _ => exact q'.elim
def gu (j : Int) : Prop := -(2 ^ 62)<=j/\j < 2 ^ 62
instance (j : Int) : Decidable (gu j) := by unfold gu; infer_instance
def jd (r : Run) : Src := fun Γ st => (r Γ st).bind fun w st1 => match w with
 | .int j => if gu j then .ok (fu 0 j.toNat) st1 else .stuck
 | _ => .stuck
def rg (r r' : Run) : Src := fun Γ st => (r Γ st).bind fun w st1 => (r' Γ st1).bind fun w' st2 => match w, w' with
 | .int i, .int j => if gu i/\gu j then .ok (fu i (j - i).toNat) st2 else .stuck
 | _, _ => .stuck
theorem QiJ {tg a : Expr} {p pos : Pos} {ra : Run} (hg : Gl X "range") (hm : X.mg "range" = none) (ha : PD X a ra) (hs : starEach [a] X.env = [(false, eval a X.env)]) : PDI X tg (.Call (.Name "range" p) [a] [] pos) (jd ra) := by
 refine PI.imp (Qjy hg hm (zo ha Qbm hs) hs) fun σ H Q hq => ?_
 obtain ⟨ι, G, st, Γ, en, sr, q⟩ := hq
 refine ⟨ι, G, st, Γ, en, sr, ?_⟩
 unfold jd at q
 unfold ae al
 cases e1 : ra Γ st with
 | stuck => rw [e1] at q; exact q
 | ex c s => rw [e1] at q; exact q
 | ok w st1 =>
  rw [e1] at q
  intro vs ι1 G1 H1 x1 sr1 r1
  obtain ⟨v, rfl, r2⟩ := jz r1
  cases r2 with
  | int j =>
   by_cases hr : gu j
   ·have q' : match (if gu j then R.ok (fu 0 j.toNat) st1 else R.stuck) with
     | .ok items st' => ∀ J ι' G' H', Ext ι st.nxt G ι' st'.nxt G'->SR X.K ι' st' G' H'->SrcR X.K J items ι' st'.nxt G'->Q J H'
     | .ex c st' => XW X ι st.nxt G c st'
     | .stuck => False := q
    rw [Qmo hr] at q'
    exact ⟨j, rfl, hr.1, hr.2, q' _ ι1 G1 H1 x1 sr1 (QdK 0 _)⟩
   ·have q' : match (if gu j then R.ok (fu 0 j.toNat) st1 else R.stuck) with
     | .ok items st' => ∀ J ι' G' H', Ext ι st.nxt G ι' st'.nxt G'->SR X.K ι' st' G' H'->SrcR X.K J items ι' st'.nxt G'->Q J H'
     | .ex c st' => XW X ι st.nxt G c st'
     | .stuck => False := q
    rw [Qmp hr] at q'
    exact q'.elim
  | _ => exact (show False from q).elim
def R.calm {α : Type} : R α->R α
 | .ok a s => .ok a s
 | _ => .stuck
def wp0 (K : PySem.W.Frag) (ι : Nat->Addr) (N : Nat) (G : Hp) (r : R W) (Q : VK) : Prop := match r with
 | .ok w st' => ∀ v ι' G' H', Ext ι N G ι' st'.nxt G'->SR K ι' st' G' H'->RelW K ι' st'.nxt G' v w->Q v H'
 | _ => False
def tD0 (K : PySem.W.Frag) (run : Run) : TE := fun σ H Q => ∃ ι G st Γ, EnvR K ι st.nxt G σ Γ/\SR K ι st G H/\wp0 K ι st.nxt G (run Γ st) Q
def tT0 (K : PySem.W.Frag) (run : Run) : TT := fun σ H Q => tD0 K run σ H fun v H' => ∃ b, v = .bl b/\Q b H'
theorem Qgb {run : Run} {σ : St} {H : Hp} {Q : VK} (h : tD0 X.K run σ H Q) : tD X run σ H Q := by
 obtain ⟨ι, G, st, Γ, en, sr, q⟩ := h
 refine ⟨ι, G, st, Γ, en, sr, ?_⟩
 cases e : run Γ st with
 | ok w st' => rw [e] at q; exact q
 | ex c s => rw [e] at q; exact q.elim
 | stuck => rw [e] at q; exact q
theorem PD.calm {e : Expr} {run : Run} (h : PD X e run) : PE X e (tD0 X.K run) := PE.imp h fun _ _ _ q => Qgb q
theorem PT.calm {e : Expr} {run : Run} (h : PT X e (tDT X run)) : PT X e (tT0 X.K run) := PT.imp h fun _ _ _ q => Qgb q
def compGo (rt re : Run) (Γc : Ga) : List W->List W->S->R (List W)
 | [], acc, st => .ok acc st
 | x :: xs, acc, st => (rt (some x :: Γc) st).calm.bind fun b st1 => match b with
  | .bl true => (re (some x :: Γc) st1).calm.bind fun y st2 => compGo rt re Γc xs (acc ++ [y]) st2
  | .bl false => compGo rt re Γc xs acc st1
  | _ => .stuck
def cw (cap : List Nat) (Γ : Ga) : Ga := cap.map fun j => (Γ[j]?).getD none
def opL (m : Bool) : OpN := if m then nn else ln
def bx (m : Bool) (src : Src) (cap : List Nat) (rt re : Run) : Run := fun Γ st => (src Γ st).bind fun items st1 => if items.length < sizeLine then (compGo rt re (cw cap Γ) items [] st1).bind (opL m) else .stuck
theorem QfT {K : PySem.W.Frag} {ι : Nat->Addr} {N : Nat} {G : Hp} {σ : St} {Γ : Ga} {v : V} {w : W} (cap : List Nat) (en : EnvR K ι N G σ Γ) (r : RelW K ι N G v w) : EnvR K ι N G (ie cap σ (some v)) (some w :: cw cap Γ) := by
 refine ⟨by unfold ie cw; simp, fun i u h => ?_⟩
 cases i with
 | zero =>
  have h' : some (some w) = some (some u) := by simpa using h
  cases h'
  exact ⟨v, by unfold ie; simp, r⟩
 | succ i =>
  have h' : (cw cap Γ)[i]? = some (some u) := by simpa using h
  unfold cw at h'
  rw [Qmf] at h'
  cases hj : cap[i]? with
  | none => rw [hj] at h'; cases h'
  | some j =>
   rw [hj] at h'
   have h2 : (Γ[j]?).getD none = some u := Qmu h'
   cases hg : Γ[j]? with
   | none => rw [hg] at h2; cases h2
   | some o =>
    rw [hg] at h2
    have h3 : o = some u := h2
    subst h3
    obtain ⟨z, h4, h5⟩ := en.get j u hg
    refine ⟨z, ?_, h5⟩
    unfold ie
    rw [List.getElem?_cons_succ, Qmf, hj]
    show some ((σ[j]?).getD none) = some (some z)
    rw [h4]; rfl
def wpL (X : Cx) (m : Bool) (ι : Nat->Addr) (N : Nat) (G : Hp) (r : R (List W)) (Q : VK) : Prop := match r with
 | .ok ys st => wpW X ι N G (opL m ys st) Q
 | .ex c st => XW X ι N G c st
 | .stuck => False
theorem Qer {m : Bool} {ι : Nat->Addr} {N : Nat} {G : Hp} {r : R (List W)} {Q : VK} (h : wpW X ι N G (r.bind (opL m)) Q) : wpL X m ι N G r Q := by
 cases r <;> exact h
theorem wpL.later {m : Bool} {ι ι1 : Nat->Addr} {N N1 : Nat} {G G1 : Hp} {r : R (List W)} {Q : VK} (e : Ext ι N G ι1 N1 G1) (h : wpL X m ι N G r Q) : wpL X m ι1 N1 G1 r Q := by
 cases r with
 | stuck => exact h
 | ex c s => exact XW.mono e h
 | ok w st' => exact wpW.later e h
theorem zl {m : Bool} {ι : Nat->Addr} {N : Nat} {G : Hp} {r : R W} {f : W->S->R (List W)} {Q : VK} {Q' : VK} {K : PySem.W.Frag} (hK : K = X.K) (h : wpL X m ι N G (r.calm.bind f) Q)
  (k : ∀ w st' v ι' G' H', Ext ι N G ι' st'.nxt G'->SR X.K ι' st' G' H'->RelW X.K ι' st'.nxt G' v w->wpL X m ι' st'.nxt G' (f w st') Q->Q' v H') : wp0 K ι N G r Q' := by
 subst hK
 cases r with
 | stuck => exact h
 | ex c s => exact (show False from h).elim
 | ok w st' => exact fun v ι' G' H' e sr rel => k w st' v ι' G' H' e sr rel (wpL.later e (show wpL X m ι N G (f w st') Q from h))
theorem pd_comp {scope : Scope} {x : Str} {px pos : Pos} {cl : List (Str × Addr)} {N : List Str} {cap : List Nat} {elt iter : Expr} {ifs : List Expr} {src : Src} {rt re : Run} {m : Bool} (hc : X.calm = true) (hi : PDI X (.Name x px) iter src) (Sc : CompSc X scope x cl N cap)
  (ht : ∀ C s H ex, PTs (bu X scope cl C N s H ex) ifs (tT0 X.K rt)) (he : ∀ C s H ex, PE (bu X scope cl C N s H ex) elt (tD0 X.K re)) (hs : ∀ z, foldedSetIterable iter X.env z = pure z) :
  PD X (.ListComp elt [⟨.Name x px, iter, ifs, 0⟩] scope pos) (bx m src cap rt re) /\
  (∀ {i : Nat} {y : Str} {py spos : Pos}, X.N.Nodup->X.N[i]? = some y->X.env.scope.names.lookup y = some .local->swapsWith (.ListComp elt [⟨.Name x px, iter, ifs, 0⟩] scope pos) (some (.Name y py)) spos.line X.env = pure true ->
   PS X (.Assign [.Name y py] (.ListComp elt [⟨.Name x px, iter, ifs, 0⟩] scope pos) spos) (qa (tD X (bx m src cap rt re)) (jm i))) := by
 have key : ∀ σ H Q, tD X (bx m src cap rt re) σ H Q->QbT (tDI X src) cap (tT0 X.K rt) (tD0 X.K re) σ H Q := by
  intro σ H Q h
  obtain ⟨ι, G, st, Γ, en, sr, q⟩ := h
  refine ⟨ι, G, st, Γ, en, sr, ?_⟩
  unfold bx at q
  cases e1 : src Γ st with
  | stuck => rw [e1] at q; exact q
  | ex c s => rw [e1] at q; exact q
  | ok items st1 =>
   rw [e1] at q
   intro J ι1 G1 H1 x1 sr1 sc
   have q' : wpW X ι st.nxt G (if items.length < sizeLine then (compGo rt re (cw cap Γ) items [] st1).bind (opL m) else .stuck) Q := q
   by_cases hl : items.length < sizeLine
   ·rw [Qmo hl] at q'
    have q1 := wpL.later x1 (Qer q')
    have en1 := en.mono x1
    refine ⟨fun i k ys H' => k = items.length - i/\i<=items.length/\ys.length<=i/\∃ ι2 G2 st2 acc, Ext ι1 st1.nxt G1 ι2 st2.nxt G2/\SR X.K ι2 st2 G2 H'/\RelWs X.K ι2 st2.nxt G2 ys acc/\wpL X m ι2 st2.nxt G2 (compGo rt re (cw cap Γ) (items.drop i) acc st2) Q,
     ⟨items.length, by simp, Nat.zero_le _, Nat.zero_le _, ι1, G1, st1, [], Ext.refl _ _ _, sr1, .nil, by rw [List.drop_zero]; exact q1⟩, ?_⟩
    rintro i k ys H' ⟨rfl, hi', hy, ι2, G2, st2, acc, e2, sr2, ra, q2⟩
    refine ⟨by omega, ?_⟩
    by_cases hlt : i < items.length
    ·have hd : items.drop i = items[i] :: items.drop (i + 1) := Qml hlt
     have hg : items[i]? = some items[i] := QlR hlt
     obtain ⟨g1, g2⟩ := sc.go i items[i] ι2 st2.nxt G2 H' hg e2 sr2.sub
     refine .inr ⟨g1, fun v H'' hy' => ?_⟩
     obtain ⟨eh, rv⟩ := g2 v H'' hy'
     subst eh
     rw [hd] at q2
     have q2' : wpL X m ι2 st2.nxt G2 ((rt (some items[i] :: cw cap Γ) st2).calm.bind fun b st3 => match b with
      | .bl true => (re (some items[i] :: cw cap Γ) st3).calm.bind fun y st4 => compGo rt re (cw cap Γ) (items.drop (i + 1)) (acc ++ [y]) st4
      | .bl false => compGo rt re (cw cap Γ) (items.drop (i + 1)) acc st3
      | _ => .stuck) Q := q2
     have en2 : EnvR X.K ι2 st2.nxt G2 (ie cap σ (some v)) (some items[i] :: cw cap Γ) := QfT cap (en1.mono e2) rv
     refine ⟨ι2, G2, st2, some items[i] :: cw cap Γ, en2, sr2, zl rfl q2' fun b st3 vb ι3 G3 H3 e3 sr3 rb q3 => ?_⟩
     cases b with
     | bl b =>
      cases rb
      refine ⟨b, rfl, ?_⟩
      cases b with
      | true =>
       rw [Qmo rfl]
       refine ⟨ι3, G3, st3, some items[i] :: cw cap Γ, en2.mono e3, sr3, zl rfl q3 fun y st4 vy ι4 G4 H4 e4 sr4 ry q4 => ?_⟩
       refine ⟨items.length - (i + 1), by omega, rfl, hlt, by rw [Qma, Qmi]; omega, ι4, G4, st4, acc ++ [y], (e2.trans e3).trans e4, sr4, ((ra.mono e3).mono e4).append (.cons ry .nil), q4⟩
      | false =>
       rw [Qmp QlQ]
       exact ⟨items.length - (i + 1), by omega, rfl, hlt, by omega, ι3, G3, st3, acc, e2.trans e3, sr3, ra.mono e3, q3⟩
     | _ => exact (show False from q3).elim
    ·have ei : i = items.length := by omega
     subst ei
     rw [List.drop_length] at q2
     refine .inl ⟨sc.stop G2 H' e2.sm sr2.sub, ?_⟩
     have q3 : wpW X ι2 st2.nxt G2 (opL m acc st2) Q := q2
     cases m with
     | true => exact (wp sr2 ra q3).2
     | false => exact (xg sr2 ra q3).2
   ·rw [Qmp hl] at q'; exact (show False from q').elim
 refine ⟨PE.imp (pe_comp hc hi Sc ht he hs) key, fun {i y py spos} hN hy hL hsw => ?_⟩
 exact PS.imp (QiE hN hy hL hc hi Sc ht he hsw hs) fun D σ H h => key σ H _ h
def SpD (K : PySem.W.Frag) (n : Nat) (op : OpN) : Sp := fun vs H Q _ => vs.length = n/\∃ ι G st ws, SR K ι st G H/\RelWs K ι st.nxt G vs ws/\wp0 K ι st.nxt G (op ws st) Q
def ax (op : OpN) : OpN := fun ws st => (op ws st).calm
theorem Qkp {ι : Nat->Addr} {N : Nat} {G : Hp} {r : R W} {Q : VK} (h : wpW X ι N G r.calm Q) : wp0 X.K ι N G r Q := by
 cases r with
 | ok w st => exact h
 | ex c s => exact (show False from h).elim
 | stuck => exact h
theorem pd_call {k n : Nat} {f : Addr} {fd : FuncData} {ps : List Str} {op : OpN} {x : Str} {p pos : Pos} {e : Expr} {es : List Expr} {rr : bw} (F : FnOk X.prog X.w X.K X.mg X.base CX0 k f fd ps (SpD X.K n op)) (hr : Room k X.A) (hg : Gl X x) (hm : X.mg x = some (.ref f)) (hk : PySem.W.keepIn X.K (.ref f) = true)
  (hb : fv X.K fd ps []) (ha : PDA X (e :: es) rr) (hn : ∀ Γ st ws st', rr Γ st = .ok ws st'->ws.length = n) (hdb : (x == ("__debug__" : Str)) = false) (he : starEach (e :: es) X.env = (false, eval e X.env) :: starEach es X.env) (hpl : (backTo pos (starEach es X.env)).any (·.1) = false) :
  PD X (.Call (.Name x p) (e :: es) [] pos) (runN rr (ax op)) := by
 refine PE.imp (pe_call F hr hg hm hk hb .nil pass0 ha hdb he hpl) fun σ H Q h => ?_
 obtain ⟨ι, G, st, Γ, en, sr, q⟩ := h
 refine ⟨ι, G, st, Γ, en, sr, ?_⟩
 unfold runN at q
 cases e1 : rr Γ st with
 | stuck => rw [e1] at q; exact q
 | ex c s => rw [e1] at q; exact q
 | ok ws st1 =>
  rw [e1] at q
  intro vs ι1 G1 H1 x1 sr1 r1
  rw [List.append_nil]
  exact ⟨by rw [r1.length]; exact hn Γ st ws st1 e1, ι1, G1, st1, ws, sr1, r1, Qkp (wpW.later x1 (show wpW X ι st.nxt G (ax op ws st1) Q from q))⟩
end
inductive Fl where
 | nx (Γ : Ga) | rt (w : W) | bk (Γ : Ga) | ct (Γ : Ga)
abbrev av := Ga->S->R Fl
section
variable {X : Cx}
def wpF (X : Cx) (ι : Nat->Addr) (N : Nat) (G : Hp) (r : R Fl) (D : Ends) : Prop := match r with
 | .ok fl st' => ∀ ι' G' H', Ext ι N G ι' st'.nxt G'->SR X.K ι' st' G' H'->(match fl with
  | .nx Γ' => ∀ σ', EnvR X.K ι' st'.nxt G' σ' Γ'->D.nx σ' H'
  | .rt w => ∀ v, RelW X.K ι' st'.nxt G' v w->D.rt v H'
  | .bk Γ' => ∀ σ', EnvR X.K ι' st'.nxt G' σ' Γ'->D.bk σ' H'
  | .ct Γ' => ∀ σ', EnvR X.K ι' st'.nxt G' σ' Γ'->D.ct σ' H')
 | .ex c st' => XW X ι N G c st'
 | .stuck => False
theorem wpF.later {ι ι1 : Nat->Addr} {N N1 : Nat} {G G1 : Hp} {r : R Fl} {D : Ends} (e : Ext ι N G ι1 N1 G1) (h : wpF X ι N G r D) : wpF X ι1 N1 G1 r D := by
 cases r with
 | stuck => exact h
 | ex c s => exact XW.mono e h
 | ok w st' => exact fun ι' G' H' e' sr => h ι' G' H' (e.trans e') sr
theorem ox {ι : Nat->Addr} {N : Nat} {G : Hp} {r : R W} {f : W->S->R Fl} {D : Ends} {Q' : VK} (h : wpF X ι N G (r.bind f) D)
  (k : ∀ w st' v ι' G' H', Ext ι N G ι' st'.nxt G'->SR X.K ι' st' G' H'->RelW X.K ι' st'.nxt G' v w->wpF X ι' st'.nxt G' (f w st') D->Q' v H') : wpW X ι N G r Q' := by
 cases r with
 | stuck => exact h
 | ex c s => exact h
 | ok w st' => exact fun v ι' G' H' e sr rel => k w st' v ι' G' H' e sr rel (wpF.later e (show wpF X ι N G (f w st') D from h))
def tDS (X : Cx) (run : av) : TS := fun D σ H => ∃ ι G st Γ, EnvR X.K ι st.nxt G σ Γ/\SR X.K ι st G H/\wpF X ι st.nxt G (run Γ st) D
abbrev PDS (X : Cx) (s : Stmt) (run : av) : Prop := PS X s (tDS X run)
abbrev jp (X : Cx) (s : List Stmt) (run : av) : Prop := PSs X s (tDS X run)
def ao : av := fun Γ st => .ok (.nx Γ) st
def sBrk : av := fun Γ st => .ok (.bk Γ) st
def sCnt : av := fun Γ st => .ok (.ct Γ) st
def sRetN : av := fun _ st => .ok (.rt .non) st
def ba (r : Run) : av := fun Γ st => (r Γ st).bind fun w st' => .ok (.rt w) st'
def kt (r : Run) : av := fun Γ st => (r Γ st).bind fun _ st' => .ok (.nx Γ) st'
def be (i : Nat) (r : Run) : av := fun Γ st => (r Γ st).bind fun w st' => .ok (.nx (Γ.set i (some w))) st'
def sIf (rc : Run) (a b : av) : av := fun Γ st => (rc Γ st).bind fun w st' => match w with
 | .bl true => a Γ st'
 | .bl false => b Γ st'
 | _ => .stuck
def am (a b : av) : av := fun Γ st => (a Γ st).bind fun fl st' => match fl with
 | .nx Γ' => b Γ' st'
 | fl => .ok fl st'
theorem QkV {pos : Pos} : PDS X (.Pass pos) ao := PS.imp ps_pass fun D σ H ⟨ι, G, _, _, en, sr, q⟩ => q ι G H (Ext.refl _ _ _) sr σ en
theorem pds_brk {pos : Pos} : PDS X (.Break pos) sBrk := PS.imp QkL fun D σ H ⟨ι, G, _, _, en, sr, q⟩ => q ι G H (Ext.refl _ _ _) sr σ en
theorem pds_cnt {pos : Pos} : PDS X (.Continue pos) sCnt := PS.imp Qif fun D σ H ⟨ι, G, _, _, en, sr, q⟩ => q ι G H (Ext.refl _ _ _) sr σ en
theorem QkU {pos : Pos} : PDS X (.Return none pos) sRetN := PS.imp ps_retN fun D σ H ⟨ι, G, _, _, en, sr, q⟩ => q ι G H (Ext.refl _ _ _) sr .non .non
theorem pds_ret {e : Expr} {pos : Pos} {r : Run} (he : PD X e r) : PDS X (.Return (some e) pos) (ba r) := by
 refine PS.imp (ps_ret he) fun D σ H ⟨ι, G, st, Γ, en, sr, q⟩ => ⟨ι, G, st, Γ, en, sr, ox q fun w st1 v ι1 G1 H1 e1 sr1 r1 q1 => ?_⟩
 exact q1 ι1 G1 H1 (Ext.refl _ _ _) sr1 v r1
theorem QkY {e : Expr} {pos : Pos} {r : Run} (he : PD X e r) (hs : swapsWith e none pos.line X.env = pure false) : PDS X (.Expr e pos) (kt r) := by
 refine PS.imp (ps_expr he hs) fun D σ H ⟨ι, G, st, Γ, en, sr, q⟩ => ⟨ι, G, st, Γ, en, sr, ox q fun w st1 v ι1 G1 H1 e1 sr1 r1 q1 => ?_⟩
 exact q1 ι1 G1 H1 (Ext.refl _ _ _) sr1 σ (en.mono e1)
theorem QfW {r : Run} {i : Nat} {D : Ends} {σ : St} {H : Hp} (h : tDS X (be i r) D σ H) : qa (tD X r) (jm i) D σ H := by
 obtain ⟨ι, G, st, Γ, en, sr, q⟩ := h
 refine ⟨ι, G, st, Γ, en, sr, ox q fun w st1 v ι1 G1 H1 e1 sr1 r1 q1 => ?_⟩
 exact q1 ι1 G1 H1 (Ext.refl _ _ _) sr1 _ ((en.mono e1).set i r1)
theorem pds_set {i : Nat} {x : Str} {e : Expr} {pos pos' : Pos} {r : Run} (hN : X.N.Nodup) (hi : X.N[i]? = some x) (hx : Loc X.env.scope x) (he : PD X e r) (hs : swapsWith e (some (.Name x pos')) pos.line X.env = pure false) (hf : X.fn x = true\/X.env.scope.names.lookup x = some .local) :
  PDS X (.Assign [.Name x pos'] e pos) (be i r) := PS.imp (ps_set hN hi hx he hs hf) fun D σ H h => QfW h
theorem pds_if {c : Expr} {a b : List Stmt} {pos : Pos} {rc : Run} {ra rb : av} (hc : PT X c (tDT X rc)) (ha : jp X a ra) (hb : jp X b rb) : PDS X (.If c a b pos) (sIf rc ra rb) := by
 refine PS.imp (ps_if hc ha hb) fun D σ H ⟨ι, G, st, Γ, en, sr, q⟩ => ⟨ι, G, st, Γ, en, sr, ox q fun w st1 v ι1 G1 H1 e1 sr1 r1 q1 => ?_⟩
 cases w with
 | bl b =>
  cases r1
  refine ⟨b, rfl, ?_⟩
  cases b with
  | true => rw [Qmo rfl]; exact ⟨ι1, G1, st1, Γ, en.mono e1, sr1, q1⟩
  | false => rw [Qmp QlQ]; exact ⟨ι1, G1, st1, Γ, en.mono e1, sr1, q1⟩
 | _ => exact (show False from q1).elim
theorem QkT : jp X [] ao := PSs.imp pss_nil fun D σ H ⟨ι, G, _, _, en, sr, q⟩ => q ι G H (Ext.refl _ _ _) sr σ en
theorem QjC {s : Stmt} {ss : List Stmt} {a b : av} (h1 : PDS X s a) (h2 : jp X ss b) : jp X (s :: ss) (am a b) := by
 refine PSs.imp (QkI h1 h2) fun D σ H ⟨ι, G, st, Γ, en, sr, q⟩ => ⟨ι, G, st, Γ, en, sr, ?_⟩
 unfold am at q
 cases e1 : a Γ st with
 | stuck => rw [e1] at q; exact q
 | ex c s => rw [e1] at q; exact q
 | ok fl st1 =>
  rw [e1] at q
  intro ι1 G1 H1 x1 sr1
  cases fl with
  | nx Γ1 => exact fun σ1 en1 => ⟨ι1, G1, st1, Γ1, en1, sr1, wpF.later x1 (show wpF X ι st.nxt G (b Γ1 st1) D from q)⟩
  | rt w => exact q ι1 G1 H1 x1 sr1
  | bk Γ1 => exact q ι1 G1 H1 x1 sr1
  | ct Γ1 => exact q ι1 G1 H1 x1 sr1
def fe (i : Nat) (body : av) : List W->Ga->S->R Fl
 | [], Γ, st => .ok (.nx Γ) st
 | x :: xs, Γ, st => (body (Γ.set i (some x)) st).bind fun fl st' => match fl with
  | .nx Γ' => fe i body xs Γ' st'
  | .ct Γ' => fe i body xs Γ' st'
  | .bk Γ' => .ok (.nx Γ') st'
  | .rt w => .ok (.rt w) st'
def lg (i : Nat) (src : Src) (body : av) : av := fun Γ st => (src Γ st).bind fun items st' => fe i body items Γ st'
theorem pds_for {i : Nat} {x : Str} {px pos : Pos} {iter : Expr} {body : List Stmt} {src : Src} {rb : av} (hp : PassesOwn (model X.prog X.w) X.A X.env X.xe) (hc : X.calm = true) (hi : PDI X (.Name x px) iter src) (hg : PG X (.Name x px) (jm i)) (hb : jp X body rb) (hs : ∀ z, foldedSetIterable iter X.env z = pure z) :
  PDS X (.For (.Name x px) iter body [] pos) (lg i src rb) := by
 refine PS.imp (QbH hp hc hi hg hb hs) fun D σ H ⟨ι, G, st, Γ, en, sr, q⟩ => ⟨ι, G, st, Γ, en, sr, ?_⟩
 unfold lg at q
 cases e1 : src Γ st with
 | stuck => rw [e1] at q; exact q
 | ex c s => rw [e1] at q; exact q
 | ok items st1 =>
  rw [e1] at q
  intro J ι1 G1 H1 x1 sr1 sc
  have q1 : wpF X ι1 st1.nxt G1 (fe i rb items Γ st1) D := wpF.later x1 (show wpF X ι st.nxt G (fe i rb items Γ st1) D from q)
  refine ⟨fun k m σ' H' => m = items.length - k/\k<=items.length/\∃ ι2 G2 st2 Γ2, Ext ι1 st1.nxt G1 ι2 st2.nxt G2/\SR X.K ι2 st2 G2 H'/\EnvR X.K ι2 st2.nxt G2 σ' Γ2/\wpF X ι2 st2.nxt G2 (fe i rb (items.drop k) Γ2 st2) D,
   ⟨items.length, by simp, Nat.zero_le _, ι1, G1, st1, Γ, Ext.refl _ _ _, sr1, en.mono x1, by rw [List.drop_zero]; exact q1⟩, ?_⟩
  rintro k m σ' H' ⟨rfl, hk, ι2, G2, st2, Γ2, e2, sr2, en2, q2⟩
  by_cases hlt : k < items.length
  ·have hd : items.drop k = items[k] :: items.drop (k + 1) := Qml hlt
   have hg' : items[k]? = some items[k] := QlR hlt
   obtain ⟨g1, g2⟩ := sc.go k items[k] ι2 st2.nxt G2 H' hg' e2 sr2.sub
   rw [hd] at q2
   refine .inr ⟨g1, fun σ3 H3 => ∃ ι3 G3 st3 Γ3, Ext ι1 st1.nxt G1 ι3 st3.nxt G3/\SR X.K ι3 st3 G3 H3/\EnvR X.K ι3 st3.nxt G3 σ3 Γ3/\wpF X ι3 st3.nxt G3 (fe i rb (items.drop (k + 1)) Γ3 st3) D,
    fun σ3 H3 h3 => ⟨items.length - (k + 1), by omega, rfl, hlt, h3⟩, fun v H'' hy => ?_⟩
   obtain ⟨eh, rv⟩ := g2 v H'' hy
   subst eh
   refine ⟨ι2, G2, st2, Γ2.set i (some items[k]), en2.set i rv, sr2, ?_⟩
   have q2' : wpF X ι2 st2.nxt G2 ((rb (Γ2.set i (some items[k])) st2).bind fun fl st' => match fl with
    | .nx Γ' => fe i rb (items.drop (k + 1)) Γ' st'
    | .ct Γ' => fe i rb (items.drop (k + 1)) Γ' st'
    | .bk Γ' => .ok (.nx Γ') st'
    | .rt w => .ok (.rt w) st') D := q2
   cases e3 : rb (Γ2.set i (some items[k])) st2 with
   | stuck => rw [e3] at q2'; exact q2'
   | ex c s => rw [e3] at q2'; exact q2'
   | ok fl st3 =>
    rw [e3] at q2'
    intro ι3 G3 H3 x3 sr3
    cases fl with
    | nx Γ3 => exact fun σ3 en3 => ⟨ι3, G3, st3, Γ3, e2.trans x3, sr3, en3, wpF.later x3 q2'⟩
    | ct Γ3 => exact fun σ3 en3 => ⟨ι3, G3, st3, Γ3, e2.trans x3, sr3, en3, wpF.later x3 q2'⟩
    | bk Γ3 => exact q2' ι3 G3 H3 x3 sr3
    | rt w => exact q2' ι3 G3 H3 x3 sr3
  ·have ek : k = items.length := by omega
   subst ek
   rw [List.drop_length] at q2
   exact .inl ⟨sc.stop G2 H' e2.sm sr2.sub, q2 ι2 G2 H' (Ext.refl _ _ _) sr2 σ' en2⟩
def putAt (n : Nat) (k : Int) (v : W) (st : S) : Option MO->R Unit
 | some (.lst ws) => (match ixN ws.length k with | some j => .ok () (st.put n (.lst (ws.set j v))) | none => .stuck)
 | _ => .stuck
def zr : W->W->W->S->R Unit := fun o i v st => match o, i with
 | .ref n, .int k => putAt n k v st (st.mu n)
 | _, _ => .stuck
def Qbj (ro ri rv : Run) : av := fun Γ st => (rv Γ st).bind fun v st1 => (ro Γ st1).bind fun o st2 => (ri Γ st2).bind fun i st3 => (zr o i v st3).bind fun _ st4 => .ok (.nx Γ) st4
theorem QiH {o i e : Expr} {pos tpos : Pos} {ro ri rv : Run} (ho : PD X o ro) (hi : PD X i ri) (he : PD X e rv) (hg : ∀ {t : yn}, PSet X t->PG X (.Subscript o i tpos) (gSub (tD X ro) (tD X ri) t)) (hs : swapsWithSole [.Subscript o i tpos] e pos.line X.env = pure false) (hw : swappedStores [.Subscript o i tpos] e X.env = pure none) :
  PDS X (.Assign [.Subscript o i tpos] e pos) (Qbj ro ri rv) := by
 refine PS.imp (ps_asg he (hg QkD) hs hw) fun D σ H ⟨ι, G, st, Γ, en, sr, q⟩ => ⟨ι, G, st, Γ, en, sr, ox q fun w st1 v ι1 G1 H1 e1 sr1 r1 q1 => ?_⟩
 refine ⟨ι1, G1, st1, Γ, en.mono e1, sr1, ox q1 fun wo st2 vo ι2 G2 H2 e2 sr2 r2 q2 => ?_⟩
 refine ⟨ι2, G2, st2, Γ, (en.mono e1).mono e2, sr2, ox q2 fun wi st3 vi ι3 G3 H3 e3 sr3 r3 q3 => ?_⟩
 have r1' := (r1.mono e2).mono e3
 have r2' := r2.mono e3
 cases wo with
 | ref n =>
  cases wi with
  | int k =>
   cases r3
   cases r2'
   have q3 : wpF X ι3 st3.nxt G3 ((putAt n k w st3 (st3.mu n)).bind fun x st4 => .ok (.nx Γ) st4) D := q3
   cases em : st3.mu n with
   | none => rw [em] at q3; exact (show False from q3).elim
   | some ob =>
    cases ob with
    | dct ks vs => rw [em] at q3; exact (show False from q3).elim
    | lst ws =>
     rw [em] at q3
     have q3 : wpF X ι3 st3.nxt G3 ((match ixN ws.length k with | some j => R.ok () (st3.put n (.lst (ws.set j w))) | none => R.stuck).bind fun x st4 => .ok (.nx Γ) st4) D := q3
     cases ej : ixN ws.length k with
     | none => rw [ej] at q3; exact (show False from q3).elim
     | some j =>
      rw [ej] at q3
      obtain ⟨_, _, xs, hx, rx⟩ := sr3.live n _ em
      refine ⟨_, xs, k, j, rfl, rfl, hx, by rw [rx.length]; exact ej, ?_⟩
      have sr4 := sr3.putL em (rx.set r1' j)
      exact q3 ι3 G3 _ (Ext.refl _ _ _) sr4 σ (((en.mono e1).mono e2).mono e3)
  | _ => exact (show False from q3).elim
 | _ => exact (show False from q3).elim
def frzs (f : W->Option W) : List W->Option (List W)
 | [] => some []
 | x :: xs => match f x, frzs f xs with
  | some y, some ys => some (y :: ys)
  | _, _ => none
def frz (N : Nat) (mu : Nat->Option MO) : Nat->W->Option W
 | 0, _ => none
 | k + 1, w => match w with
  | .ref n => if n < N then some (.ref n) else (match mu n with
   | some (.lst xs) => (frzs (frz N mu k) xs).map W.lst
   | some (.dct ks xs) => (frzs (frz N mu k) xs).map (W.dct ks)
   | none => none)
  | .tup xs => (frzs (frz N mu k) xs).map W.tup
  | .lst xs => (frzs (frz N mu k) xs).map W.lst
  | .dct ks xs => (frzs (frz N mu k) xs).map (W.dct ks)
  | w => some w
section
variable {K : PySem.W.Frag} {ι ι' : Nat->Addr} {N N' : Nat} {G G' : Hp}
theorem RelW.low {v0 : V} {w : W} (h : RelW K ι N G v0 w) : ∀ v, RelW K ι' N' G' v w->RelW K ι' N G' v w := by
 refine RelW.rec (motive_1 := fun _ w _ => ∀ v, RelW K ι' N' G' v w->RelW K ι' N G' v w) (motive_2 := fun _ ws _ => ∀ vs, RelWs K ι' N' G' vs ws->RelWs K ι' N G' vs ws) ?_ ?_ ?_ ?_ ?_ ?_ ?_ ?_ ?_ ?_ ?_ ?_ h
 ·intro v r; cases r; exact .non
 ·intro b v r; cases r; exact .bl b
 ·intro i v r; cases r; exact .int i
 ·intro x v r; cases r; exact .str x
 ·intro n v r; cases r; exact .ty n
 ·intro a xs ws _ _ _ ih v r; cases r with | tup s c t => exact .tup s c (ih _ t)
 ·intro a xs ws _ _ ih v r; cases r with | lst s t => exact .lst s (ih _ t)
 ·intro a xs ks ws _ _ _ ih v r; cases r with | dct s l t => exact .dct s l (ih _ t)
 ·intro n hn v r; cases r; exact .ref hn
 ·intro a C x _ _ v r; cases r with | exn s n => exact .exn s n
 ·intro vs r; cases r; exact .nil
 ·intro x w xs ws _ _ i1 i2 vs r; cases r with | cons r t => exact .cons (i1 _ r) (i2 _ t)
theorem RelWs.low : ∀ {vs0 : List V} {ws : List W} {vs : List V}, RelWs K ι N G vs0 ws->RelWs K ι' N' G' vs ws->RelWs K ι' N G' vs ws
 | _, _, _, .nil, .nil => .nil
 | _, _, _, .cons r0 t0, .cons r t => .cons (r0.low _ r) (RelWs.low t0 t)
theorem qy {f : W->Option W} (hf : ∀ v w w', RelW K ι N' G v w->f w = some w'->RelW K ι N G' v w') : ∀ {vs : List V} {ws ws' : List W}, RelWs K ι N' G vs ws->frzs f ws = some ws'->RelWs K ι N G' vs ws'
 | _, _, _, .nil, h => by cases h; exact .nil
 | _, w :: ws, ws', .cons r t, h => by
  unfold frzs at h
  cases e1 : f w with
  | none => rw [e1] at h; cases h
  | some y =>
   cases e2 : frzs f ws with
   | none => rw [e1, e2] at h; cases h
   | some ys =>
    rw [e1, e2] at h
    cases h
    exact .cons (hf _ _ _ r e1) (qy hf t e2)
theorem Qbr {mu : Nat->Option MO} (sm : ee G G') (hmu : ∀ n o, N<=n->mu n = some o->MOR K ι N' G G' (ι n) o) : ∀ (k : Nat) (v : V) (w w' : W), RelW K ι N' G v w->frz N mu k w = some w'->RelW K ι N G' v w'
 | 0, _, _, _, _, h => by cases h
 | k + 1, v, w, w', r, h => by
  have ih := Qbr sm hmu k
  unfold frz at h
  cases r with
  | non => cases h; exact .non
  | bl b => cases h; exact .bl b
  | int i => cases h; exact .int i
  | str x => cases h; exact .str x
  | ty n => cases h; exact .ty n
  | exn s n => cases h; exact .exn (sm _ _ s) n
  | @tup a xs ws s c t =>
   have h : (frzs (frz N mu k) ws).map W.tup = some w' := h
   cases e : frzs (frz N mu k) ws with
   | none => rw [e] at h; cases h
   | some ys => rw [e] at h; cases h; exact .tup (sqT_same sm s) (fun h => sm _ _ (c h)) (qy ih t e)
  | @lst a xs ws s t =>
   have h : (frzs (frz N mu k) ws).map W.lst = some w' := h
   cases e : frzs (frz N mu k) ws with
   | none => rw [e] at h; cases h
   | some ys => rw [e] at h; cases h; exact .lst (sm.seq s) (qy ih t e)
  | @dct a xs ks ws s l t =>
   have h : (frzs (frz N mu k) ws).map (W.dct ks) = some w' := h
   cases e : frzs (frz N mu k) ws with
   | none => rw [e] at h; cases h
   | some ys => rw [e] at h; cases h; exact .dct (sm _ _ s) l (qy ih t e)
  | @ref n hn =>
   have h : (if n < N then some (W.ref n) else (match mu n with
    | some (.lst xs) => (frzs (frz N mu k) xs).map W.lst
    | some (.dct ks xs) => (frzs (frz N mu k) xs).map (W.dct ks)
    | none => none)) = some w' := h
   by_cases hl : n < N
   ·rw [Qmo hl] at h; cases h; exact .ref hl
   ·rw [Qmp hl] at h
    cases em : mu n with
    | none => rw [em] at h; cases h
    | some o =>
     rw [em] at h
     have m := hmu n o (Nat.le_of_not_lt hl) em
     cases o with
     | lst ws =>
      obtain ⟨xs, h1, t⟩ := m
      have h : (frzs (frz N mu k) ws).map W.lst = some w' := h
      cases e : frzs (frz N mu k) ws with
      | none => rw [e] at h; cases h
      | some ys => rw [e] at h; cases h; exact .lst (SqL.of h1) (qy ih t e)
     | dct ks ws =>
      obtain ⟨xs, h1, l, t⟩ := m
      have h : (frzs (frz N mu k) ws).map (W.dct ks) = some w' := h
      cases e : frzs (frz N mu k) ws with
      | none => rw [e] at h; cases h
      | some ys => rw [e] at h; cases h; exact .dct h1 l (qy ih t e)
end
theorem SR.kept {K : PySem.W.Frag} {ι ι' : Nat->Addr} {st st' : S} {G G' H H' : Hp} (sr0 : SR K ι st G H) (e : Ext ι st.nxt G ι' st'.nxt G') (sr1 : SR K ι' st' G' H') (hs : ∀ n, n < st.nxt->st'.mu n = st.mu n) :
  ∃ G'', Ext ι st.nxt G ι' st.nxt G''/\SR K ι' st G'' H'/\(∀ (k : Nat) (v : V) (w w' : W), RelW K ι' st'.nxt G' v w->frz st.nxt st'.mu k w = some w'->RelW K ι' st.nxt G'' v w') /\
   ∀ a, (¬ ∃ n o, st.nxt<=n/\st'.mu n = some o/\ι' n = a)->G'' a = G' a := by
 have hold : ∀ n o, st.mu n = some o->n < st.nxt/\st'.mu n = some o := fun n o h => by
  have l := (sr0.live n o h).1
  exact ⟨l, by rw [hs n l]; exact h⟩
 let P : Addr->Prop := fun a => ∃ n o, st.nxt<=n/\st'.mu n = some o/\ι' n = a
 let G'' : Hp := fun a => @ite _ (P a) (Classical.propDecidable _) (H' a) (G' a)
 have g1 : ∀ a, P a->G'' a = H' a := fun a h => @if_pos _ (Classical.propDecidable _) h _ _ _
 have g2 : ∀ a, ¬ P a->G'' a = G' a := fun a h => @if_neg _ (Classical.propDecidable _) h _ _ _
 have sm : ee G' G'' := fun a u h => by
  by_cases p : P a
  ·obtain ⟨n, o, _, h2, h3⟩ := p
   have := (sr1.live n o h2).2.1
   rw [h3, h] at this
   cases this
  ·rw [g2 a p]; exact h
 have sub : ee G'' H' := fun a u h => by
  by_cases p : P a
  ·rw [g1 a p] at h; exact h
  ·rw [g2 a p] at h; exact sr1.sub a u h
 refine ⟨G'', ⟨QlX _, e.ag, e.sm.trans sm⟩, ⟨sub, fun n o h => ?_, fun n m o o' h h' z => sr1.inj n m o o' (hold n o h).2 (hold m o' h').2 z⟩, ?_, g2⟩
 ·obtain ⟨l, h'⟩ := hold n o h
  have np : ¬ P (ι' n) := fun ⟨m, o', h1, h2, h3⟩ => by
   have := sr1.inj m n o' o h2 h' h3
   omega
  obtain ⟨_, a2, a3⟩ := sr1.live n o h'
  have ex : Ext ι' st'.nxt G' ι' st'.nxt G'' := ⟨QlX _, fun _ _ => rfl, sm⟩
  refine ⟨l, by rw [g2 _ np]; exact a2, ?_⟩
  have b3 := (sr0.live n o h).2.2
  cases o with
  | lst ws => obtain ⟨xs, q, t⟩ := a3; obtain ⟨_, _, t0⟩ := b3; exact ⟨xs, q, RelWs.low t0 (t.mono ex)⟩
  | dct ks ws => obtain ⟨xs, q, z, t⟩ := a3; obtain ⟨_, _, _, t0⟩ := b3; exact ⟨xs, q, z, RelWs.low t0 (t.mono ex)⟩
 ·refine Qbr sm fun n o hn h => ?_
  have p : P (ι' n) := ⟨n, o, hn, h, rfl⟩
  have a3 := (sr1.live n o h).2.2
  cases o with
  | lst ws => obtain ⟨xs, q, t⟩ := a3; exact ⟨xs, by rw [g1 _ p]; exact q, t⟩
  | dct ks ws => obtain ⟨xs, q, z, t⟩ := a3; exact ⟨xs, by rw [g1 _ p]; exact q, z, t⟩
noncomputable def keep (st st' : S) (w : W) : R W := @ite _ (∀ n, n < st.nxt->st'.mu n = st.mu n) (Classical.propDecidable _) (match frz st.nxt st'.mu 12 w with
 | some w' => .ok w' st
 | none => .stuck) .stuck
theorem xh {st st' : S} {w w' : W} (h : ∀ n, n < st.nxt->st'.mu n = st.mu n) (e : frz st.nxt st'.mu 12 w = some w') : keep st st' w = .ok w' st := by
 unfold keep
 rw [Qmo h, e]
theorem Qln {st st' : S} {w : W} (h : keep st st' w ≠ .stuck) : (∀ n, n < st.nxt->st'.mu n = st.mu n)/\∃ w', frz st.nxt st'.mu 12 w = some w'/\keep st st' w = .ok w' st := by
 by_cases hs : ∀ n, n < st.nxt->st'.mu n = st.mu n
 ·refine ⟨hs, ?_⟩
  cases e : frz st.nxt st'.mu 12 w with
  | none => exact absurd (by unfold keep; rw [Qmo hs, e]) h
  | some w' => exact ⟨w', rfl, xh hs e⟩
 ·exact absurd (by unfold keep; rw [Qmp hs]) h
theorem SR.adopt {K : PySem.W.Frag} {ι : Nat->Addr} {st : S} {G H : Hp} {p : Addr} {o : MO} (h : SR K ι st G H) (hG : G p = none) (hne : ∀ m o, st.mu m = some o->ι m ≠ p) (mor : MOR K ι st.nxt G H p o) :
  ∃ ι', Ext ι st.nxt G ι' (st.nxt + 1) G/\SR K ι' (st.new o) G H/\ι' st.nxt = p := by
 have ex : Ext ι st.nxt G (fun n => if n = st.nxt then p else ι n) (st.nxt + 1) G := ⟨Nat.le_succ _, fun n hn => Qmp (Qme hn), ee.refl G⟩
 have up : ∀ {a : Addr} {q : MO}, MOR K ι st.nxt G H a q->MOR K (fun n => if n = st.nxt then p else ι n) (st.nxt + 1) G H a q := by
  intro a q m
  cases q with
  | lst ws => obtain ⟨xs, q, r⟩ := m; exact ⟨xs, q, r.mono ex⟩
  | dct ks ws => obtain ⟨xs, q, l, r⟩ := m; exact ⟨xs, q, l, r.mono ex⟩
 refine ⟨fun n => if n = st.nxt then p else ι n, ex, ⟨h.sub, fun n q e => ?_, fun n m q q' e e' z => ?_⟩, Qmo rfl⟩
 ·by_cases hn : n = st.nxt
  ·subst hn
   have e' : (if st.nxt = st.nxt then some o else st.mu st.nxt) = some q := e
   rw [Qmo rfl] at e'
   cases e'
   refine ⟨Nat.lt_succ_self _, ?_, ?_⟩
   ·(try dsimp only); rw [Qmo rfl]; exact hG
   ·(try dsimp only); rw [Qmo rfl]; exact up mor
  ·have e' : (if n = st.nxt then some o else st.mu n) = some q := e
   rw [Qmp hn] at e'
   obtain ⟨h1, h2, h3⟩ := h.live n q e'
   refine ⟨Nat.lt_succ_of_lt h1, ?_, ?_⟩
   ·(try dsimp only); rw [Qmp hn]; exact h2
   ·(try dsimp only); rw [Qmp hn]; exact up h3
 ·have e1 : (if n = st.nxt then some o else st.mu n) = some q := e
  have e2 : (if m = st.nxt then some o else st.mu m) = some q' := e'
  (try dsimp only at z)
  by_cases hn : n = st.nxt
  ·by_cases hm : m = st.nxt
   ·rw [hn, hm]
   ·rw [Qmp hm] at e2
    rw [Qmo hn, Qmp hm] at z
    exact absurd z.symm (hne m q' e2)
  ·rw [Qmp hn] at e1
   by_cases hm : m = st.nxt
   ·rw [Qmp hn, Qmo hm] at z
    exact absurd z (hne n q e1)
   ·rw [Qmp hm] at e2
    rw [Qmp hn, Qmp hm] at z
    exact h.inj n m q q' e1 e2 z
noncomputable def nw (fz : Nat) (st st' : S) (w : W) : R W := match fz with
 | 0 => .ok w st'
 | 1 => keep st st' w
 | _ => .stuck
noncomputable def jl (fz : Nat) (st : S) : R Fl->R W
 | .ok (.rt w) st' => nw fz st st' w
 | .ok (.nx _) st' => nw fz st st' .non
 | _ => .stuck
noncomputable def di (n nl fz : Nat) (run : av) : OpN := fun ws st => if ws.length = n then jl fz st (run (ws.map some ++ List.replicate (nl - n) none) st) else .stuck
theorem QfC {K : PySem.W.Frag} {ι ι1 : Nat->Addr} {st0 st1 : S} {G G1 H0 H1 : Hp} {fz : Nat} {w1 : W} {v : V} (sr : SR K ι st0 G H0) (x1 : Ext ι st0.nxt G ι1 st1.nxt G1) (sr1 : SR K ι1 st1 G1 H1) (r1 : RelW K ι1 st1.nxt G1 v w1)
  (ns : nw fz st0 st1 w1 ≠ .stuck) : ∃ w' st' ι' G', nw fz st0 st1 w1 = .ok w' st'/\Ext ι st0.nxt G ι' st'.nxt G'/\SR K ι' st' G' H1/\RelW K ι' st'.nxt G' v w' := by
 have one : keep st0 st1 w1 ≠ .stuck->∃ w' st' ι' G', keep st0 st1 w1 = .ok w' st'/\Ext ι st0.nxt G ι' st'.nxt G'/\SR K ι' st' G' H1/\RelW K ι' st'.nxt G' v w' := fun ns => by
  obtain ⟨hs, w', e, ek⟩ := Qln ns
  obtain ⟨G2, e2, sr2, rel, _⟩ := sr.kept x1 sr1 hs
  exact ⟨w', st0, ι1, G2, ek, e2, sr2, rel 12 v w1 w' r1 e⟩
 match fz with
 | 0 => exact ⟨w1, st1, ι1, G1, rfl, x1, sr1, r1⟩
 | 1 => exact one ns
 | k + 2 => exact absurd rfl ns
theorem QfB {K : PySem.W.Frag} {ι ι1 : Nat->Addr} {st0 st1 : S} {G G1 H0 H1 : Hp} {fz : Nat} {w1 : W} {v : V} {Q : VK} (sr : SR K ι st0 G H0) (x1 : Ext ι st0.nxt G ι1 st1.nxt G1) (sr1 : SR K ι1 st1 G1 H1) (r1 : RelW K ι1 st1.nxt G1 v w1)
  (q : wp0 K ι st0.nxt G (nw fz st0 st1 w1) Q) : Q v H1 := by
 obtain ⟨w', st', ι', G', e, ex, sr', r'⟩ := QfC (fz := fz) sr x1 sr1 r1 (fun z => by rw [z] at q; exact q)
 rw [e] at q
 exact q v ι' G' H1 ex sr' r'
theorem QdI {K : PySem.W.Frag} {ι : Nat->Addr} {N : Nat} {G : Hp} {vs : List V} {ws : List W} {Ns : List Str} (t : RelWs K ι N G vs ws) : EnvR K ι N G (L2.start Ns vs) (ws.map some ++ List.replicate (Ns.length - ws.length) none) := by
 unfold L2.start
 rw [t.length]
 refine ⟨by simp [t.length], fun i w h => ?_⟩
 by_cases hi : i < ws.length
 ·rw [List.getElem?_append_left (by simpa using hi), Qmf] at h
  cases e : ws[i]? with
  | none => rw [e] at h; cases h
  | some u =>
   rw [e] at h
   cases h
   obtain ⟨v, h1, h2⟩ := t.get e
   refine ⟨v, ?_, h2⟩
   rw [List.getElem?_append_left (by rw [QlY, t.length]; exact hi), Qmf, h1]; rfl
 ·rw [List.getElem?_append_right (by simpa using hi), List.getElem?_replicate] at h
  split at h <;> cases h
theorem fn_body {P : Program} {w : World} {K : PySem.W.Frag} {mg : Str->Option Value} {base : Heap} {x qual : Str} {st : Stmt} {f : Addr} {fd : FuncData} {N ps : List Str} {k fz : Nat} {run : av} (F : Fun K x qual st f fd) (Sc : FnScope N ps (aw st))
  (hb : ∀ (cdv : Value) (A : Around) (outer : List Env) (s : Shared) (H : Hp) (E : XK), Room k (A.deeper (envOfC qual (aw st) s.heap.objs.size f cdv))->jp (nb CX0 P w K mg base N qual (aw st) f cdv A outer s H E).nox (bt st) run) :
  FnOk P w K mg base CX0 (k + 1) f fd ps (SpD K ps.length (di ps.length N.length fz run)) := by
 refine Fun.ok F Sc (fun vs H Q E h => h.1) fun cdv A outer s H vs Q E hr hsp => ⟨_, hb cdv A outer s H E hr, ?_⟩
 obtain ⟨hl, ι, G, st0, ws, sr, t, q⟩ := hsp
 have hlw : ws.length = ps.length := by rw [<-t.length]; exact hl
 refine ⟨ι, G, st0, ws.map some ++ List.replicate (N.length - ws.length) none, QdI t, sr, ?_⟩
 unfold di at q
 rw [Qmo hlw, <-hlw] at q
 cases e : run (ws.map some ++ List.replicate (N.length - ws.length) none) st0 with
 | stuck => rw [e] at q; exact q
 | ex c s => rw [e] at q; exact (show False from q).elim
 | ok fl st1 =>
  rw [e] at q
  intro ι1 G1 H1 x1 sr1
  cases fl with
  | nx Γ1 => exact fun σ1 en1 => QfB (fz := fz) (w1 := .non) sr x1 sr1 .non q
  | rt w1 => exact fun v r1 => QfB (fz := fz) sr x1 sr1 r1 q
  | bk Γ1 => exact (show False from q).elim
  | ct Γ1 => exact (show False from q).elim
end
end DL
namespace L2
open PySem PySem.Spec PyProof.Rows
theorem Inv.big' {X : Cx} {QlP : List (Addr × Obj)} {σ : L2.St} {H : Hp} {s : Shared} (I : Inv X QlP σ H s) : sysModules < s.heap.objs.size := by
 have h : mainGlobals < s.heap.objs.size := (I.mod.glob.keeps I.bk).lt
 exact Nat.lt_trans (by decide) h
theorem QjZ {P : Program} {w : World} {H : Hp} (h : Heap) (hb : sysModules < h.objs.size) : dm P w H (h.push { cls := .type "dict", data := .dict #[] }) h.objs.size (.dK []) :=
 ⟨Nat.zero_le _, beq_eq_false_iff_ne.mpr (Ne.symm (Qme hb)), [], .nil, Heap.DictOf.new h⟩
theorem QkQ {X : Cx} {pos : Pos} : PE X (.Dict [] [] pos) (fun _ H Q => ∀ p, H p = none->Q (.ref p) (upd H p (.dK []))) := fun QlP s σ H Q I h =>
 wpAny_Dict_empty ⟨.ref s.heap.objs.size, _, I.laid (a := s.heap.objs.size) (o := .dK []) (t' := s.toks) (fun _ _ q => QlS _ q) (QlX _) (QjZ s.heap I.big'), rfl, h _ (I.hok.fresh (QlX _))⟩
section
variable {X : Cx}
variable {k : Nat} {f : Addr} {fd : FuncData} {pn : Str} {sp : Sp}
end
end L2
namespace DL
open PySem PySem.Spec PyProof.Rows L2
section
variable {X : Cx}
def se : Run := fun _ st => .ok (.dct [] []) st
theorem Qlc {pos : Pos} : PD X (.Dict [] [] pos) se := by
 refine PE.imp QkQ fun σ H Q h => ?_
 obtain ⟨ι, G, st, Γ, en, sr, q⟩ := h
 intro p hp
 obtain ⟨sr2, e2⟩ := sr.laid (o := dKo []) hp
 exact q _ ι _ _ e2 sr2 (.dct (xs := []) cn rfl .nil)
section
variable {K : PySem.W.Frag} {ι : Nat->Addr} {N : Nat} {G : Hp}
end
end
noncomputable def tj (st st' : S) (c : W) : R W := @ite _ (∀ n, n < st.nxt->st'.mu n = st.mu n) (Classical.propDecidable _) (.ex c st) .stuck
theorem zj {st st' : S} {c : W} (h : ∀ n, n < st.nxt->st'.mu n = st.mu n) : tj st st' c = .ex c st := by
 unfold tj; rw [Qmo h]
noncomputable def du (fz : Nat) (st : S) : R Fl->R W
 | .ok (.rt w) st' => nw fz st st' w
 | .ok (.nx _) st' => nw fz st st' .non
 | .ex c st' => (match fz with
  | 0 => .ex c st'
  | _ => tj st st' c)
 | _ => .stuck
noncomputable def gm (n nl fz : Nat) (run : av) : OpN := fun ws st => if ws.length = n then du fz st (run (ws.map some ++ List.replicate (nl - n) none) st) else .stuck
def wpX (K : PySem.W.Frag) (ι : Nat->Addr) (N : Nat) (G : Hp) (r : R W) (Q : VK) (E : XK) : Prop := match r with
 | .ok w st' => ∀ v ι' G' H', Ext ι N G ι' st'.nxt G'->SR K ι' st' G' H'->RelW K ι' st'.nxt G' v w->Q v H'
 | .ex c st' => ∀ ι' G' H' cls, Ext ι N G ι' st'.nxt G'->SR K ι' st' G' H'->ClsR K c cls->E cls none H'
 | .stuck => False
def SpX (K : PySem.W.Frag) (n : Nat) (op : OpN) : Sp := fun vs H Q E => vs.length = n/\∃ ι G st ws, SR K ι st G H/\RelWs K ι st.nxt G vs ws/\wpX K ι st.nxt G (op ws st) Q E
theorem QeH {K : PySem.W.Frag} {ι ι1 : Nat->Addr} {st0 st1 : S} {G G1 H0 H1 : Hp} {fz : Nat} {w1 : W} {v : V} {Q : VK} {E : XK} (sr : SR K ι st0 G H0) (x1 : Ext ι st0.nxt G ι1 st1.nxt G1) (sr1 : SR K ι1 st1 G1 H1) (r1 : RelW K ι1 st1.nxt G1 v w1)
  (q : wpX K ι st0.nxt G (nw fz st0 st1 w1) Q E) : Q v H1 := by
 obtain ⟨w', st', ι', G', e, ex, sr', r'⟩ := QfC (fz := fz) sr x1 sr1 r1 (fun z => by rw [z] at q; exact q)
 rw [e] at q
 exact q v ι' G' H1 ex sr' r'
theorem Qll {K : PySem.W.Frag} {ι ι1 : Nat->Addr} {st0 st1 : S} {G G1 H0 H1 : Hp} {fz : Nat} {c : W} {cls : Value} {Q : VK} {E : XK} (sr : SR K ι st0 G H0) (x1 : Ext ι st0.nxt G ι1 st1.nxt G1) (sr1 : SR K ι1 st1 G1 H1) (cl : ClsR K c cls)
  (q : wpX K ι st0.nxt G (du fz st0 (.ex c st1)) Q E) : E cls none H1 := by
 cases fz with
 | zero => exact q ι1 G1 H1 cls x1 sr1 cl
 | succ fz =>
  have q : wpX K ι st0.nxt G (tj st0 st1 c) Q E := q
  by_cases hs : ∀ n, n < st0.nxt->st1.mu n = st0.mu n
  ·rw [zj hs] at q
   obtain ⟨G2, e2, sr2, _⟩ := sr.kept x1 sr1 hs
   exact q ι1 G2 H1 cls e2 sr2 cl
  ·unfold tj at q
   rw [Qmp hs] at q
   exact q.elim
section
variable {X : Cx}
theorem Qlf {b : Bool} {k n : Nat} {f : Addr} {fd : FuncData} {ps : List Str} {op : OpN} {x : Str} {p pos : Pos} {e : Expr} {es : List Expr} {rr : bw} (F : FnX b X.prog X.w X.K X.mg X.base k f fd ps (SpX X.K n op)) (hr : RoomB b k X.A) (hg : Gl X x) (hm : X.mg x = some (.ref f)) (hk : PySem.W.keepIn X.K (.ref f) = true)
  (hb : fv X.K fd ps []) (ha : PDA X (e :: es) rr) (hn : ∀ Γ st ws st', rr Γ st = .ok ws st'->ws.length = n) (hdb : (x == ("__debug__" : Str)) = false) (he : starEach (e :: es) X.env = (false, eval e X.env) :: starEach es X.env) (hpl : (backTo pos (starEach es X.env)).any (·.1) = false) :
  PD X (.Call (.Name x p) (e :: es) [] pos) (runN rr op) := by
 refine PE.imp (Qez F hr hg hm hk hb ha hdb he hpl) fun σ H Q h => ?_
 obtain ⟨ι, G, st, Γ, en, sr, q⟩ := h
 refine ⟨ι, G, st, Γ, en, sr, ?_⟩
 unfold runN at q
 cases e1 : rr Γ st with
 | stuck => rw [e1] at q; exact q
 | ex c s => rw [e1] at q; exact q
 | ok ws st1 =>
  rw [e1] at q
  intro vs ι1 G1 H1 x1 sr1 r1
  have q1 : wpW X ι1 st1.nxt G1 (op ws st1) Q := wpW.later x1 (show wpW X ι st.nxt G (op ws st1) Q from q)
  refine ⟨fun cls _ H' => ∃ ι' G' c st', op ws st1 = .ex c st'/\Ext ι1 st1.nxt G1 ι' st'.nxt G'/\SR X.K ι' st' G' H'/\ClsR X.K c cls, fun QlP σ2 H2 s2 v s' I2 hx => ?_, by rw [r1.length]; exact hn Γ st ws st1 e1, ι1, G1, st1, ws, sr1, r1, ?_⟩
  ·obtain ⟨ea, cls, H', rfl, ei, ι', G', c, st', e2, x2, sr2, cl⟩ := iq.called I2 hx
   rw [e2] at q1
   exact q1 H' ι' G' ea cls s' x2 sr2 cl ei
  ·cases e2 : op ws st1 with
   | stuck => rw [e2] at q1; exact q1
   | ok w st2 => rw [e2] at q1; exact q1
   | ex c st2 => exact fun ι' G' H' cls x2 sr2 cl => ⟨ι', G', c, st2, rfl, x2, sr2, cl⟩
theorem QjG {b : Bool} {k n : Nat} {f : Addr} {fd : FuncData} {ps : List Str} {op : OpN} {x : Str} {p pos : Pos} {e : Expr} {es : List Expr} {rr : bw} (F : FnX b X.prog X.w X.K X.mg X.base k f fd ps (SpX X.K n op)) (hr : RoomB b k X.A) (hg : Gl X x) (hm : X.mg x = some (.ref f)) (hk : PySem.W.keepIn X.K (.ref f) = true)
  (hb : fv X.K fd ps []) (ha : PDA X (e :: es) rr) (hn : ∀ Γ st ws st', rr Γ st = .ok ws st'->ws.length = n) (hdb : (x == ("__debug__" : Str)) = false) (he : starEach (e :: es) X.env = (false, eval e X.env) :: starEach es X.env) (hpl : (backTo pos (starEach es X.env)).any (·.1) = false) :
  PD X (.Call (.Name x p) (e :: es) [] pos) (runN rr (ax op)) := by
 refine PE.imp (Qez F hr hg hm hk hb ha hdb he hpl) fun σ H Q h => ?_
 obtain ⟨ι, G, st, Γ, en, sr, q⟩ := h
 refine ⟨ι, G, st, Γ, en, sr, ?_⟩
 unfold runN at q
 cases e1 : rr Γ st with
 | stuck => rw [e1] at q; exact q
 | ex c s => rw [e1] at q; exact q
 | ok ws st1 =>
  rw [e1] at q
  intro vs ι1 G1 H1 x1 sr1 r1
  have q1 : wpW X ι1 st1.nxt G1 (op ws st1).calm Q := wpW.later x1 (show wpW X ι st.nxt G (ax op ws st1) Q from q)
  refine ⟨fun _ _ _ => False, fun QlP σ2 H2 s2 v s' I2 hx => ?_, by rw [r1.length]; exact hn Γ st ws st1 e1, ι1, G1, st1, ws, sr1, r1, ?_⟩
  ·obtain ⟨_, _, _, _, _, z⟩ := iq.called I2 hx
   exact z.elim
  ·cases e2 : op ws st1 with
   | stuck => rw [e2] at q1; exact q1
   | ok w st2 => rw [e2] at q1; exact q1
   | ex c st2 => rw [e2] at q1; exact (show False from q1).elim
theorem Fun.okX {b : Bool} {P : Program} {w : World} {K : PySem.W.Frag} {mg : Str->Option Value} {base : Heap} {x qual : Str} {st : Stmt} {f : Addr} {fd : FuncData} {N ps : List Str} {k fz : Nat} {run : av} (F : Fun K x qual st f fd) (Sc : FnScope N ps (aw st))
  (hb : ∀ (cdv : Value) (A : Around) (outer : List Env) (s : Shared) (H : Hp) (Φ : Value->Hp->Prop), RoomB b k (A.deeper (envOfC qual (aw st) s.heap.objs.size f cdv)) ->
   jp ((cxB b P w K mg base N qual (aw st) f cdv A outer s H).wish (XE (cxB b P w K mg base N qual (aw st) f cdv A outer s H) Φ)) (bt st) run) :
  FnX b P w K mg base (k + 1) f fd ps (SpX K ps.length (gm ps.length N.length fz run)) := by
 obtain ⟨oc, od, kV, doc, pm, an, cdv, ct, osl, rfl, lk, hcd⟩ := F.ex
 refine fn_ofX lk hcd Sc (fun vs H Q E h => h.1) fun A outer s H vs Q E hr hsp => ⟨_, hb cdv A outer s H (fun cls H' => E cls none H') hr, ?_⟩
 obtain ⟨hl, ι, G, st0, ws, sr, t, q⟩ := hsp
 have hlw : ws.length = ps.length := by rw [<-t.length]; exact hl
 refine ⟨ι, G, st0, ws.map some ++ List.replicate (N.length - ws.length) none, QdI t, sr, ?_⟩
 unfold gm at q
 rw [Qmo hlw, <-hlw] at q
 cases e : run (ws.map some ++ List.replicate (N.length - ws.length) none) st0 with
 | stuck => rw [e] at q; exact q
 | ex c st1 =>
  rw [e] at q
  intro H' ι' G' ea cls s' x1 sr1 cl ei
  exact ⟨ea, cls, H', rfl, iq.unwish ei, Qll (fz := fz) sr x1 sr1 cl q⟩
 | ok fl st1 =>
  rw [e] at q
  intro ι1 G1 H1 x1 sr1
  cases fl with
  | nx Γ1 => exact fun σ1 en1 => QeH (fz := fz) (w1 := .non) sr x1 sr1 .non q
  | rt w1 => exact fun v r1 => QeH (fz := fz) sr x1 sr1 r1 q
  | bk Γ1 => exact (show False from q).elim
  | ct Γ1 => exact (show False from q).elim
def sd (x : Str) (rr : bw) : av := fun Γ st => (rr Γ st).bind fun ws st' => if ws.length<=sizeLine then .ex (.str x) st' else .stuck
theorem QjF {x : Str} {C : Addr} {np cpos pos : Pos} {e : Expr} {es : List Expr} {rr : bw} (hc : X.calm = true) (c : ExCls X.K x C) (hg : Gl X x) (ha : PDA X (e :: es) rr) (hdb : (x == ("__debug__" : Str)) = false)
  (he : starEach (e :: es) X.env = (false, eval e X.env) :: starEach es X.env) (hpl : (backTo cpos (starEach es X.env)).any (·.1) = false) :
  PDS X (.Raise (some (.Call (.Name x np) (e :: es) [] cpos)) none pos) (sd x rr) := by
 refine PS.imp (QkJ hc c hg ha hdb he hpl) fun D σ H h => ?_
 obtain ⟨ι, G, st, Γ, en, sr, q⟩ := h
 refine ⟨ι, G, st, Γ, en, sr, ?_⟩
 unfold sd at q
 cases e1 : rr Γ st with
 | stuck => rw [e1] at q; exact q
 | ex c s => rw [e1] at q; exact q
 | ok ws st1 =>
  rw [e1] at q
  intro vs ι1 G1 H1 x1 sr1 r1
  have q1 : wpF X ι st.nxt G (if ws.length<=sizeLine then .ex (.str x) st1 else .stuck) D := q
  by_cases hl : ws.length<=sizeLine
  ·rw [Qmo hl] at q1
   exact ⟨by rw [r1.length]; exact hl, fun ea s' ei => q1 H1 ι1 G1 ea (.ref C) s' x1 sr1 ⟨x, C, rfl, c.ns, rfl⟩ ei⟩
  ·rw [Qmp hl] at q1; exact q1.elim
def wpF0 (K : PySem.W.Frag) (ι : Nat->Addr) (N : Nat) (G : Hp) (r : R Fl) (D : Ends) : Prop := match r with
 | .ok fl st' => ∀ ι' G' H', Ext ι N G ι' st'.nxt G'->SR K ι' st' G' H'->(match fl with
  | .nx Γ' => ∀ σ', EnvR K ι' st'.nxt G' σ' Γ'->D.nx σ' H'
  | .rt w => ∀ v, RelW K ι' st'.nxt G' v w->D.rt v H'
  | .bk Γ' => ∀ σ', EnvR K ι' st'.nxt G' σ' Γ'->D.bk σ' H'
  | .ct Γ' => ∀ σ', EnvR K ι' st'.nxt G' σ' Γ'->D.ct σ' H')
 | _ => False
def tDS0 (K : PySem.W.Frag) (run : av) : TS := fun D σ H => ∃ ι G st Γ, EnvR K ι st.nxt G σ Γ/\SR K ι st G H/\wpF0 K ι st.nxt G (run Γ st) D
theorem Qky {run : av} {D : Ends} {σ : St} {H : Hp} (h : tDS0 X.K run D σ H) : tDS X run D σ H := by
 obtain ⟨ι, G, st, Γ, en, sr, q⟩ := h
 refine ⟨ι, G, st, Γ, en, sr, ?_⟩
 cases e : run Γ st with
 | ok fl st' => rw [e] at q; exact q
 | ex c s => rw [e] at q; exact q.elim
 | stuck => rw [e] at q; exact q
def Qav (i : Nat) : R Fl->R Fl
 | .ok (.nx Γ) st => .ok (.nx (Γ.set i none)) st
 | .ok (.bk Γ) st => .ok (.bk (Γ.set i none)) st
 | .ok (.ct Γ) st => .ok (.ct (Γ.set i none)) st
 | .ok (.rt w) st => .ok (.rt w) st
 | _ => .stuck
def oh (nl i : Nat) (tab : List (Str × Bool)) (rb rs : av) : av := fun Γ st => match rb Γ st with
 | .ok fl st' => .ok fl st'
 | .ex (.str x) st' => (match tab.lookup x with
  | some true => Qav i (rs ((List.replicate nl none).set i (some (.exn x))) st')
  | some false => .ex (.str x) st'
  | none => .stuck)
 | _ => .stuck
theorem EnvR.drop {K : PySem.W.Frag} {ι : Nat->Addr} {N : Nat} {G : Hp} {σ : St} {Γ : Ga} (h : EnvR K ι N G σ Γ) (i : Nat) : EnvR K ι N G (σ.set i none) (Γ.set i none) := by
 refine ⟨by rw [List.length_set, List.length_set]; exact h.len, fun j u q => ?_⟩
 rw [List.getElem?_set] at q ⊢
 by_cases hij : i = j
 ·rw [Qmo hij] at q
  split at q <;> cases q
 ·rw [Qmp hij] at q ⊢
  exact h.get j u q
theorem pds_try {body suite : List Stmt} {b₀ : Stmt} {x n : Str} {np hpos pos : Pos} {i : Nat} {c : Value} {tab : List (Str × Bool)} {rb rs : av} (O : OwnFr X) (hN : X.N.Nodup) (hi : X.N[i]? = some n) (hx : X.env.scope.names.lookup n = some .local) (hg : Gl X x) (hm : X.mg x = some c)
  (ht : ∀ y b, tab.lookup y = some b->∃ C, PySem.W.nsIn X.K mainGlobals y = some (some (.ref C))/\PySem.W.exmOne X.K (.ref C) c = some b)
  (hb : ∀ pn Φ, jp (X.tryB pn Φ) body rb) (hs : ∀ ea, jp (X.suite ea) (b₀ :: suite) rs) (hdb : (x == ("__debug__" : Str)) = false) :
  PDS X (.Try body [.ExceptHandler (some (.Name x np)) (some n) (b₀ :: suite) hpos] [] [] pos) (oh X.N.length i tab rb rs) := by
 refine PS.imp (ps_try (tb := fun pn Φ => tDS (X.tryB pn Φ) rb) (ts := tDS0 X.K rs) O hN hi hx hg hm hb (fun ea => PSs.imp (hs ea) fun D σ H h => Qky (X := X.suite ea) h) hdb) fun D σ H h pn => ?_
 obtain ⟨ι, G, st, Γ, en, sr, q⟩ := h
 refine ⟨ι, G, st, Γ, en, sr, ?_⟩
 unfold oh at q
 cases e1 : rb Γ st with
 | stuck => rw [e1] at q; exact q
 | ok fl st1 => rw [e1] at q; exact q
 | ex c1 st1 =>
  rw [e1] at q
  intro H' ι' G' ea cls s' x1 sr1 cl ei
  obtain ⟨y, C, rfl, ns, rfl⟩ := cl
  refine ⟨ea, .ref C, H', rfl, iq.unwish ei, ?_⟩
  have q1 : wpF X ι st.nxt G (match tab.lookup y with
   | some true => Qav i (rs ((List.replicate X.N.length none).set i (some (.exn y))) st1)
   | some false => .ex (.str y) st1
   | none => .stuck) D := q
  cases e2 : tab.lookup y with
  | none => rw [e2] at q1; exact (show False from q1).elim
  | some b =>
   rw [e2] at q1
   obtain ⟨C', ns', ex⟩ := ht y b e2
   have ns : PySem.W.nsIn X.K mainGlobals y = some (some (.ref C)) := ns
   rw [ns] at ns'
   cases ns'
   refine ⟨b, ex, fun hb' ea2 hn => ?_, fun hb' ea2 s2 ei2 => ?_⟩
   ·subst hb'
    obtain ⟨s2, e3⟩ := SR.laid (K := X.K) (o := .ext (exPh ea2 (.ref C))) sr1 hn
    have en2 : EnvR X.K ι' st1.nxt (upd G' ea2 (.ext (exPh ea2 (.ref C)))) ((List.replicate X.N.length none).set i (some (.ref ea2))) ((List.replicate X.N.length none).set i (some (.exn y))) :=
     EnvR.set (⟨by simp, fun j w e => by rw [List.getElem?_replicate] at e; split at e <;> cases e⟩) i (.exn cn ns)
    refine ⟨ι', _, st1, _, en2, s2, ?_⟩
    have q2 : wpF X ι st.nxt G (Qav i (rs ((List.replicate X.N.length none).set i (some (.exn y))) st1)) D := q1
    cases e4 : rs ((List.replicate X.N.length none).set i (some (.exn y))) st1 with
    | stuck => rw [e4] at q2; exact q2
    | ex c2 s2 => rw [e4] at q2; exact q2
    | ok fl st2 =>
     rw [e4] at q2
     intro ι2 G2 H2 x2 sr2
     have x3 := (x1.trans e3).trans x2
     cases fl with
     | nx Γ2 => exact fun σ2 en3 => q2 ι2 G2 H2 x3 sr2 (σ2.set i none) (en3.drop i)
     | bk Γ2 => exact fun σ2 en3 => q2 ι2 G2 H2 x3 sr2 (σ2.set i none) (en3.drop i)
     | ct Γ2 => exact fun σ2 en3 => q2 ι2 G2 H2 x3 sr2 (σ2.set i none) (en3.drop i)
     | rt w2 => exact fun v r => q2 ι2 G2 H2 x3 sr2 v r
   ·subst hb'
    exact q1 H' ι' G' ea2 (.ref C) s2 x1 sr1 ⟨y, C, rfl, ns, rfl⟩ ei2
end
section
variable {X : Cx}
def jx (tab : List (Str × Bool)) : W->S->R W := fun w st => match w with
 | .exn x => (match tab.lookup x with
  | some b => .ok (.bl b) st
  | none => .stuck)
 | _ => .stuck
theorem QlJ : ls X (.builtin "isinstance") (fun xs H Q => ∃ e C vc c b, xs = [.ref e, vc]/\aq vc c/\(∀ u, aq vc u->u = c)/\H e = some (.ext (exPh e (.ref C)))/\ExAt X.K C/\PySem.W.kitOne X.K (.ref C) c = some b/\Q (.bl b) H) := by
 intro QlP s σ H xs us Q I r ⟨e, C, vc, c, b, ex, rc, un, he, F, k, q⟩
 subst ex
 match us, r with
 | [u1, u2], .cons r1 (.cons r2 .nil) =>
  cases (show u1 = Value.ref e from r1)
  cases un u2 r2
  exact QjV I he F k fun tk => ⟨.bl b, H, I.tok _, rfl, q⟩
theorem pd_isx {a : Expr} {y : Str} {p p2 pos : Pos} {ra : Run} {tab : List (Str × Bool)} {vc : V} {c : Value} (hg : Gl X "isinstance") (hm : X.mg "isinstance" = none) (ha : PD X a ra) (hy : PE X (.Name y p2) (tC vc)) (rc : aq vc c) (un : ∀ u, aq vc u->u = c)
  (ht : ∀ x b, tab.lookup x = some b->∃ C, PySem.W.nsIn X.K mainGlobals x = some (some (.ref C))/\ExAt X.K C/\PySem.W.kitOne X.K (.ref C) c = some b)
  (hs : starEach [a, .Name y p2] X.env = (false, eval a X.env) :: starEach [.Name y p2] X.env) (hs2 : starEach [.Name y p2] X.env = (false, eval (.Name y p2) X.env) :: starEach [] X.env) (hpl : (backTo pos (starEach [.Name y p2] X.env)).any (·.1) = false) :
  PD X (.Call (.Name "isinstance" p) [a, .Name y p2] [] pos) (gd ra (jx tab)) := by
 refine PE.imp (QeA QlJ hg hm (by decide +kernel) (Qbn ha (Qbn hy Qgk hs2) hs) (by decide) (by decide) hs hpl) fun σ H Q ⟨ι, G, st, Γ, en, sr, q⟩ => ?_
 refine ⟨ι, G, st, Γ, en, sr, wpW.bind q fun w st1 v ι1 G1 H1 _ e1 sr1 r1 q1 => ?_⟩
 unfold jx at q1
 cases w with
 | exn x =>
  cases r1 with
  | @exn e C _ hG ns =>
   have q2 : wpW X ι1 st1.nxt G1 (match tab.lookup x with
    | some b => .ok (.bl b) st1
    | none => .stuck) Q := q1
   cases e2 : tab.lookup x with
   | none => rw [e2] at q2; exact (show False from q2).elim
   | some b =>
    rw [e2] at q2
    obtain ⟨C', ns', F, k⟩ := ht x b e2
    rw [ns] at ns'; cases ns'
    exact ⟨e, C, vc, c, b, rfl, rc, un, sr1.sub _ _ hG, F, k, q2 (.bl b) ι1 G1 H1 (Ext.refl _ _ _) sr1 (.bl b)⟩
 | _ => exact (show False from q1).elim
end
section
variable {X : Cx}
def Qab : Expr->Bool
 | .Call _ [] [] _ => false
 | _ => true
theorem QdA {o : Expr} {m : Str} {env : Env} {w : Sem Value} (h : Qab o = true) : attributeBase o m env w = w := by
 unfold attributeBase
 split
 ·exact absurd (show false = true from h) QlQ
 ·rfl
theorem Qkr {ι : Nat->Addr} {G H : Hp} {st : S} {v : V} {w : W} {T : String} (sr : SR X.K ι st G H) (r : RelW X.K ι st.nxt G v w) (k : jg st w = some T) (hT : T = "str"\/T = "list"\/T = "dict") : tyV X.K T v H := by
 cases r with
 | non => cases k; exact absurd hT (by decide)
 | bl b => cases k; exact absurd hT (by decide)
 | int i => cases k; exact absurd hT (by decide)
 | str x => cases k; exact rfl
 | ty n => cases k
 | tup s c t => cases k; exact absurd hT (by decide)
 | lst s t => cases k; exact .inl ⟨rfl, _, sr.sub.seq s⟩
 | dct s l t => cases k; exact .inr (.inr (.inl ⟨rfl, QfQ (sr.sub _ _ s)⟩))
 | exn s n => cases k
 | @ref n hn =>
  have k : MO.kind (st.mu n) = some T := k
  cases e : st.mu n with
  | none => rw [e] at k; cases k
  | some o =>
   rw [e] at k
   obtain ⟨_, _, h3⟩ := sr.live n o e
   cases o with
   | lst zs => cases k; obtain ⟨vs, qv, _⟩ := h3; exact .inl ⟨rfl, vs, SqL.of qv⟩
   | dct ks zs => cases k; obtain ⟨xs, qv, _, _⟩ := h3; exact .inr (.inr (.inl ⟨rfl, QfQ qv⟩))
abbrev OpM := W->List W->S->R W
def rMt (X : Cx) (op : OpM) : V->List V->Hp->VK->Prop := fun x xs H Q => ∃ ι G st w ws, SR X.K ι st G H/\RelW X.K ι st.nxt G x w/\RelWs X.K ι st.nxt G xs ws/\wpW X ι st.nxt G (op w ws st) Q
def ci (T : String) (ro : Run) (rr : bw) (op : OpM) : Run := fun Γ st => (ro Γ st).bind fun w st1 => if jg st1 w = some T then (rr Γ st1).bind fun ws st2 => op w ws st2 else .stuck
theorem Qfo {T : String} {ro : Run} {rr : bw} {op : OpM} {σ : St} {H : Hp} {Q : VK} (hT : T = "str"\/T = "list"\/T = "dict") (h : tD X (ci T ro rr op) σ H Q) :
  tD X ro σ H fun x H1 => tyV X.K T x H1/\tDA X rr σ H1 fun xs H2 => rMt X op x xs H2 Q := by
 obtain ⟨ι, G, st, Γ, en, sr, q⟩ := h
 refine ⟨ι, G, st, Γ, en, sr, wpW.bind q fun w st1 v ι1 G1 H1 _ e1 sr1 r1 q1 => ?_⟩
 by_cases hk : jg st1 w = some T
 ·rw [Qmo hk] at q1
  refine ⟨Qkr sr1 r1 hk hT, ι1, G1, st1, Γ, en.mono e1, sr1, ?_⟩
  cases e2 : rr Γ st1 with
  | stuck => rw [e2] at q1; exact q1
  | ex c s => rw [e2] at q1; exact q1
  | ok ws st2 =>
   rw [e2] at q1
   intro vs ι2 G2 H2 x2 sr2 r2
   exact ⟨ι2, G2, st2, w, ws, sr2, r1.mono x2, r2, wpW.later x2 (show wpW X ι1 st1.nxt G1 (op w ws st2) Q from q1)⟩
 ·rw [Qmp hk] at q1; exact q1.elim
theorem pd_mt {o e : Expr} {es : List Expr} {m : Str} {apos cpos : Pos} {T id : String} {ro : Run} {rr : bw} {op : OpM} (hT : T = "str"\/T = "list"\/T = "dict") (pa : PlainAttrs T) (slot : Slot T m id) (hty : typeOf (.builtin id) = pure (.type "method_descriptor")) (hm : MtR X id (rMt X op)) (ho : PD X o ro) (ha : PDA X (e :: es) rr) (hb : Qab o = true)
  (hfew : ((backTo cpos (starEach (e :: es) X.env)).all (fun x => !x.1) && (backToKw cpos (keywordEach [] X.env)).all (fun x => x.1.isSome)
   && decide ((e :: es).length + ([] : List Keyword).length + (if ([] : List Keyword).isEmpty then 0 else 1) < 30)) = true)
  (hline : (apos.endLine == cpos.line) = true) (hs : starEach (e :: es) X.env = (false, eval e X.env) :: starEach es X.env) (hplain : (backTo cpos (starEach es X.env)).any (·.1) = false) :
  PD X (.Call (.Attribute o m apos) (e :: es) [] cpos) (ci T ro rr op) :=
 PE.imp (pe_bm pa slot hty hm ho ha (QdA hb) hfew hline hs hplain) fun _ _ _ h => Qfo hT h
theorem pd_mt0 {o : Expr} {m : Str} {apos cpos : Pos} {T id : String} {ro : Run} {op : OpM} (hT : T = "str"\/T = "list"\/T = "dict") (pa : PlainAttrs T) (slot : Slot T m id) (hty : typeOf (.builtin id) = pure (.type "method_descriptor")) (hm : MtR X id (rMt X op)) (ho : PD X o ro) (hb : Qab o = true) (hline : (apos.endLine == cpos.line) = true) :
  PD X (.Call (.Attribute o m apos) [] [] cpos) (ci T ro al op) := by
 refine PE.imp (pe_bm0 pa slot hty hm ho (QdA hb) hline) fun σ H Q h => ?_
 obtain ⟨ι, G, st, Γ, en, sr, q⟩ := Qfo hT h
 refine ⟨ι, G, st, Γ, en, sr, wpW.mono q fun v H1 ⟨h1, ι1, G1, st1, Γ1, _, sr1, q1⟩ => ⟨h1, ?_⟩⟩
 exact q1 [] ι1 G1 H1 (Ext.refl _ _ _) sr1 .nil
def iy : OpM := fun w ws st => match w, ws with
 | .ref n, [y] => (match st.mu n with
  | some (.lst xs) => if xs.length < sizeLine then .ok .non (st.put n (.lst (xs ++ [y]))) else .stuck
  | _ => .stuck)
 | _, _ => .stuck
theorem QjN : MtR X "list.append" (rMt X iy) := by
 intro QlP s σ H x xs v us Q I rx rv ⟨ι, G, st, w, ws, sr, r, t, q⟩
 unfold iy at q
 split at q
 ·rename_i n y
  cases t with
  | @cons x1 _ xs1 _ r1 t1 =>
   cases t1
   cases r with
   | ref hn =>
    have q : wpW X ι st.nxt G (match st.mu n with
     | some (.lst xs) => if xs.length < sizeLine then .ok .non (st.put n (.lst (xs ++ [y]))) else .stuck
     | _ => .stuck) Q := q
    cases e : st.mu n with
    | none => rw [e] at q; exact (show False from q).elim
    | some o =>
     cases o with
     | dct ks zs => rw [e] at q; exact (show False from q).elim
     | lst zs =>
      rw [e] at q
      have q : wpW X ι st.nxt G (if zs.length < sizeLine then .ok .non (st.put n (.lst (zs ++ [y]))) else .stuck) Q := q
      by_cases hl : zs.length < sizeLine
      ·rw [Qmo hl] at q
       obtain ⟨_, _, xs2, hH, t2⟩ := sr.live n _ e
       refine QjO QlP s σ H _ _ v us Q I rx rv ⟨ι n, xs2, x1, rfl, rfl, hH, by rw [t2.length]; exact hl, ?_⟩
       exact q .non ι G _ (Ext.refl _ _ _) (sr.putL e (t2.append (.cons r1 .nil))) .non
      ·rw [Qmp hl] at q; exact q.elim
 ·exact (show False from q).elim
def jw : List W->Option (List Str)
 | [] => some []
 | .str x :: ws => (jw ws).map (x :: ·)
 | _ => none
theorem QaN {K : PySem.W.Frag} {ι : Nat->Addr} {N : Nat} {G : Hp} : ∀ {xs : List V} {ws : List W} {us : List Value} {ys : List Str}, RelWs K ι N G xs ws->bb xs us->jw ws = some ys->StrsAre us ys
 | _, _, _, _, .nil, .nil, h => by cases h; exact .nil
 | _, _, _, _, .cons r t, .cons rv tv, h => by
  rename_i x w xs ws u us
  cases w with
  | str z =>
   have h : (jw ws).map (z :: ·) = some _ := h
   cases e : jw ws with
   | none => rw [e] at h; cases h
   | some zs =>
    rw [e] at h
    cases h
    cases r
    have ih := QaN t tv e
    obtain ⟨tk, e2⟩ := (show ∃ t, u = Value.str z t from rv)
    cases e2
    exact .cons z tk ih
  | _ => cases h
def pc : OpM := fun w ws st => match w, ws with
 | .str x, [l] => (match eo st l with
  | some zs => (match jw zs with
   | some ys => if x.length<=16/\(ys.map (·.length)).sum + ys.length<=1048576 then .ok (.str (PySem.Txt.join x ys)) st else .stuck
   | none => .stuck)
  | none => .stuck)
 | _, _ => .stuck
theorem mw_join : MtR X "str.join" (rMt X pc) := by
 intro QlP s σ H x xs v us Q I rx rv ⟨ι, G, st, w, ws, sr, r, t, q⟩
 unfold pc at q
 split at q
 ·rename_i z l
  cases t with
  | @cons x1 _ xs1 _ r1 t1 =>
   cases t1
   cases r
   obtain ⟨tk, ev⟩ := (show ∃ t, v = Value.str z t from rx)
   subst ev
   obtain ⟨u1, eu, ru⟩ := rv.one
   subst eu
   have q : wpW X ι st.nxt G (match eo st l with
    | some zs => (match jw zs with
     | some ys => if z.length<=16/\(ys.map (·.length)).sum + ys.length<=1048576 then .ok (.str (PySem.Txt.join z ys)) st else .stuck
     | none => .stuck)
    | none => .stuck) Q := q
   cases e1 : eo st l with
   | none => rw [e1] at q; exact (show False from q).elim
   | some zs =>
    rw [e1] at q
    have q : wpW X ι st.nxt G (match jw zs with
     | some ys => if z.length<=16/\(ys.map (·.length)).sum + ys.length<=1048576 then .ok (.str (PySem.Txt.join z ys)) st else .stuck
     | none => .stuck) Q := q
    cases e2 : jw zs with
    | none => rw [e2] at q; exact (show False from q).elim
    | some ys =>
     rw [e2] at q
     have q : wpW X ι st.nxt G (if z.length<=16/\(ys.map (·.length)).sum + ys.length<=1048576 then .ok (.str (PySem.Txt.join z ys)) st else .stuck) Q := q
     by_cases hl : z.length<=16/\(ys.map (·.length)).sum + ys.length<=1048576
     ·rw [Qmo hl] at q
      have fin : ∀ t' k, EP X QlP σ Q (.str (PySem.Txt.join z ys) t') { s with toks := k } := fun t' k => ⟨.str _, H, I.tok _, ⟨t', rfl⟩, q _ ι G H (Ext.refl _ _ _) sr (.str _)⟩
      have lst : ∀ {a : Addr} {vs : List V}, x1 = .ref a->SqL X.K H a vs->RelWs X.K ι st.nxt G vs zs->wpAny (model X.prog X.w) X.A (call (.builtin "str.join") [.str z tk, u1]) (EP X QlP σ Q) X.xe s := by
       intro a vs ex hq tt
       subst ex
       cases (show u1 = Value.ref a from ru)
       obtain ⟨its, tv, pl, _⟩ := I.list hq
       exact join_listW pl.isList (by simpa using QaN tt tv e2) hl.1 hl.2 fin
      cases r1 with
      | lst sq tt => cases e1; exact lst rfl (sr.sub.seq sq) tt
      | tup sq cq tt =>
       cases e1
       cases (show u1 = Value.ref _ from ru)
       obtain ⟨its, tv, pl, _⟩ := I.tuple (sqT_same sr.sub sq)
       exact join_tupleW pl (by simpa using QaN tt tv e2) hl.1 hl.2 fin
      | @ref n hn =>
       obtain ⟨vs, hq, tt⟩ := wd sr e1
       exact lst rfl hq tt
      | _ => cases e1
     ·rw [Qmp hl] at q; exact q.elim
 ·exact (show False from q).elim
structure Mth (X : Cx) (m : Str) (T id : String) (op : OpM) : Prop where
 hT : T = "str"\/T = "list"\/T = "dict"
 pa : PlainAttrs T
 slot : Slot T m id
 hty : typeOf (.builtin id) = pure (.type "method_descriptor")
 hm : MtR X id (rMt X op)
theorem Qlk : Mth X "join" "str" "str.join" pc := ⟨.inl rfl, F.plainAttrs_str, F.slot_str_join, F.type_str_join, mw_join⟩
theorem QiM : Mth X "append" "list" "list.append" iy := ⟨.inr (.inl rfl), F.plainAttrs_list, F.slot_list_append, F.type_list_append, QjN⟩
end
section
variable {X : Cx}
end
section
variable {X : Cx}
end
section
variable {X : Cx}
def isD : W->W->Option Bool
 | .non, .non => some true
 | .non, .bl _ => some false
 | .bl _, .non => some false
 | .bl a, .bl b => some (a == b)
 | .int _, .non => some false
 | .int _, .bl _ => some false
 | .str _, .non => some false
 | .str _, .bl _ => some false
 | .tup _, .non => some false
 | .tup _, .bl _ => some false
 | .lst _, .non => some false
 | .lst _, .bl _ => some false
 | .dct _ _, .non => some false
 | .dct _ _, .bl _ => some false
 | .ref _, .non => some false
 | .ref _, .bl _ => some false
 | .exn _, .non => some false
 | .exn _, .bl _ => some false
 | _, _ => none
theorem Qgq {K : PySem.W.Frag} {ι : Nat->Addr} {N : Nat} {G : Hp} {x y : V} {w1 w2 : W} {v u : Value} {b : Bool} (rx : aq x v) (ry : aq y u) (r1 : RelW K ι N G x w1) (r2 : RelW K ι N G y w2) (h : isD w1 w2 = some b) : plainIs v u = true/\(v == u) = b := by
 cases r2 with
 | non =>
  cases (show u = Value.none from ry)
  cases r1 <;> first
   | (cases h; cases (show v = Value.none from rx); exact ⟨rfl, rfl⟩)
   | (cases h; cases (show v = Value.bool _ from rx); exact ⟨rfl, rfl⟩)
   | (cases h; obtain ⟨t, e⟩ := (show ∃ t, v = Value.int _ t from rx); cases e; exact ⟨rfl, rfl⟩)
   | (cases h; obtain ⟨t, e⟩ := (show ∃ t, v = Value.str _ t from rx); cases e; exact ⟨rfl, rfl⟩)
   | (cases h; cases (show v = Value.ref _ from rx); exact ⟨rfl, rfl⟩)
   | (cases h; done)
 | bl c =>
  cases (show u = Value.bool c from ry)
  cases r1 <;> first
   | (cases h; cases (show v = Value.none from rx); exact ⟨rfl, rfl⟩)
   | (cases h; cases (show v = Value.bool _ from rx); rename_i d; refine ⟨rfl, ?_⟩; cases d <;> cases c <;> rfl)
   | (cases h; obtain ⟨t, e⟩ := (show ∃ t, v = Value.int _ t from rx); cases e; exact ⟨rfl, rfl⟩)
   | (cases h; obtain ⟨t, e⟩ := (show ∃ t, v = Value.str _ t from rx); cases e; exact ⟨rfl, rfl⟩)
   | (cases h; cases (show v = Value.ref _ from rx); exact ⟨rfl, rfl⟩)
   | (cases h; done)
 | _ => cases w1 <;> cases h
def ir : Op2 := fun a b st => match isD a b with
 | some c => .ok (.bl c) st
 | none => .stuck
def lj : Op2 := fun a b st => match isD a b with
 | some c => .ok (.bl (!c)) st
 | none => .stuck
theorem opw_is : OpW X (compareOp .Is) ir := by
 intro QlP s σ H ι G st x y w1 w2 v u Q I sr rx ry r1 r2 q
 unfold ir at q
 cases e : isD w1 w2 with
 | none => rw [e] at q; exact (show False from q).elim
 | some c =>
  rw [e] at q
  obtain ⟨h1, h2⟩ := Qgq rx ry r1 r2 e
  refine wpAny_is_plain h1 ?_
  rw [h2]
  exact ⟨.bl c, H, I, rfl, q (.bl c) ι G H (Ext.refl _ _ _) sr (.bl c)⟩
theorem QjI : OpW X (compareOp .IsNot) lj := by
 intro QlP s σ H ι G st x y w1 w2 v u Q I sr rx ry r1 r2 q
 unfold lj at q
 cases e : isD w1 w2 with
 | none => rw [e] at q; exact (show False from q).elim
 | some c =>
  rw [e] at q
  obtain ⟨h1, h2⟩ := Qgq rx ry r1 r2 e
  refine wpAny_isNot_plain h1 ?_
  rw [h2]
  exact ⟨.bl (!c), H, I, rfl, q (.bl (!c)) ι G H (Ext.refl _ _ _) sr (.bl (!c))⟩
end
section
variable {X : Cx}
def keyW0 : W->Option Key
 | .int i => some (.inl i)
 | .str x => some (.inr x)
 | _ => none
def pq : List W->Option (List Key)
 | [] => some []
 | w :: ws => (match keyW0 w, pq ws with | some k, some ks => some (k :: ks) | _, _ => none)
def fi : W->Option ar
 | .int i => some (.inl (.inl i))
 | .str x => some (.inl (.inr x))
 | .tup ws => (match pq ws with | some k => some (.inr k) | none => none)
 | _ => none
def KIs (H : Hp) (v : V) : ar->Prop
 | .inl k => v = kV k
 | .inr t => ∃ b, v = .ref b/\H b = some (.tup (t.map kV))
theorem KIs.mono {H H' : Hp} {v : V} {k : ar} (h : KIs H v k) (s : ee H H') : KIs H' v k := by
 cases k with
 | inl k => exact h
 | inr t => obtain ⟨b, e, q⟩ := h; exact ⟨b, e, s _ _ q⟩
def okD (ks : List ar) (k : ar) : Bool := ks.all fun j => isK j == isK k
theorem allK {kvs : List (ar × V)} {k : Key} (h : okD (kvs.map (·.1)) (.inl k) = true) : (kvs.all fun p => isK p.1) = true := by
 unfold okD at h
 rw [List.all_map] at h
 rw [Qmv] at h ⊢
 intro p hp
 have := h p hp
 simpa [isK] using this
theorem allT {kvs : List (ar × V)} {t : List Key} (h : okD (kvs.map (·.1)) (.inr t) = true) : ∀ p ∈ kvs, isK p.1 = false := by
 unfold okD at h
 rw [List.all_map, Qmv] at h
 intro p hp
 have := h p hp
 simpa [isK] using this
theorem qb {kvs : List (ar × V)} (h0 : kvs ≠ []) (h : ∀ p ∈ kvs, isK p.1 = false) : ¬ (kvs.all fun p => isK p.1) = true := by
 intro z
 rw [Qmv] at z
 cases kvs with
 | nil => exact h0 rfl
 | cons p r => have := z p (QlU ..); rw [h p (QlU ..)] at this; cases this
theorem xq (k : Key) : ∀ kvs : List (ar × V), (kvs.all fun p => isK p.1) = true->cz (kvs.map fun p => (kOf p.1, p.2)) k = cz kvs (.inl k)
 | [], _ => rfl
 | p :: r, h => by
  rw [List.all_cons, Qmj] at h
  obtain ⟨j, v⟩ := p
  cases j with
  | inr t => cases h.1
  | inl j =>
   rw [Qms]
   by_cases e : j = k
   ·rw [mi (p := (kOf (.inl j), v)) e, mi (p := ((.inl j : ar), v)) (by rw [e])]
   ·rw [mj (p := (kOf (.inl j), v)) e, mj (p := ((.inl j : ar), v)) (fun z => e (by cases z; rfl))]
    exact xq k r h.2
theorem xp (k : List Key) : ∀ kvs : List (ar × V), (∀ p ∈ kvs, isK p.1 = false)->cz (kvs.map fun p => (tOf p.1, p.2)) k = cz kvs (.inr k)
 | [], _ => rfl
 | p :: r, h => by
  have h1 := h p (QlU ..)
  obtain ⟨j, v⟩ := p
  cases j with
  | inl t => cases h1
  | inr j =>
   rw [Qms]
   by_cases e : j = k
   ·rw [mi (p := (tOf (.inr j), v)) e, mi (p := ((.inr j : ar), v)) (by rw [e])]
   ·rw [mj (p := (tOf (.inr j), v)) e, mj (p := ((.inr j : ar), v)) (fun z => e (by cases z; rfl))]
    exact xp k r fun q hq => h q (QlZ _ hq)
theorem Qgh (k : Key) (y : V) (kvs : List (ar × V)) (h : (kvs.all fun p => isK p.1) = true) : (putK kvs (.inl k) y).map (fun p => (kOf p.1, p.2)) = putK (kvs.map fun p => (kOf p.1, p.2)) k y/\((putK kvs (.inl k) y).all fun p => isK p.1) = true := by
 unfold putK
 rw [qr, qr, xq k kvs h]
 rw [Qmv] at h
 split
 ·rw [List.map_map, List.map_map]
  refine ⟨List.map_congr_left fun p hp => ?_, ?_⟩
  ·obtain ⟨j, v⟩ := p
   have := h _ hp
   cases j with
   | inr t => cases this
   | inl j =>
    by_cases e : j = k
    ·subst e; simp [kOf]
    ·have e2 : ¬ (.inl j : ar) = .inl k := fun z => e (by cases z; rfl)
     simp [kOf, e]
  ·rw [Qmv]
   intro q hq
   obtain ⟨p, hp, rfl⟩ := List.mem_map.mp hq
   split
   ·exact h p hp
   ·exact h p hp
 ·rw [List.map_append]
  refine ⟨rfl, ?_⟩
  rw [Qmv]
  intro q hq
  rcases List.mem_append.mp hq with hq | hq
  ·exact h q hq
  ·cases List.mem_singleton.mp hq; rfl
theorem Qgg (k : List Key) (y : V) (kvs : List (ar × V)) (h : ∀ p ∈ kvs, isK p.1 = false) : (putK kvs (.inr k) y).map (fun p => (tOf p.1, p.2)) = putK (kvs.map fun p => (tOf p.1, p.2)) k y/\putK kvs (.inr k) y ≠ []/\∀ p ∈ putK kvs (.inr k) y, isK p.1 = false := by
 unfold putK
 rw [qr, qr, xp k kvs h]
 split
 ·rename_i hs
  rw [List.map_map, List.map_map]
  refine ⟨List.map_congr_left fun p hp => ?_, ?_, ?_⟩
  ·obtain ⟨j, v⟩ := p
   have := h _ hp
   cases j with
   | inl t => cases this
   | inr j =>
    by_cases e : j = k
    ·subst e; simp [tOf]
    ·simp [tOf, e]
  ·cases kvs with
   | nil => cases hs
   | cons p r => exact fun z => by cases z
  ·intro q hq
   obtain ⟨p, hp, rfl⟩ := List.mem_map.mp hq
   split
   ·exact h p hp
   ·exact h p hp
 ·rw [List.map_append]
  refine ⟨rfl, by simp, fun q hq => ?_⟩
  rcases List.mem_append.mp hq with hq | hq
  ·exact h q hq
  ·cases List.mem_singleton.mp hq; rfl
theorem QfP {P : Program} {w : World} {H : Hp} {h : Heap} {a : Addr} {kvs : List (ar × V)} (ok : dm P w H h a (dKo kvs)) : ∃ o, h.get? a = some o/\o.ExactDict := by
 rcases dKo_or kvs with ⟨k, e⟩ | ⟨k, e⟩
 ·rw [e] at ok; obtain ⟨_, _, vs, _, o, es, ep, h1, h2, _⟩ := ok; exact ⟨o, h1, h2⟩
 ·rw [e] at ok; obtain ⟨_, _, vs, _, o, es, ep, h1, h2, _⟩ := ok; exact ⟨o, h1, h2⟩
theorem KIs.get {H : Hp} {a : Addr} {kvs : List (ar × V)} {v : V} {k : ar} (e : H a = some (dKo kvs)) (ok : okD (kvs.map (·.1)) k = true) (h : KIs H v k) : DG H a v (cz kvs k) := by
 cases k with
 | inl k =>
  have hk := allK ok
  cases (show v = kV k from h)
  rw [<-xq k kvs hk]
  rw [dKo, Qmo hk] at e
  exact .inl (iu.k e)
 | inr t =>
  obtain ⟨b, rfl, eb⟩ := h
  have ht := allT ok
  by_cases h0 : kvs = []
  ·subst h0
   exact .inr ⟨e, rfl, b, t, rfl, eb⟩
  ·rw [dKo, Qmp (qb h0 ht)] at e
   rw [<-xp t kvs ht]
   exact .inl (iu.t e eb)
theorem KIs.put {H : Hp} {a : Addr} {kvs : List (ar × V)} {v y : V} {k : ar} (e : H a = some (dKo kvs)) (hl : kvs.length < sizeLine) (ok : okD (kvs.map (·.1)) k = true) (h : KIs H v k) : DP H a v y (upd H a (dKo (putK kvs k y))) := by
 cases k with
 | inl k =>
  have hk := allK ok
  cases (show v = kV k from h)
  obtain ⟨p1, p2⟩ := Qgh k y kvs hk
  rw [dKo, Qmo hk] at e
  rw [dKo, Qmo p2, p1]
  exact .inl (md.k e (by rw [QlY]; exact hl))
 | inr t =>
  obtain ⟨b, rfl, eb⟩ := h
  have ht := allT ok
  obtain ⟨p1, p2, p3⟩ := Qgg t y kvs ht
  rw [dKo, Qmp (qb p2 p3), p1]
  by_cases h0 : kvs = []
  ·subst h0
   exact .inr ⟨e, b, t, rfl, eb, rfl⟩
  ·rw [dKo, Qmp (qb h0 ht)] at e
   exact .inl (md.t e eb (by rw [QlY]; exact hl))
def ck : List ar->List W->ar->Option W
 | k :: ks, w :: ws, j => if k = j then some w else ck ks ws j
 | _, _, _ => none
def ip (st : S) : W->Option (List ar × List W)
 | .dct ks ws => some (ks, ws)
 | .ref n => (match st.mu n with
  | some (.dct ks ws) => some (ks, ws)
  | _ => none)
 | _ => none
theorem QeI {K : PySem.W.Frag} {ι : Nat->Addr} {N : Nat} {G : Hp} : ∀ {vs : List V} {ws : List W} {ks : List Key}, RelWs K ι N G vs ws->pq ws = some ks->vs = ks.map kV
 | _, _, _, .nil, h => by cases h; rfl
 | _, _, _, @RelWs.cons _ _ _ _ v w vs ws r t, h => by
  unfold pq at h
  cases e1 : keyW0 w with
  | none => rw [e1] at h; cases h
  | some k =>
   cases e2 : pq ws with
   | none => rw [e1, e2] at h; cases h
   | some r2 =>
    rw [e1, e2] at h
    cases h
    rw [Qms, QeI t e2]
    congr 1
    cases r <;> first | (cases e1; rfl) | (cases e1; done)
theorem keyW_rel {K : PySem.W.Frag} {ι : Nat->Addr} {N : Nat} {G : Hp} {v : V} {w : W} {k : ar} (r : RelW K ι N G v w) (h : fi w = some k) : KIs G v k := by
 cases r with
 | int i => cases h; rfl
 | str x => cases h; rfl
 | @tup a xs ws s c t =>
  have h : (match pq ws with | some k => some (Sum.inr k) | none => none) = some k := h
  cases e : pq ws with
  | none => rw [e] at h; cases h
  | some ks => rw [e] at h; cases h; exact ⟨a, rfl, by rw [<-QeI t e]; exact c rfl⟩
 | _ => cases h
theorem valW_rel {K : PySem.W.Frag} {ι : Nat->Addr} {N : Nat} {G : Hp} {k : ar} : ∀ {ks : List ar} {xs : List V} {ws : List W}, RelWs K ι N G xs ws->xs.length = ks.length ->
  (cz (ks.zip xs) k = none/\ck ks ws k = none)\/∃ v w, cz (ks.zip xs) k = some v/\ck ks ws k = some w/\RelW K ι N G v w
 | [], _, _, _, _ => .inl ⟨rfl, by unfold ck; rfl⟩
 | j :: ks, [], _, _, h => by cases h
 | j :: ks, x :: xs, _, .cons r t, h => by
  by_cases e : j = k
  ·refine .inr ⟨x, _, ?_, ?_, r⟩
   ·exact mi (p := (j, x)) e
   ·unfold ck; rw [Qmo e]
  ·have e1 : cz ((j :: ks).zip (x :: xs)) k = cz (ks.zip xs) k := mj (p := (j, x)) e
   rcases valW_rel (k := k) t (by simpa using h) with ⟨h1, h2⟩ | ⟨v, w, h1, h2, h3⟩
   ·exact .inl ⟨e1.trans h1, by unfold ck; rw [Qmp e]; exact h2⟩
   ·exact .inr ⟨v, w, e1.trans h1, by unfold ck; rw [Qmp e]; exact h2, h3⟩
theorem nj {ι : Nat->Addr} {G H : Hp} {st : S} {v : V} {w : W} {ks : List ar} {ws : List W} (sr : SR X.K ι st G H) (r : RelW X.K ι st.nxt G v w) (h : ip st w = some (ks, ws)) : ∃ a xs, v = .ref a/\H a = some (dKo (ks.zip xs))/\xs.length = ks.length/\RelWs X.K ι st.nxt G xs ws := by
 cases r with
 | @dct a xs _ _ s l t => cases h; exact ⟨a, xs, rfl, sr.sub _ _ s, l, t⟩
 | @ref n hn =>
  have h : (match st.mu n with
   | some (.dct ks ws) => some (ks, ws)
   | _ => none) = some (ks, ws) := h
  cases e : st.mu n with
  | none => rw [e] at h; cases h
  | some o =>
   rw [e] at h
   cases o with
   | lst zs => cases h
   | dct ks' zs =>
    cases h
    obtain ⟨_, _, xs, h1, h2, h3⟩ := sr.live n _ e
    exact ⟨ι n, xs, rfl, h1, h2, h3⟩
 | _ => cases h
theorem zip_fst : ∀ {ks : List ar} {xs : List V}, xs.length = ks.length->(ks.zip xs).map (·.1) = ks
 | [], [], _ => rfl
 | k :: ks, x :: xs, h => by rw [List.zip_cons_cons, Qms, zip_fst (by simpa using h)]
 | [], _ :: _, h => by cases h
 | _ :: _, [], h => by cases h
def lp (st : S) (a b : W) : Option Bool := match fi a, ip st b with
 | some k, some (ks, ws) => if okD ks k = true then some (ck ks ws k).isSome else none
 | _, _ => none
theorem QdV {ι : Nat->Addr} {G H : Hp} {st : S} {x y : V} {w1 w2 : W} {b : Bool} (sr : SR X.K ι st G H) (r1 : RelW X.K ι st.nxt G x w1) (r2 : RelW X.K ι st.nxt G y w2) (h : lp st w1 w2 = some b) : ∃ a o, y = .ref a/\DG H a x o/\o.isSome = b := by
 unfold lp at h
 cases e1 : fi w1 with
 | none => rw [e1] at h; cases h
 | some k =>
  cases e2 : ip st w2 with
  | none => rw [e1, e2] at h; cases h
  | some p =>
   obtain ⟨ks, ws⟩ := p
   rw [e1, e2] at h
   have h : (if okD ks k = true then some (ck ks ws k).isSome else none) = some b := h
   by_cases ok : okD ks k = true
   ·rw [Qmo ok] at h
    cases h
    obtain ⟨a, xs, rfl, hH, hl, t⟩ := nj sr r2 e2
    refine ⟨a, _, rfl, ((keyW_rel r1 e1).mono sr.sub).get hH (by rw [zip_fst hl]; exact ok), ?_⟩
    rcases valW_rel (k := k) t hl with ⟨h1, h2⟩ | ⟨v, w, h1, h2, _⟩
    ·rw [h1, h2]; rfl
    ·rw [h1, h2]; rfl
   ·rw [Qmp ok] at h; cases h
def dn : Op2 := fun a b st => match lp st a b with
 | some c => .ok (.bl c) st
 | none => Qas a b st
def rj : Op2 := fun a b st => match lp st a b with
 | some c => .ok (.bl (!c)) st
 | none => QeD a b st
theorem opw_in (hu : X.A.units + 64 < cLine) : OpW X (compareOp .In) dn := by
 intro QlP s σ H ι G st x y w1 w2 v u Q I sr rx ry r1 r2 q
 unfold dn at q
 cases e : lp st w1 w2 with
 | none => rw [e] at q; exact opw_in0 hu QlP s σ H ι G st x y w1 w2 v u Q I sr rx ry r1 r2 q
 | some c =>
  rw [e] at q
  obtain ⟨a, o, rfl, g, ho⟩ := QdV sr r1 r2 e
  cases (show u = Value.ref a from ry)
  refine dx_in (by omega) I g rx fun s' I' => ?_
  rw [ho]
  exact ⟨.bl c, H, I', rfl, q (.bl c) ι G H (Ext.refl _ _ _) sr (.bl c)⟩
theorem QjH (hu : X.A.units + 64 < cLine) : OpW X (compareOp .NotIn) rj := by
 intro QlP s σ H ι G st x y w1 w2 v u Q I sr rx ry r1 r2 q
 unfold rj at q
 cases e : lp st w1 w2 with
 | none => rw [e] at q; exact QiK hu QlP s σ H ι G st x y w1 w2 v u Q I sr rx ry r1 r2 q
 | some c =>
  rw [e] at q
  obtain ⟨a, o, rfl, g, ho⟩ := QdV sr r1 r2 e
  cases (show u = Value.ref a from ry)
  refine QlB (by omega) I g rx fun s' I' => ?_
  rw [ho]
  exact ⟨.bl (!c), H, I', rfl, q (.bl (!c)) ι G H (Ext.refl _ _ _) sr (.bl (!c))⟩
def ap : Op2 := fun a b st => match ip st a, fi b with
 | some (ks, ws), some k => if okD ks k = true then (match ck ks ws k with
  | some w => .ok w st
  | none => .stuck) else .stuck
 | _, _ => pd a b st
theorem pd_ixX {a b : Expr} {pos : Pos} {ra rb : Run} (hu : X.A.units + 1 < cLine) (ha : PD X a ra) (hb : PD X b rb) (hs : NoSl b) (hix : PD X (.Subscript a b pos) (ah ra rb pd)) : PD X (.Subscript a b pos) (ah ra rb ap) := by
 intro QlP s σ H Q I h
 obtain ⟨ι, G, st, Γ, en, sr, q⟩ := h
 have ch : (∃ w1 st1 w2 st2 ks ws k, ra Γ st = .ok w1 st1/\rb Γ st1 = .ok w2 st2/\ip st2 w1 = some (ks, ws)/\fi w2 = some k)\/ah ra rb ap Γ st = ah ra rb pd Γ st := by
  unfold ah
  cases e1 : ra Γ st with
  | stuck => exact .inr rfl
  | ex c s => exact .inr rfl
  | ok w1 st1 =>
   cases e2 : rb Γ st1 with
   | stuck => refine .inr ?_; show (rb Γ st1).bind _ = (rb Γ st1).bind _; rw [e2]; rfl
   | ex c s => refine .inr ?_; show (rb Γ st1).bind _ = (rb Γ st1).bind _; rw [e2]; rfl
   | ok w2 st2 =>
    cases e3 : ip st2 w1 with
    | none =>
     refine .inr ?_
     show (rb Γ st1).bind _ = (rb Γ st1).bind _
     rw [e2]
     show ap w1 w2 st2 = pd w1 w2 st2
     unfold ap; rw [e3]
    | some p =>
     obtain ⟨ks, ws⟩ := p
     cases e4 : fi w2 with
     | none =>
      refine .inr ?_
      show (rb Γ st1).bind _ = (rb Γ st1).bind _
      rw [e2]
      show ap w1 w2 st2 = pd w1 w2 st2
      unfold ap; rw [e3, e4]
     | some k => exact .inl ⟨w1, st1, w2, st2, ks, ws, k, rfl, e2, e3, e4⟩
 rcases ch with ⟨w1, st1, w2, st2, ks, ws, k, e1, e2, e3, e4⟩ | ch
 ·refine pe_dget hu ha hb hs QlP s σ H Q I ⟨ι, G, st, Γ, en, sr, wpW.bind q fun w1' st1' v1 ι1 G1 H1 e1' x1 sr1 r1 q1 => ⟨ι1, G1, st1', Γ, en.mono x1, sr1, wpW.bind q1 fun w2' st2' v2 ι2 G2 H2 e2' x2 sr2 r2 q2 => ?_⟩⟩
  rw [e1] at e1'; cases e1'
  rw [e2] at e2'; cases e2'
  obtain ⟨a, xs, rfl, hH, hl, t⟩ := nj sr2 (r1.mono x2) e3
  unfold ap at q2
  rw [e3, e4] at q2
  by_cases ok : okD ks k = true
  case neg => have q2 : wpW X ι2 st2.nxt G2 (if okD ks k = true then _ else .stuck) Q := q2; rw [Qmp ok] at q2; exact q2.elim
  have q3 : wpW X ι2 st2.nxt G2 (match ck ks ws k with
   | some w => .ok w st2
   | none => .stuck) Q := by
   have q2 : wpW X ι2 st2.nxt G2 (if okD ks k = true then _ else .stuck) Q := q2
   rw [Qmo ok] at q2; exact q2
  rcases valW_rel (k := k) t hl with ⟨h1, h2⟩ | ⟨v, w, h1, h2, h3⟩
  ·rw [h2] at q3; exact (show False from q3).elim
  ·rw [h2] at q3
   refine ⟨a, v, rfl, ?_, q3 v ι2 G2 H2 (Ext.refl _ _ _) sr2 h3⟩
   rcases ((keyW_rel r2 e4).mono sr2.sub).get hH (by rw [zip_fst hl]; exact ok) with g | ⟨_, g, _⟩
   ·rw [h1] at g; exact g
   ·rw [h1] at g; cases g
 ·exact hix QlP s σ H Q I ⟨ι, G, st, Γ, en, sr, by rw [<-ch]; exact q⟩
end
def KDs (_ : Program) (_ : World) (K : PySem.W.Frag) (mg : Str->Option Value) (x : Str) (_ : List ar) (ws : List W) : Prop :=
 ∃ a xs, mg x = some (.ref a)/\(∀ H, SqT K H a xs)/\∀ ι N G, RelWs K ι N G xs ws
theorem Qlo {P : Program} {w : World} {K : PySem.W.Frag} {mg : Str->Option Value} {x : Str} {ks : List ar} {a : Addr} {od : Option Addr} {its : List Value} {n : Nat} {sl : Array (Option Value)} {xs : List Str} (hm : mg x = some (.ref a)) (l : K.lookup a = some ⟨.type "tuple", od, .seq its.toArray n, sl⟩) (z : its.length<=sizeLine) (v : bb (xs.map V.str) its) : KDs P w K mg x ks (xs.map W.str) := by
 refine ⟨a, xs.map V.str, hm, fun H => .inr ⟨_, its.toArray, n, l, rfl, rfl, by simpa using z, by simpa using v⟩, fun ι N G => ?_⟩
 clear v
 induction xs with
 | nil => exact .nil
 | cons y ys ih => exact .cons (.str y) ih
section
variable {X : Cx}
def mw (ws : List W) : W->S->R W := fun w st => match inD w ws with
 | some r => .ok (.bl r) st
 | none => .stuck
def rInT (X : Cx) (a : Addr) (ws : List W) : R2 := fun x y H Q => y = .ref a/\∃ ι G st w r, SR X.K ι st G H/\RelW X.K ι st.nxt G x w/\inD w ws = some r/\Q (.bl r) H
theorem Qgl {a : Addr} {xs : List V} {ws : List W} (hu : X.A.units + 64 < cLine) (hq : ∀ H, SqT X.K H a xs) (t : ∀ ι N G, RelWs X.K ι N G xs ws) : OpR X (compareOp .In) (rInT X a ws) := by
 intro QlP s σ H x y v u Q I rx ry ⟨ey, ι, G, st, w, r, sr, r1, hd, q⟩
 subst ey
 cases (show u = Value.ref a from ry)
 obtain ⟨its, rr, pl, hz⟩ := I.tuple (hq H)
 obtain ⟨f, h1, h2, _⟩ := Qbo (A := X.A.in1) I (r1.mono sr.look) rx (by show X.A.units + 1 + 12 < cLine; omega) hd (t _ _ _) rr
 refine SeqAt.in_tupleAt f pl (fun w hw => h1 w (by simpa using hw)) ⟨.bl r, H, I, ?_, q⟩
 rw [show its.toArray.any f = its.any f by simp, h2]; rfl
theorem Qga {ra : Run} {ws : List W} {a : Addr} {σ : St} {H : Hp} {Q : VK} (h : tD X (gd ra (mw ws)) σ H Q) : tOp (rInT X a ws) (tD X ra) (tC (.ref a)) σ H Q := by
 obtain ⟨ι, G, st, Γ, en, sr, q⟩ := h
 refine ⟨ι, G, st, Γ, en, sr, wpW.bind q fun w st1 v ι1 G1 H1 _ e1 sr1 r1 q1 => ?_⟩
 refine ⟨rfl, ?_⟩
 unfold mw at q1
 cases ek : inD w ws with
 | none => rw [ek] at q1; exact (show False from q1).elim
 | some r => rw [ek] at q1; exact ⟨ι1, G1, st1, w, r, sr1, r1, ek, q1 _ ι1 G1 H1 (Ext.refl _ _ _) sr1 (.bl _)⟩
theorem pd_inT {e : Expr} {x : Str} {p pos : Pos} {ra : Run} {ks : List ar} {ws : List W} (hu : X.A.units + 64 < cLine) (D : KDs X.prog X.w X.K X.mg x ks ws) (hg : Gl X x) (hd : (x == ("__debug__" : Str)) = false) (ha : PD X e ra) : PD X (.Compare e [.In] [.Name x p] pos) (gd ra (mw ws)) := by
 obtain ⟨a, xs, hm, hq, ht⟩ := D
 exact PE.imp (Qfu (Qgl hu hq ht) ha (Qaa (v := .ref a) hg hm rfl hd) rfl) fun _ _ _ h => Qga h
theorem pdt_inT {e : Expr} {x : Str} {p pos : Pos} {ra : Run} {ks : List ar} {ws : List W} (hu : X.A.units + 64 < cLine) (D : KDs X.prog X.w X.K X.mg x ks ws) (hg : Gl X x) (hd : (x == ("__debug__" : Str)) = false) (ha : PD X e ra) : PT X (.Compare e [.In] [.Name x p] pos) (tDT X (gd ra (mw ws))) := by
 obtain ⟨a, xs, hm, hq, ht⟩ := D
 exact PT.imp (Qfq (Qgl hu hq ht) ha (Qaa (v := .ref a) hg hm rfl hd) rfl) fun _ _ _ h => Qga h
end
section
variable {K : PySem.W.Frag} {ι : Nat->Addr} {st : S} {G H : Hp}
theorem Qfz {n : Nat} {o : MO} (h : SR K ι st G H) (e : st.mu n = some o) : H (ι n) ≠ none := by
 intro z
 obtain ⟨_, _, h3⟩ := h.live n o e
 cases o with
 | lst ws => obtain ⟨xs, q, _⟩ := h3; rw [z] at q; cases q
 | dct ks ws => obtain ⟨xs, q, _⟩ := h3; rw [z] at q; cases q
theorem MOR.upd {N : Nat} {a p : Addr} {o : MO} {u : HO} (m : MOR K ι N G H a o) (hne : a ≠ p) : MOR K ι N G (upd H p u) a o := by
 cases o with
 | lst ws => obtain ⟨xs, q, r⟩ := m; exact ⟨xs, by rw [bo hne]; exact q, r⟩
 | dct ks ws => obtain ⟨xs, q, l, r⟩ := m; exact ⟨xs, by rw [bo hne]; exact q, l, r⟩
theorem SR.grow {p : Addr} {u : HO} (h : SR K ι st G H) (hp : H p = none) : SR K ι st G (upd H p u) := by
 have hG : G p = none := h.sub.free hp
 refine ⟨fun b v e => by rw [bo (il e hG)]; exact h.sub b v e, fun n o e => ?_, h.inj⟩
 obtain ⟨h1, h2, h3⟩ := h.live n o e
 exact ⟨h1, h2, h3.upd fun z => Qfz h e (by rw [z]; exact hp)⟩
theorem SR.newO {p : Addr} {u : HO} {o : MO} (h : SR K ι st G H) (hp : H p = none) (m : MOR K ι st.nxt G (upd H p u) p o) : ∃ ι', Ext ι st.nxt G ι' (st.nxt + 1) G/\SR K ι' (st.new o) G (upd H p u)/\ι' st.nxt = p :=
 (h.grow hp).adopt (h.sub.free hp) (fun m o e z => Qfz h e (by rw [z]; exact hp)) m
theorem SR.putO {n : Nat} {o o' : MO} {u : HO} (h : SR K ι st G H) (hn : st.mu n = some o) (m : MOR K ι st.nxt G (L2.upd H (ι n) u) (ι n) o') : SR K ι (st.put n o') G (L2.upd H (ι n) u) := by
 obtain ⟨h1, h2, _⟩ := h.live n o hn
 have old : ∀ a q, (st.put n o').mu a = some q->∃ q', st.mu a = some q' := fun a q e => by
  have e : (if a = n then some o' else st.mu a) = some q := e
  by_cases z : a = n
  ·exact ⟨o, by rw [z]; exact hn⟩
  ·rw [Qmp z] at e; exact ⟨q, e⟩
 refine ⟨fun b v e => by rw [bo (il e h2)]; exact h.sub b v e, fun a q e => ?_, fun a b q q' e e' z => ?_⟩
 ·have e' : (if a = n then some o' else st.mu a) = some q := e
  by_cases ha : a = n
  ·subst ha
   rw [Qmo rfl] at e'
   cases e'
   exact ⟨h1, h2, m⟩
  ·rw [Qmp ha] at e'
   obtain ⟨g1, g2, g3⟩ := h.live a q e'
   exact ⟨g1, g2, g3.upd fun z => ha (h.inj a n q o e' hn z)⟩
 ·obtain ⟨q1, l1⟩ := old a q e
  obtain ⟨q2, l2⟩ := old b q' e'
  exact h.inj a b q1 q2 l1 l2 z
end
def sy (k : ar) (v : W) : List ar->List W->List W
 | j :: ks, w :: ws => (if j = k then v else w) :: sy k v ks ws
 | _, _ => []
def oi (k : ar) (ks : List ar) : Bool := ks.any fun j => decide (j = k)
def dl (ks : List ar) (ws : List W) (k : ar) (v : W) : List ar × List W := if oi k ks = true then (ks, sy k v ks ws) else (ks ++ [k], ws ++ [v])
def pk (k : ar) (v : V) : List ar->List V->List V
 | j :: ks, w :: ws => (if j = k then v else w) :: pk k v ks ws
 | _, _ => []
theorem Qew {K : PySem.W.Frag} {ι : Nat->Addr} {N : Nat} {G : Hp} {k : ar} {v : V} {w : W} (r : RelW K ι N G v w) : ∀ {ks : List ar} {xs : List V} {ws : List W}, RelWs K ι N G xs ws->xs.length = ks.length ->
  RelWs K ι N G (pk k v ks xs) (sy k w ks ws)/\(pk k v ks xs).length = ks.length/\(ks.zip xs).map (fun kv => if kv.1 = k then (kv.1, v) else kv) = ks.zip (pk k v ks xs)
 | [], [], _, .nil, _ => ⟨.nil, rfl, rfl⟩
 | j :: ks, x :: xs, _, .cons r1 t, h => by
  obtain ⟨h1, h2, h3⟩ := Qew (k := k) r t (by simpa using h)
  refine ⟨?_, ?_, ?_⟩
  ·by_cases e : j = k
   ·show RelWs K ι N G ((if j = k then v else x) :: _) ((if j = k then w else _) :: _)
    rw [Qmo e, Qmo e]; exact .cons r h1
   ·show RelWs K ι N G ((if j = k then v else x) :: _) ((if j = k then w else _) :: _)
    rw [Qmp e, Qmp e]; exact .cons r1 h1
  ·show (pk k v ks xs).length + 1 = ks.length + 1
   rw [h2]
  ·show (if j = k then (j, v) else (j, x)) :: (ks.zip xs).map (fun kv => if kv.1 = k then (kv.1, v) else kv) = (j, if j = k then v else x) :: ks.zip (pk k v ks xs)
   rw [h3]
   by_cases e : j = k <;> simp [e]
 | [], _ :: _, _, _, h => by cases h
 | _ :: _, [], _, _, h => by cases h
theorem QfX {k : ar} : ∀ {ks : List ar} {xs : List V}, xs.length = ks.length->((ks.zip xs).any fun kv => decide (kv.1 = k)) = oi k ks
 | [], _, _ => by simp [oi]
 | j :: ks, [], h => by cases h
 | j :: ks, x :: xs, h => by
  have ih := QfX (k := k) (ks := ks) (xs := xs) (by simpa using h)
  rw [List.zip_cons_cons, List.any_cons, ih]
  unfold oi
  rw [List.any_cons]
theorem Qfp {K : PySem.W.Frag} {ι : Nat->Addr} {N : Nat} {G : Hp} {k : ar} {v : V} {w : W} {ks : List ar} {xs : List V} {ws : List W} (r : RelW K ι N G v w) (t : RelWs K ι N G xs ws) (h : xs.length = ks.length) :
  ∃ xs', putK (ks.zip xs) k v = (dl ks ws k w).1.zip xs'/\xs'.length = (dl ks ws k w).1.length/\RelWs K ι N G xs' (dl ks ws k w).2 := by
 unfold putK dl
 rw [QfX h]
 by_cases hk : oi k ks = true
 ·rw [Qmo hk, Qmo hk]
  obtain ⟨h1, h2, h3⟩ := Qew (k := k) r t h
  exact ⟨pk k v ks xs, h3, h2, h1⟩
 ·rw [Qmp hk, Qmp hk]
  refine ⟨xs ++ [v], ?_, by simp [h], t.append (.cons r .nil)⟩
  rw [List.zip_append h.symm]; rfl
section
variable {X : Cx}
def kn : Run := fun _ st => .ok (.ref st.nxt) (st.new (.dct [] []))
theorem QdP {ι : Nat->Addr} {G H : Hp} {st : S} {ks : List ar} {xs : List V} {ws : List W} {p : Addr} {Q : VK} (sr : SR X.K ι st G H) (t : RelWs X.K ι st.nxt G xs ws) (hl : xs.length = ks.length) (hp : H p = none) (q : wpW X ι st.nxt G (.ok (.ref st.nxt) (st.new (.dct ks ws))) Q) : Q (.ref p) (upd H p (dKo (ks.zip xs))) := by
 obtain ⟨ι', e2, s2, ep⟩ := sr.newO (o := .dct ks ws) (u := dKo (ks.zip xs)) hp ⟨xs, cn, hl, t⟩
 have q' := q (.ref p) ι' G (upd H p (dKo (ks.zip xs))) e2 s2
 rw [<-ep] at q' ⊢
 exact q' (.ref (Nat.lt_succ_self _))
theorem Qlb {pos : Pos} : PD X (.Dict [] [] pos) kn := by
 refine PE.imp QkP fun σ H Q h => ?_
 obtain ⟨ι, G, st, Γ, en, sr, q⟩ := h
 intro p hp
 exact QdP (ks := []) (xs := []) sr .nil rfl hp q
def xk (m : Bool) : OpN := fun ws st => match ws with
 | [w] => (match ip st w with
  | some (ks, vs) => if (ks.all isK) = true then (if m then .ok (.ref st.nxt) (st.new (.dct ks vs)) else .ok (.dct ks vs) st) else .stuck
  | none => .stuck)
 | _ => .stuck
theorem cw_dict {m : Bool} : jh X (.type "dict") (xk m) := by
 intro QlP s σ H ι G st xs ws us Q I sr rv t q
 unfold xk at q
 split at q
 ·rename_i w
  obtain ⟨v, rfl, r⟩ := jz t
  cases e : ip st w with
  | none => rw [e] at q; exact (show False from q).elim
  | some p =>
   obtain ⟨ks, vs⟩ := p
   rw [e] at q
   obtain ⟨a, xs, rfl, hH, hl, t2⟩ := nj sr r e
   by_cases ok : (ks.all isK) = true
   case neg => have q : wpW X ι st.nxt G (if (ks.all isK) = true then _ else .stuck) Q := q; rw [Qmp ok] at q; exact q.elim
   have q : wpW X ι st.nxt G (if m then .ok (.ref st.nxt) (st.new (.dct ks vs)) else .ok (.dct ks vs) st) Q := by
    have q : wpW X ι st.nxt G (if (ks.all isK) = true then _ else .stuck) Q := q
    rw [Qmo ok] at q; exact q
   have hk : ((ks.zip xs).all fun p => isK p.1) = true := by
    have : (((ks.zip xs).map (·.1)).all isK) = true := by rw [zip_fst hl]; exact ok
    rw [List.all_map] at this; exact this
   cases rv with
   | cons ru rv =>
    cases rv
    rename_i u
    cases (show u = Value.ref a from ru)
    refine QlD I (.inl (by rw [hH, dKo, Qmo hk])) fun p s' hp I' => ⟨.ref p, _, I', rfl, ?_⟩
    rw [show HO.dK ((ks.zip xs).map fun p => (kOf p.1, p.2)) = dKo (ks.zip xs) by rw [dKo, Qmo hk]]
    cases m with
    | true => exact QdP sr t2 hl hp q
    | false =>
     obtain ⟨s2, e2⟩ := sr.laid (o := dKo (ks.zip xs)) hp
     exact (show wpW X ι st.nxt G (.ok (.dct ks vs) st) Q from q) _ ι _ _ e2 s2 (.dct cn hl (t2.mono e2))
 ·exact (show False from q).elim
def jf : OpM := fun w ws st => match ip st w, ws with
 | some (ks, vs), [k] => (match fi k with
  | some k => if okD ks k = true then .ok ((ck ks vs k).getD .non) st else .stuck
  | none => .stuck)
 | some (ks, vs), [k, d] => (match fi k with
  | some k => if okD ks k = true then .ok ((ck ks vs k).getD d) st else .stuck
  | none => .stuck)
 | _, _ => .stuck
theorem mw_get (hu : X.A.units + 1 < cLine) : MtR X "dict.get" (rMt X jf) := by
 intro QlP s σ H x xs v us Q I rx rv ⟨ι, G, st, w, ws, sr, r, t, q⟩
 unfold jf at q
 split at q
 ·rename_i ks vs k e
  obtain ⟨a, ys, rfl, hH, hl, t2⟩ := nj sr r e
  cases (show v = Value.ref a from rx)
  obtain ⟨v1, rfl, r1⟩ := jz t
  obtain ⟨u1, rfl, ru⟩ := rv.one
  cases ek : fi k with
  | none => rw [ek] at q; exact (show False from q).elim
  | some k' =>
   rw [ek] at q
   by_cases ok : okD ks k' = true
   case neg => have q : wpW X ι st.nxt G (if okD ks k' = true then _ else .stuck) Q := q; rw [Qmp ok] at q; exact q.elim
   have q : wpW X ι st.nxt G (.ok ((ck ks vs k').getD .non) st) Q := by
    have q : wpW X ι st.nxt G (if okD ks k' = true then .ok ((ck ks vs k').getD .non) st else .stuck) Q := q
    rw [Qmo ok] at q; exact q
   refine dx_get1 hu I (((keyW_rel r1 ek).mono sr.sub).get hH (by rw [zip_fst hl]; exact ok)) ru fun w' s' I' rw' => ⟨_, H, I', rw', ?_⟩
   rcases valW_rel (k := k') t2 hl with ⟨h1, h2⟩ | ⟨v2, w2, h1, h2, h3⟩
   ·rw [h1]; rw [h2] at q; exact q _ ι G H (Ext.refl _ _ _) sr .non
   ·rw [h1]; rw [h2] at q; exact q _ ι G H (Ext.refl _ _ _) sr h3
 ·rename_i ks vs k d e
  obtain ⟨a, ys, rfl, hH, hl, t2⟩ := nj sr r e
  cases (show v = Value.ref a from rx)
  obtain ⟨v1, v2, rfl, r1, r2⟩ := rel2 t
  cases rv with
  | cons ru rv =>
   cases rv with
   | cons ru2 rv =>
    cases rv
    cases ek : fi k with
    | none => rw [ek] at q; exact (show False from q).elim
    | some k' =>
     rw [ek] at q
     by_cases ok : okD ks k' = true
     case neg => have q : wpW X ι st.nxt G (if okD ks k' = true then _ else .stuck) Q := q; rw [Qmp ok] at q; exact q.elim
     have q : wpW X ι st.nxt G (.ok ((ck ks vs k').getD d) st) Q := by
      have q : wpW X ι st.nxt G (if okD ks k' = true then .ok ((ck ks vs k').getD d) st else .stuck) Q := q
      rw [Qmo ok] at q; exact q
     refine dx_get2 hu I (((keyW_rel r1 ek).mono sr.sub).get hH (by rw [zip_fst hl]; exact ok)) ru ru2 fun w' s' I' rw' => ⟨_, H, I', rw', ?_⟩
     rcases valW_rel (k := k') t2 hl with ⟨h1, h2⟩ | ⟨v3, w3, h1, h2, h3⟩
     ·rw [h1]; rw [h2] at q; exact q _ ι G H (Ext.refl _ _ _) sr r2
     ·rw [h1]; rw [h2] at q; exact q _ ι G H (Ext.refl _ _ _) sr h3
 ·exact (show False from q).elim
def fm : OpM := fun w ws st => match w, ws with
 | .ref n, [k, d] => (match st.mu n, fi k with
  | some (.dct ks vs), some k => if okD ks k = true/\ks.length < sizeLine then (match ck ks vs k with
   | some v => .ok v st
   | none => .ok d (st.put n (.dct (dl ks vs k d).1 (dl ks vs k d).2))) else .stuck
  | _, _ => .stuck)
 | _, _ => .stuck
theorem dx_setd {QlP : List (Addr × Obj)} {σ : St} {H : Hp} {s : Shared} {a : Addr} {kvs : List (ar × V)} {k : ar} {y d : V} {u r : Value} {Q : Value->Shared->Prop} {E : Value->Shared->Prop} (hu : X.A.units + 1 < cLine) (I : Inv X QlP σ H s) (e : H a = some (dKo kvs)) (hl : kvs.length < sizeLine) (ok : okD (kvs.map (·.1)) k = true) (hk : KIs H y k) (ry : aq y u) (rd : aq d r)
  (h1 : ∀ v w' s', cz kvs k = some v->Inv X QlP σ H s'->aq v w'->Q w' s') (h2 : cz kvs k = none->∀ s', Inv X QlP σ (upd H a (dKo (putK kvs k d))) s'->Q r s') :
  wpAny (model X.prog X.w) X.A (call (.builtin "dict.setdefault") [.ref a, u, r]) Q E s := by
 cases k with
 | inl k =>
  have ak := allK ok
  cases (show y = kV k from hk)
  obtain ⟨p1, p2⟩ := Qgh k d kvs ak
  rw [dKo, Qmo ak] at e
  refine setd_K I e (by rw [QlY]; exact hl) ry rd (fun v w' s' ev => h1 v w' s' (by rw [<-xq k kvs ak]; exact ev)) fun ev s' I' => h2 (by rw [<-xq k kvs ak]; exact ev) s' ?_
  rw [dKo, Qmo p2, p1]; exact I'
 | inr t =>
  obtain ⟨b, rfl, eb⟩ := hk
  cases (show u = Value.ref b from ry)
  have ht := allT ok
  obtain ⟨p1, p2, p3⟩ := Qgg t d kvs ht
  by_cases h0 : kvs = []
  ·subst h0
   refine setd_E hu I e eb rd fun s' I' => h2 rfl s' ?_
   rw [dKo, Qmp (qb p2 p3), p1]; exact I'
  ·rw [dKo, Qmp (qb h0 ht)] at e
   refine Qgc hu I e (by rw [QlY]; exact hl) eb rd (fun v w' s' ev => h1 v w' s' (by rw [<-xp t kvs ht]; exact ev)) fun ev s' I' => h2 (by rw [<-xp t kvs ht]; exact ev) s' ?_
   rw [dKo, Qmp (qb p2 p3), p1]; exact I'
theorem mw_setd (hu : X.A.units + 1 < cLine) : MtR X "dict.setdefault" (rMt X fm) := by
 intro QlP s σ H x xs v us Q I rx rv ⟨ι, G, st, w, ws, sr, r, t, q⟩
 unfold fm at q
 split at q
 ·rename_i n k d
  cases r
  cases (show v = Value.ref (ι n) from rx)
  obtain ⟨v1, v2, rfl, r1, r2⟩ := rel2 t
  cases rv with
  | cons ru rv =>
   cases rv with
   | cons ru2 rv =>
    cases rv
    rename_i u1 u2
    split at q
    ·rename_i ks vs k' em ek
     obtain ⟨_, _, ys, hH, hl, t2⟩ := sr.live n _ em
     by_cases ok : okD ks k' = true/\ks.length < sizeLine
     case neg => rw [Qmp ok] at q; exact q.elim
     rw [Qmo ok] at q
     have l3 : (ks.zip ys).length = ks.length := by rw [List.length_zip, hl, Nat.min_self]
     refine dx_setd hu I hH (by rw [l3]; exact ok.2) (by rw [zip_fst hl]; exact ok.1) ((keyW_rel r1 ek).mono sr.sub) ru ru2 (fun v3 w' s' ev I' rw' => ?_) fun ev s' I' => ?_
     ·rcases valW_rel (k := k') t2 hl with ⟨h1, h2⟩ | ⟨v4, w4, h1, h2, h3⟩
      ·rw [h1] at ev; cases ev
      ·rw [h1] at ev; cases ev
       rw [h2] at q
       exact ⟨v3, H, I', rw', (show wpW X ι st.nxt G (.ok w4 st) Q from q) v3 ι G H (Ext.refl _ _ _) sr h3⟩
     ·rcases valW_rel (k := k') t2 hl with ⟨h1, h2⟩ | ⟨v4, w4, h1, h2, h3⟩
      ·rw [h2] at q
       obtain ⟨ys', e2, l2, t3⟩ := Qfp (k := k') r2 t2 hl
       refine ⟨v2, _, I', ru2, ?_⟩
       have m : MOR X.K ι st.nxt G (upd H (ι n) (dKo (putK (ks.zip ys) k' v2))) (ι n) (.dct (dl ks vs k' d).1 (dl ks vs k' d).2) := ⟨ys', by rw [cn, e2], l2, t3⟩
       exact (show wpW X ι st.nxt G (.ok d (st.put n (.dct (dl ks vs k' d).1 (dl ks vs k' d).2))) Q from q) v2 ι G _ (Ext.refl _ _ _) (sr.putO em m) r2
      ·rw [h1] at ev; cases ev
    ·exact (show False from q).elim
 ·exact (show False from q).elim
theorem mth_get (hu : X.A.units + 1 < cLine) : Mth X "get" "dict" "dict.get" jf := ⟨.inr (.inr rfl), F.plainAttrs_dict, F.slot_dict_get, F.type_dict_get, mw_get hu⟩
theorem QeF (hu : X.A.units + 1 < cLine) : Mth X "setdefault" "dict" "dict.setdefault" fm := ⟨.inr (.inr rfl), F.plainAttrs_dict, F.slot_dict_setdefault, F.type_dict_setdefault, mw_setd hu⟩
def lu : List Key->List W->Key->Option W
 | k :: ks, w :: ws, j => if k = j then some w else lu ks ws j
 | _, _, _ => none
theorem valK_rel {K : PySem.W.Frag} {ι : Nat->Addr} {N : Nat} {G : Hp} {k : Key} : ∀ {ks : List Key} {xs : List V} {ws : List W}, RelWs K ι N G xs ws->xs.length = ks.length ->
  (cz (ks.zip xs) k = none/\lu ks ws k = none)\/∃ v w, cz (ks.zip xs) k = some v/\lu ks ws k = some w/\RelW K ι N G v w
 | [], _, _, _, _ => .inl ⟨rfl, by unfold lu; rfl⟩
 | j :: ks, [], _, _, h => by cases h
 | j :: ks, x :: xs, _, .cons r t, h => by
  by_cases e : j = k
  ·refine .inr ⟨x, _, ?_, ?_, r⟩
   ·exact mi (p := (j, x)) e
   ·unfold lu; rw [Qmo e]
  ·have e1 : cz ((j :: ks).zip (x :: xs)) k = cz (ks.zip xs) k := mj (p := (j, x)) e
   rcases valK_rel (k := k) t (by simpa using h) with ⟨h1, h2⟩ | ⟨v, w, h1, h2, h3⟩
   ·exact .inl ⟨e1.trans h1, by unfold lu; rw [Qmp e]; exact h2⟩
   ·exact .inr ⟨v, w, e1.trans h1, by unfold lu; rw [Qmp e]; exact h2, h3⟩
def kr (ks : List Key) (ws : List W) : List Key->List W->Option Bool
 | j :: js, v :: vs => (match lu ks ws j with
  | none => some false
  | some w => (match eqD 12 v w, kr ks ws js vs with
   | some a, some b => some (a && b)
   | _, _ => none))
 | _, _ => some true
def pv (st : S) (a b : W) : Option Bool := match ip st a, ip st b with
 | some (js, vs), some (ks, ws) => if (js.all isK && ks.all isK) = true then (kr (ks.map kOf) ws (js.map kOf) vs).map fun r => js.length == ks.length && r else none
 | _, _ => none
theorem QcZ {QlP : List (Addr × Obj)} {σ : St} {H : Hp} {s : Shared} {ι : Nat->Addr} {N : Nat} {ks : List Key} {xs : List V} {ws : List W} {us : List (Key × Value)} (I : Inv X QlP σ H s) (hu : X.A.in1.units + 12 < cLine) (t : RelWs X.K ι N H xs ws) (hl : xs.length = ks.length) (kv : KV (ks.zip xs) us) :
  ∀ {js : List Key} {ys : List V} {vs : List W} {us2 : List (Key × Value)} {r : Bool}, RelWs X.K ι N H ys vs->ys.length = js.length->KV (js.zip ys) us2->kr ks ws js vs = some r->PySem.W.KeqHits X.A.in1 s us us2 r
 | [], [], _, _, r, .nil, _, .nil, h => by cases h; exact .nil
 | j :: js, y :: ys, v :: vs, p :: us2, r, .cons r1 t1, hl1, .cons hp k1, h => by
  obtain ⟨k, u⟩ := p
  obtain ⟨e1, ru⟩ := hp
  have e1 : j = k := e1
  subst e1
  have val := kv.val j
  unfold kr at h
  rcases valK_rel (k := j) t hl with ⟨h1, h2⟩ | ⟨v3, w3, h1, h2, h3⟩
  ·rw [h2] at h
   cases h
   refine .miss ?_
   rw [h1] at val
   cases e : valueAt us j with
   | none => rfl
   | some z => rw [e] at val; exact (show False from val).elim
  ·rw [h2] at h
   have h : (match eqD 12 v w3, kr ks ws js vs with
    | some a, some b => some (a && b)
    | _, _ => none) = some r := h
   cases ea : eqD 12 v w3 with
   | none => rw [ea] at h; cases h
   | some a =>
    cases eb : kr ks ws js vs with
    | none => rw [ea, eb] at h; cases h
    | some b =>
     rw [ea, eb] at h
     cases h
     obtain ⟨z, hz, rz⟩ := jo.some_of (v := v3) (o := valueAt us j) (by rw [<-h1]; exact val)
     exact .hit hz (ya I 12 (A := X.A.in1) ea r1 h3 ru rz hu).1 (QcZ I hu t hl kv t1 (by simpa using hl1) k1 eb)
 | [], _ :: _, _, _, _, _, h, _, _ => by cases h
 | _ :: _, [], _, _, _, _, h, _, _ => by cases h
theorem QjY {QlP : List (Addr × Obj)} {σ : St} {H : Hp} {s : Shared} {ι : Nat->Addr} {G : Hp} {st : S} {x y : V} {w1 w2 : W} {b : Bool} (I : Inv X QlP σ H s) (hu : X.A.units + 64 < cLine) (sr : SR X.K ι st G H) (r1 : RelW X.K ι st.nxt G x w1) (r2 : RelW X.K ι st.nxt G y w2) (h : pv st w1 w2 = some b) :
  ∃ a c ka kb r, x = .ref a/\y = .ref c/\(a == sysModules) = false/\(c == sysModules) = false/\s.heap.DictOf (fg X.prog X.w) a ka/\s.heap.DictOf (fg X.prog X.w) c kb/\PySem.W.KeqHits X.A.in1 s kb ka r/\(ka.length == kb.length && r) = b := by
 unfold pv at h
 split at h
 ·rename_i js vs ks ws e1 e2
  obtain ⟨a, ys, rfl, hH, hl, t⟩ := nj sr r1 e1
  obtain ⟨c, xs, rfl, hH2, hl2, t2⟩ := nj sr r2 e2
  by_cases ok : (js.all isK && ks.all isK) = true
  case neg => rw [Qmp ok] at h; cases h
  rw [Qmo ok] at h
  rw [Qmj] at ok
  have zk : ∀ {ks : List ar} {xs : List V}, (ks.all isK) = true->xs.length = ks.length->dKo (ks.zip xs) = .dK ((ks.map kOf).zip xs) := fun {ks xs} ok hl => by
   have hk : ((ks.zip xs).all fun p => isK p.1) = true := by
    have : (((ks.zip xs).map (·.1)).all isK) = true := by rw [zip_fst hl]; exact ok
    rw [List.all_map] at this; exact this
   rw [dKo, Qmo hk, List.zip_map_left]; rfl
  rw [zk ok.1 hl] at hH
  rw [zk ok.2 hl2] at hH2
  have hl : ys.length = (js.map kOf).length := by rw [QlY]; exact hl
  have hl2 : xs.length = (ks.map kOf).length := by rw [QlY]; exact hl2
  obtain ⟨z, hd, ua, rel, dd⟩ := tu I.hok hH
  obtain ⟨z2, hd2, ub, rel2, dd2⟩ := tu I.hok hH2
  cases e : kr (ks.map kOf) ws (js.map kOf) vs with
  | none => rw [e] at h; cases h
  | some r =>
   rw [e] at h
   cases h
   refine ⟨a, c, ua, ub, r, rfl, rfl, hd, hd2, dd, dd2, QcZ I (by show X.A.units + 1 + 12 < cLine; omega) (t2.mono sr.look) hl2 rel2 (t.mono sr.look) hl rel e, ?_⟩
   have l1 := rel.length
   have l2 := rel2.length
   rw [List.length_zip, hl, Nat.min_self] at l1
   rw [List.length_zip, hl2, Nat.min_self] at l2
   rw [<-l1, <-l2, QlY, QlY]
 ·cases h
def eqW (st : S) (a b : W) : Option Bool := match pv st a b with
 | some c => some c
 | none => (match eqD 12 a b with
  | some c => some c
  | none => (match frz 0 st.mu 12 a, frz 0 st.mu 12 b with
   | some a', some b' => eqD 12 a' b'
   | _, _ => none))
def cf : Op2 := fun a b st => match eqW st a b with
 | some r => .ok (.bl r) st
 | none => .stuck
def dk : Op2 := fun a b st => match eqW st a b with
 | some r => .ok (.bl (!r)) st
 | none => .stuck
theorem seen {K : PySem.W.Frag} {ι : Nat->Addr} {st : S} {G H : Hp} {v : V} {w w' : W} (sr : SR K ι st G H) (r : RelW K ι st.nxt G v w) (h : frz 0 st.mu 12 w = some w') : RelW K ι 0 H v w' :=
 Qbr sr.sub (fun n o _ e => (sr.live n o e).2.2) 12 v w w' r h
theorem QfL {QlP : List (Addr × Obj)} {σ : St} {H : Hp} {s : Shared} {ι : Nat->Addr} {G : Hp} {st : S} {x y : V} {w1 w2 : W} {v u : Value} {b : Bool} (I : Inv X QlP σ H s) (hu : X.A.units + 64 < cLine) (sr : SR X.K ι st G H) (rx : aq x v) (ry : aq y u) (r1 : RelW X.K ι st.nxt G x w1) (r2 : RelW X.K ι st.nxt G y w2) (h : eqW st w1 w2 = some b) :
  (∀ (Q : Value->Shared->Prop) (E : Value->Shared->Prop), Q (.bool b) s->wpAny (model X.prog X.w) X.A (compareOp .Eq v u) Q E s)/\∀ (Q : Value->Shared->Prop) (E : Value->Shared->Prop), Q (.bool (!b)) s->wpAny (model X.prog X.w) X.A (compareOp .NotEq v u) Q E s := by
 unfold eqW at h
 cases e : pv st w1 w2 with
 | some c =>
  rw [e] at h
  cases h
  obtain ⟨a, c, ka, kb, r, rfl, rfl, ha, hc, da, db, hits, er⟩ := QjY I hu sr r1 r2 e
  cases (show v = Value.ref a from rx)
  cases (show u = Value.ref c from ry)
  refine ⟨fun Q E q => PySem.W.keq_eq ha hc da db (by omega) (fun _ => hits) (by rw [er]; exact q), fun Q E q => PySem.W.keq_ne ha hc da db (by omega) (fun _ => hits) (by rw [er]; exact q)⟩
 | none =>
  rw [e] at h
  have h : (match eqD 12 w1 w2 with
   | some c => some c
   | none => (match frz 0 st.mu 12 w1, frz 0 st.mu 12 w2 with
    | some a', some b' => eqD 12 a' b'
    | _, _ => none)) = some b := h
  cases e2 : eqD 12 w1 w2 with
  | some c =>
   rw [e2] at h
   cases h
   have q := ya I 12 (A := X.A) e2 (r1.mono sr.look) (r2.mono sr.look) rx ry (by omega)
   exact ⟨fun Q E h => q.2.1 _ _ E Q h, fun Q E h => q.2.2 _ _ E Q h⟩
  | none =>
   rw [e2] at h
   have h : (match frz 0 st.mu 12 w1, frz 0 st.mu 12 w2 with
    | some a', some b' => eqD 12 a' b'
    | _, _ => none) = some b := h
   split at h
   ·rename_i a' b' ea eb
    have q := ya I 12 (A := X.A) h (seen sr r1 ea) (seen sr r2 eb) rx ry (by omega)
    exact ⟨fun Q E h => q.2.1 _ _ E Q h, fun Q E h => q.2.2 _ _ E Q h⟩
   ·cases h
theorem opw_eq (hu : X.A.units + 64 < cLine) : OpW X (compareOp .Eq) cf := by
 intro QlP s σ H ι G st x y w1 w2 v u Q I sr rx ry r1 r2 q
 unfold cf at q
 cases e : eqW st w1 w2 with
 | none => rw [e] at q; exact (show False from q).elim
 | some b => rw [e] at q; exact (QfL I hu sr rx ry r1 r2 e).1 _ _ ⟨.bl b, H, I, rfl, q _ ι G H (Ext.refl _ _ _) sr (.bl _)⟩
theorem opw_ne (hu : X.A.units + 64 < cLine) : OpW X (compareOp .NotEq) dk := by
 intro QlP s σ H ι G st x y w1 w2 v u Q I sr rx ry r1 r2 q
 unfold dk at q
 cases e : eqW st w1 w2 with
 | none => rw [e] at q; exact (show False from q).elim
 | some b => rw [e] at q; exact (QfL I hu sr rx ry r1 r2 e).2 _ _ ⟨.bl (!b), H, I, rfl, q _ ι G H (Ext.refl _ _ _) sr (.bl _)⟩
def sDPutX (td ty tv : TE) : TS := fun D σ H => tv σ H fun v H1 => td σ H1 fun x H2 => ty σ H2 fun y H3 => ∃ a H4, x = .ref a/\DP H3 a y v H4/\D.nx σ H4
theorem QkK {o i value : Expr} {pos pos' : Pos} {td ty tv : TE} (hu : X.A.units + 1 < cLine) (ho : PE X o td) (hi : PE X i ty) (hv : PE X value tv) (hs : swapsWith value (some (.Subscript o i pos')) pos.line X.env = pure false) :
  PS X (.Assign [.Subscript o i pos'] value pos) (sDPutX td ty tv) := by
 intro QlP s σ H D I h
 refine wpAny_Assign_Subscript (thn (hv QlP s σ H _ I h) fun r s1 ⟨v, H1, I1, rv, q1⟩ => thn (ho QlP s1 σ H1 _ I1 q1) fun u s2 ⟨x, H2, I2, rx, q2⟩ => thn (hi QlP s2 σ H2 _ I2 q2) fun iv s3 ⟨y, H3, I3, ry, a, H4, ex, g, q3⟩ => ?_) hs
 subst ex
 obtain rfl : u = Value.ref a := rx
 exact QiR hu I3 g ry rv fun s4 I4 => ⟨σ, H4, I4, q3⟩
def xr (n : Nat) (i v : W) (st : S) : Option MO->Option ar->R Unit
 | some (.dct ks vs), some k => if okD ks k = true/\ks.length < sizeLine then .ok () (st.put n (.dct (dl ks vs k v).1 (dl ks vs k v).2)) else .stuck
 | _, _ => zr (.ref n) i v st
def jj : W->W->W->S->R Unit := fun o i v st => match o with
 | .ref n => xr n i v st (st.mu n) (fi i)
 | _ => .stuck
def ju (ro ri rv : Run) : av := fun Γ st => (rv Γ st).bind fun v st1 => (ro Γ st1).bind fun o st2 => (ri Γ st2).bind fun i st3 => (jj o i v st3).bind fun _ st4 => .ok (.nx Γ) st4
theorem setIx_or (o i v : W) (st : S) : (∃ n ks vs k, o = .ref n/\st.mu n = some (.dct ks vs)/\fi i = some k)\/jj o i v st = zr o i v st := by
 cases o with
 | ref n =>
  have e0 : jj (.ref n) i v st = xr n i v st (st.mu n) (fi i) := rfl
  cases em : st.mu n with
  | none => refine .inr ?_; rw [e0, em]; rfl
  | some q =>
   cases q with
   | lst xs => refine .inr ?_; rw [e0, em]; rfl
   | dct ks vs =>
    cases ek : fi i with
    | none => refine .inr ?_; rw [e0, em, ek]; rfl
    | some k => exact .inl ⟨n, ks, vs, k, rfl, em, rfl⟩
 | _ => exact .inr rfl
theorem QjE {o i e : Expr} {pos tpos : Pos} {ro ri rv : Run} (hu : X.A.units + 1 < cLine) (ho : PD X o ro) (hi : PD X i ri) (he : PD X e rv) (hg : ∀ {t : yn}, PSet X t->PG X (.Subscript o i tpos) (gSub (tD X ro) (tD X ri) t)) (hs : swapsWithSole [.Subscript o i tpos] e pos.line X.env = pure false) (hw : swappedStores [.Subscript o i tpos] e X.env = pure none) (hs' : swapsWith e (some (.Subscript o i tpos)) pos.line X.env = pure false) :
  PDS X (.Assign [.Subscript o i tpos] e pos) (ju ro ri rv) := by
 intro QlP s σ H D I h
 obtain ⟨ι, G, st, Γ, en, sr, q⟩ := h
 have ch : (∃ v st1 w st2 j st3 n ks vs k, rv Γ st = .ok v st1/\ro Γ st1 = .ok w st2/\ri Γ st2 = .ok j st3/\w = .ref n/\st3.mu n = some (.dct ks vs)/\fi j = some k)\/ju ro ri rv Γ st = Qbj ro ri rv Γ st := by
  unfold ju Qbj
  cases e1 : rv Γ st with
  | stuck => exact .inr rfl
  | ex c s => exact .inr rfl
  | ok v st1 =>
   cases e2 : ro Γ st1 with
   | stuck => refine .inr ?_; show (ro Γ st1).bind _ = (ro Γ st1).bind _; rw [e2]; rfl
   | ex c s => refine .inr ?_; show (ro Γ st1).bind _ = (ro Γ st1).bind _; rw [e2]; rfl
   | ok w st2 =>
    cases e3 : ri Γ st2 with
    | stuck => refine .inr ?_; show (ro Γ st1).bind _ = (ro Γ st1).bind _; rw [e2]; show (ri Γ st2).bind _ = (ri Γ st2).bind _; rw [e3]; rfl
    | ex c s => refine .inr ?_; show (ro Γ st1).bind _ = (ro Γ st1).bind _; rw [e2]; show (ri Γ st2).bind _ = (ri Γ st2).bind _; rw [e3]; rfl
    | ok j st3 =>
     rcases setIx_or w j v st3 with ⟨n, ks, vs, k, h1, h2, h3⟩ | h
     ·exact .inl ⟨v, st1, w, st2, j, st3, n, ks, vs, k, rfl, e2, e3, h1, h2, h3⟩
     ·refine .inr ?_
      show (ro Γ st1).bind _ = (ro Γ st1).bind _
      rw [e2]
      show (ri Γ st2).bind _ = (ri Γ st2).bind _
      rw [e3]
      show (jj w j v st3).bind _ = (zr w j v st3).bind _
      rw [h]
 rcases ch with ⟨v, st1, w, st2, j, st3, n, ks, vs, k, e1, e2, e3, rfl, em, ek⟩ | ch
 ·have q' : wpF X ι st.nxt G ((jj (.ref n) j v st3).bind fun _ st4 => .ok (.nx Γ) st4) D := by
   have q := q
   unfold ju at q
   rw [e1] at q
   have q : wpF X ι st.nxt G ((ro Γ st1).bind fun o st2 => (ri Γ st2).bind fun i st3 => (jj o i v st3).bind fun _ st4 => .ok (.nx Γ) st4) D := q
   rw [e2] at q
   have q : wpF X ι st.nxt G ((ri Γ st2).bind fun i st3 => (jj (.ref n) i v st3).bind fun _ st4 => .ok (.nx Γ) st4) D := q
   rw [e3] at q
   exact q
  have e0 : jj (.ref n) j v st3 = xr n j v st3 (st3.mu n) (fi j) := rfl
  rw [e0, em, ek] at q'
  by_cases hz : okD ks k = true/\ks.length < sizeLine
  ·have q2 : wpF X ι st.nxt G (.ok (.nx Γ) (st3.put n (.dct (dl ks vs k v).1 (dl ks vs k v).2))) D := by
    have q' : wpF X ι st.nxt G ((if okD ks k = true/\ks.length < sizeLine then .ok () (st3.put n (.dct (dl ks vs k v).1 (dl ks vs k v).2)) else .stuck : R Unit).bind fun _ st4 => .ok (.nx Γ) st4) D := q'
    rw [Qmo hz] at q'
    exact q'
   refine QkK hu ho hi he hs' QlP s σ H D I ⟨ι, G, st, Γ, en, sr, ?_⟩
   rw [e1]
   intro vv ι1 G1 H1 x1 sr1 r1
   refine ⟨ι1, G1, st1, Γ, en.mono x1, sr1, ?_⟩
   rw [e2]
   intro vo ι2 G2 H2 x2 sr2 r2
   refine ⟨ι2, G2, st2, Γ, (en.mono x1).mono x2, sr2, ?_⟩
   rw [e3]
   intro vj ι3 G3 H3 x3 sr3 r3
   have ro' := r2.mono x3
   cases ro'
   obtain ⟨_, _, ys, hH, hl, t2⟩ := sr3.live n _ em
   have lz : (ks.zip ys).length = ks.length := by rw [List.length_zip, hl, Nat.min_self]
   obtain ⟨ys', e4, l2, t3⟩ := Qfp (k := k) ((r1.mono x2).mono x3) t2 hl
   refine ⟨ι3 n, upd H3 (ι3 n) (dKo (putK (ks.zip ys) k vv)), rfl, KIs.put hH (by rw [lz]; exact hz.2) (by rw [zip_fst hl]; exact hz.1) ((keyW_rel r3 ek).mono sr3.sub), ?_⟩
   have m : MOR X.K ι3 st3.nxt G3 (upd H3 (ι3 n) (dKo (putK (ks.zip ys) k vv))) (ι3 n) (.dct (dl ks vs k v).1 (dl ks vs k v).2) := ⟨ys', by rw [cn, e4], l2, t3⟩
   exact q2 ι3 G3 _ ((x1.trans x2).trans x3) (sr3.putO em m) σ (((en.mono x1).mono x2).mono x3)
  ·have q' : wpF X ι st.nxt G ((if okD ks k = true/\ks.length < sizeLine then .ok () (st3.put n (.dct (dl ks vs k v).1 (dl ks vs k v).2)) else .stuck : R Unit).bind fun _ st4 => .ok (.nx Γ) st4) D := q'
   rw [Qmp hz] at q'
   exact (show False from q').elim
 ·exact QiH ho hi he hg hs hw QlP s σ H D I ⟨ι, G, st, Γ, en, sr, by rw [<-ch]; exact q⟩
end
end DL
namespace L2
open PySem PySem.Spec PyProof.Rows
section
variable {X : Cx} {tg : Expr}
end
end L2
namespace DL
open PySem PySem.Spec PyProof.Rows L2
section
variable {X : Cx}
def pz : List W->S->R (List (W × W)) := fun ws st => match ws with
 | [.tup xs, .tup ys] => .ok (xs.zip ys) st
 | _ => .stuck
theorem zipW_shape (ws : List W) (st : S) : pz ws st = .stuck\/∃ xs ys, ws = [.tup xs, .tup ys]/\pz ws st = .ok (xs.zip ys) st := by
 unfold pz
 split
 ·exact .inr ⟨_, _, rfl, rfl⟩
 ·exact .inl rfl
def dw (i j : Nat) (body : av) : List (W × W)->Ga->S->R Fl
 | [], Γ, st => .ok (.nx Γ) st
 | x :: xs, Γ, st => (body ((Γ.set i (some x.1)).set j (some x.2)) st).bind fun fl st' => match fl with
  | .nx Γ' => dw i j body xs Γ' st'
  | .ct Γ' => dw i j body xs Γ' st'
  | .bk Γ' => .ok (.nx Γ') st'
  | .rt w => .ok (.rt w) st'
def nt (i j : Nat) (rr : bw) (body : av) : av := fun Γ st => (rr Γ st).bind fun ws st1 => (pz ws st1).bind fun ps st2 => dw i j body ps Γ st2
theorem QkW {i j tk : Nat} {x y : Str} {px py p pos tp cp : Pos} {a b : Expr} {body : List Stmt} {rr : bw} {rb : av} (hp : PassesOwn (model X.prog X.w) X.A X.env X.xe) (hc : X.calm = true) (hg : Gl X "zip") (hm : X.mg "zip" = none) (ha : PDA X [a, b] rr)
  (hs : starEach [a, b] X.env = [(false, eval a X.env), (false, eval b X.env)]) (hs2 : starEach [b] X.env = [(false, eval b X.env)]) (h1 : PG X (.Name x px) (jm i)) (h2 : PG X (.Name y py) (jm j)) (hb : jp X body rb) :
  PDS X (.For (.Tuple [.Name x px, .Name y py] tk tp) (.Call (.Name "zip" p) [a, b] [] cp) body [] pos) (nt i j rr rb) := by
 refine PS.imp (QbH hp hc (pi_zip hg hm ha hs hs2) (QbJ hc (qu h1 (qu h2 Qbl))) hb fun _ => rfl) fun D σ H ⟨ι, G, st, Γ, en, sr, q⟩ => ⟨ι, G, st, Γ, en, sr, ?_⟩
 unfold nt at q
 cases e1 : rr Γ st with
 | stuck => rw [e1] at q; exact q
 | ex c s => rw [e1] at q; exact q
 | ok ws st1 =>
  rw [e1] at q
  intro vs ι1 G1 H1 x1 sr1 r1
  have q : wpF X ι st.nxt G ((pz ws st1).bind fun ps st2 => dw i j rb ps Γ st2) D := q
  rcases zipW_shape ws st1 with e | ⟨xs, ys, rfl, e⟩
  ·rw [e] at q; exact (show False from q).elim
  ·rw [e] at q
   have q1 : wpF X ι1 st1.nxt G1 (dw i j rb (xs.zip ys) Γ st1) D := wpF.later x1 q
   obtain ⟨u, v, rfl, ru, rv⟩ := rel2 r1
   cases ru with
   | @tup a1 us _ sa ca ta =>
    cases rv with
    | @tup b1 vs _ sb cb tb =>
     have la := ta.length
     have lb := tb.length
     have lz : (xs.zip ys).length = min xs.length ys.length := List.length_zip
     refine ⟨a1, b1, us, vs, rfl, sqT_same sr1.sub sa, sqT_same sr1.sub sb, ?_⟩
     refine ⟨fun k m σ' H' => m = (xs.zip ys).length - k/\k<=(xs.zip ys).length/\∃ ι2 G2 st2 Γ2, Ext ι1 st1.nxt G1 ι2 st2.nxt G2/\SR X.K ι2 st2 G2 H'/\EnvR X.K ι2 st2.nxt G2 σ' Γ2/\wpF X ι2 st2.nxt G2 (dw i j rb ((xs.zip ys).drop k) Γ2 st2) D,
      ⟨(xs.zip ys).length, by simp, Nat.zero_le _, ι1, G1, st1, Γ, Ext.refl _ _ _, sr1, en.mono x1, by rw [List.drop_zero]; exact q1⟩, ?_⟩
     rintro k m σ' H' ⟨rfl, hk, ι2, G2, st2, Γ2, e2, sr2, en2, q2⟩
     have sa2 : SqT X.K H' a1 us := sqT_same sr2.sub (sqT_same e2.sm sa)
     have sb2 : SqT X.K H' b1 vs := sqT_same sr2.sub (sqT_same e2.sm sb)
     by_cases hlt : k < (xs.zip ys).length
     ·have kx : k < xs.length := by omega
      have ky : k < ys.length := by omega
      have hd : (xs.zip ys).drop k = (xs[k], ys[k]) :: (xs.zip ys).drop (k + 1) := by rw [Qml hlt, List.getElem_zip]
      obtain ⟨xv, hxv, rxv⟩ := (ta.mono e2).get (QlR kx)
      obtain ⟨yv, hyv, ryv⟩ := (tb.mono e2).get (QlR ky)
      rw [hd] at q2
      refine .inr ⟨⟨us, vs, xv, yv, sa2, sb2, hxv, hyv⟩, fun σ3 H3 => ∃ ι3 G3 st3 Γ3, Ext ι1 st1.nxt G1 ι3 st3.nxt G3/\SR X.K ι3 st3 G3 H3/\EnvR X.K ι3 st3.nxt G3 σ3 Γ3/\wpF X ι3 st3.nxt G3 (dw i j rb ((xs.zip ys).drop (k + 1)) Γ3 st3) D,
       fun σ3 H3 h3 => ⟨(xs.zip ys).length - (k + 1), by omega, rfl, hlt, h3⟩, fun v H'' hy => ?_⟩
      obtain ⟨pn, xw, yw, rfl, hn, rfl, gx, gy⟩ := hy
      have ex := gx us sa2
      have ey := gy vs sb2
      rw [hxv] at ex
      rw [hyv] at ey
      cases ex
      cases ey
      obtain ⟨sr2', x2⟩ := sr2.laid (o := .tup [xv, yv]) hn
      refine ⟨pn, [xv, yv], rfl, .inl (.inl cn), rfl, xv, [yv], rfl, yv, [], rfl, rfl, ?_⟩
      refine ⟨ι2, _, st2, (Γ2.set i (some xs[k])).set j (some ys[k]), ((en2.mono x2).set i (rxv.mono x2)).set j (ryv.mono x2), sr2', ?_⟩
      have q3 := wpF.later x2 q2
      have q3 : wpF X ι2 st2.nxt (upd G2 pn (.tup [xv, yv])) ((rb ((Γ2.set i (some xs[k])).set j (some ys[k])) st2).bind fun fl st' => match fl with
       | .nx Γ' => dw i j rb ((xs.zip ys).drop (k + 1)) Γ' st'
       | .ct Γ' => dw i j rb ((xs.zip ys).drop (k + 1)) Γ' st'
       | .bk Γ' => .ok (.nx Γ') st'
       | .rt w => .ok (.rt w) st') D := q3
      cases e3 : rb ((Γ2.set i (some xs[k])).set j (some ys[k])) st2 with
      | stuck => rw [e3] at q3; exact q3
      | ex c s => rw [e3] at q3; exact q3
      | ok fl st3 =>
       rw [e3] at q3
       intro ι3 G3 H3 x3 sr3
       cases fl with
       | nx Γ3 => exact fun σ3 en3 => ⟨ι3, G3, st3, Γ3, (e2.trans x2).trans x3, sr3, en3, wpF.later x3 q3⟩
       | ct Γ3 => exact fun σ3 en3 => ⟨ι3, G3, st3, Γ3, (e2.trans x2).trans x3, sr3, en3, wpF.later x3 q3⟩
       | bk Γ3 => exact q3 ι3 G3 H3 x3 sr3
       | rt w => exact q3 ι3 G3 H3 x3 sr3
     ·have ek : k = (xs.zip ys).length := by omega
      subst ek
      rw [List.drop_length] at q2
      exact .inl ⟨⟨us, vs, sa2, sb2, by omega⟩, q2 ι2 G2 H' (Ext.refl _ _ _) sr2 σ' en2⟩
end
section
variable {X : Cx}
theorem QlI {K : PySem.W.Frag} {ι : Nat->Addr} {N : Nat} {G : Hp} {σ : St} {Γ : Ga} {v v2 : V} {w w2 : W} (cap : List Nat) (en : EnvR K ι N G σ Γ) (r : RelW K ι N G v w) (r2 : RelW K ι N G v2 w2) : EnvR K ι N G (ik cap σ (some v) (some v2)) (some w :: some w2 :: cw cap Γ) := by
 have e2 := QfT cap en r2
 refine ⟨by unfold ik cw; simp, fun i u h => ?_⟩
 cases i with
 | zero =>
  have h' : some (some w) = some (some u) := by simpa using h
  cases h'
  exact ⟨v, by unfold ik; simp, r⟩
 | succ i =>
  obtain ⟨z, h1, h2⟩ := e2.get i u (by simpa using h)
  exact ⟨z, by unfold ik; unfold ie at h1; simpa using h1, h2⟩
end
end DL
namespace L2
open PySem PySem.Spec PyProof.Rows
section
variable {X : Cx} {k : Nat} {f : Addr} {fd : FuncData} {pn : Str} {sp : Sp}
end
end L2
namespace L2
open PySem PySem.Spec PyProof.Rows PySem.W PySem.Calls
section
variable {prog : Program} {w : World} {A : Around} {E : Value->Shared->Prop} {s : Shared} {h₀ : Heap} {L a kS : Addr} {m : Str->Option Value} {news : List (Addr × Obj)} {vs ks : List Value}
end
end L2
namespace L2
open PySem PySem.Spec PyProof.Rows
section
variable {X : Cx} {k : Nat} {f : Addr} {fd : FuncData} {pn : Str} {sp : Sp}
end
section
variable {X : Cx}
end
section
open PySem.SeqAt
open PySem.AutoSeq1 (wpAny_loadPart')
open PySem.MeetsSeq PySem.MeetsSeq2 PySem.MeetsSeq3
end
section
variable {X : Cx} {H : Hp}
end
section
variable {X : Cx} {QlP : List (Addr × Obj)} {σ : List (Option V)} {H H' : Hp} {s : Shared} {h' : Heap}
end
end L2
namespace DL
open PySem PySem.Spec PyProof.Rows L2
section
variable {X : Cx}
theorem QeE {ι : Nat->Addr} {G H : Hp} {st : S} {m : Bool} {xs : List V} {ws : List W} {Q : VK} (sr : SR X.K ι st G H) (r : RelWs X.K ι st.nxt G xs ws) (q : wpW X ι st.nxt G (opL m ws st) Q) : ∀ p, H p = none->Q (.ref p) (upd H p (.lst xs)) := by
 cases m with
 | true => exact (wp sr r q).2
 | false => exact (xg sr r q).2
end
section
variable {X : Cx}
end
section
variable {X : Cx}
theorem SR.holdT {K : PySem.W.Frag} {ι : Nat->Addr} {st : S} {G H : Hp} (sr : SR K ι st G H) {b : Addr} {vs : List V} (hb : H b = some (.tup vs)) : ∃ G', Ext ι st.nxt G ι st.nxt G'/\SR K ι st G' H/\G' b = some (.tup vs) := by
 cases e : G b with
 | some o =>
  have := sr.sub b o e
  rw [hb] at this
  cases this
  exact ⟨G, Ext.refl _ _ _, sr, e⟩
 | none =>
  have sm : ee G (upd G b (.tup vs)) := fun c u q => by rw [bo (il q e)]; exact q
  have ex : Ext ι st.nxt G ι st.nxt (upd G b (.tup vs)) := ⟨QlX _, fun _ _ => rfl, sm⟩
  refine ⟨_, ex, ⟨fun c u q => ?_, fun n o q => ?_, sr.inj⟩, cn⟩
  ·by_cases hc : c = b
   ·subst hc; rw [cn] at q; rw [<-q]; exact hb
   ·rw [bo hc] at q; exact sr.sub c u q
  ·obtain ⟨h1, h2, h3⟩ := sr.live n o q
   have hne : ι n ≠ b := fun z => by
    cases o with
    | lst ws => obtain ⟨xs, q2, _⟩ := h3; rw [z, hb] at q2; cases q2
    | dct ks ws => obtain ⟨xs, q2, _⟩ := h3; rw [z] at q2; exact dKo_ne q2 hb ⟨fun _ z => (by cases z), fun _ z => (by cases z)⟩
   refine ⟨h1, by rw [bo hne]; exact h2, ?_⟩
   cases o with
   | lst ws => obtain ⟨xs, q2, r⟩ := h3; exact ⟨xs, q2, r.mono ex⟩
   | dct ks ws => obtain ⟨xs, q2, l, r⟩ := h3; exact ⟨xs, q2, l, r.mono ex⟩
def keyVW : Key->W
 | .inl i => .int i
 | .inr x => .str x
def uc (k : List Key) : W := .tup (k.map keyVW)
theorem QaQ {K : PySem.W.Frag} {ι : Nat->Addr} {N : Nat} {G : Hp} : ∀ k : List Key, RelWs K ι N G (k.map kV) (k.map keyVW)
 | [] => .nil
 | .inl i :: k => .cons (.int i) (QaQ k)
 | .inr x :: k => .cons (.str x) (QaQ k)
theorem SR.holdTs {K : PySem.W.Frag} {ι : Nat->Addr} {st : S} {H : Hp} : ∀ {bs : List Addr} {ks : List (List Key)} {G : Hp}, SR K ι st G H->bs.length = ks.length->(∀ (j : Nat) b k, bs[j]? = some b->ks[j]? = some k->H b = some (.tup (k.map kV))) ->
  ∃ G', Ext ι st.nxt G ι st.nxt G'/\SR K ι st G' H/\RelWs K ι st.nxt G' (bs.map V.ref) (ks.map uc)
 | [], [], G, sr, _, _ => ⟨G, Ext.refl _ _ _, sr, .nil⟩
 | [], _ :: _, _, _, h, _ => by cases h
 | _ :: _, [], _, _, h, _ => by cases h
 | b :: bs, k :: ks, G, sr, hl, h => by
  obtain ⟨G1, e1, s1, g1⟩ := sr.holdT (h 0 b k rfl rfl)
  obtain ⟨G2, e2, s2, r2⟩ := SR.holdTs (bs := bs) (ks := ks) s1 (by simpa using hl) fun j b' k' hb hk => h (j + 1) b' k' (by simpa using hb) (by simpa using hk)
  have g2 := e2.sm _ _ g1
  exact ⟨G2, e1.trans e2, s2, .cons (.tup (.inl (.inl g2)) (fun _ => g2) (QaQ k)) r2⟩
def kj (m : Bool) : OpN := fun ws st => match ws with
 | [w] => (match ip st w with
  | some (ks, _) => if (ks.all fun k => !isK k) = true then opL m (ks.map fun k => uc (tOf k)) st else .stuck
  | none => QbK m [w] st)
 | _ => .stuck
theorem d_listX {QlP : List (Addr × Obj)} {σ : St} {H : Hp} {s : Shared} {a : Addr} {kvs : List (ar × V)} {Q : Value->Shared->Prop} (hc : X.A.handled = none) (I : Inv X QlP σ H s) (e : H a = some (dKo kvs)) (hk : ∀ p ∈ kvs, isK p.1 = false)
  (k : ∀ (p : Addr) (bs : List Addr) (s' : Shared), H p = none->bs.length = kvs.length->(∀ (j : Nat) (b : Addr) (q : ar × V), bs[j]? = some b->kvs[j]? = some q->H b = some (.tup ((tOf q.1).map kV)))->Inv X QlP σ (upd H p (.lst (bs.map V.ref))) s'->Q (.ref p) s') :
  wpAny (model X.prog X.w) X.A (call (.type "list") [.ref a]) Q X.xe s := by
 by_cases h0 : kvs = []
 ·subst h0
  have e : H a = some (.dK []) := e
  refine Qgx hc (I.toT e) (kvs := []) cn fun p bs s' hp hb _ I' => ?_
  have hne : a ≠ p := fun z => by rw [<-z, cn] at hp; cases hp
  have hb : bs = [] := List.eq_nil_of_length_eq_zero hb
  subst hb
  rw [bo (fun z => hne z.symm)] at hp
  refine k p [] s' hp rfl (fun j b q hb => by simp at hb) ?_
  have := I'.toK (a := a) (by rw [bo hne, cn])
  have e2 : upd (upd (upd H a (.dT [])) p (.lst (([] : List Addr).map V.ref))) a (.dK []) = upd H p (.lst (([] : List Addr).map V.ref)) := by
   funext b
   by_cases z : b = a
   ·subst z; rw [cn, bo hne, e]
   ·rw [bo z]
    by_cases z2 : b = p
    ·subst z2; rw [cn, cn]
    ·rw [bo z2, bo z2, bo z]
  rw [e2] at this
  exact this
 ·rw [dKo, Qmp (qb h0 hk)] at e
  refine Qgx hc I e fun p bs s' hp hb hq I' => k p bs s' hp (by rw [hb, QlY]) (fun j b q hbj hqj => ?_) I'
  exact hq j b (tOf q.1, q.2) hbj (by rw [Qmf, hqj]; rfl)
theorem QlF {m : Bool} (hh : X.A.handled = none) : jh X (.type "list") (kj m) := by
 intro QlP s σ H ι G st xs ws us Q I sr rv t q
 unfold kj at q
 split at q
 ·rename_i w
  cases e : ip st w with
  | none => rw [e] at q; exact cw_list QlP s σ H ι G st xs [w] us Q I sr rv t q
  | some p =>
   obtain ⟨ks, vs⟩ := p
   rw [e] at q
   obtain ⟨v, rfl, r⟩ := jz t
   obtain ⟨u, rfl, ru⟩ := rv.one
   obtain ⟨a, ys, rfl, hH, hl, t2⟩ := nj sr r e
   cases (show u = Value.ref a from ru)
   by_cases ok : (ks.all fun k => !isK k) = true
   case neg => have q : wpW X ι st.nxt G (if (ks.all fun k => !isK k) = true then _ else .stuck) Q := q; rw [Qmp ok] at q; exact q.elim
   have q : wpW X ι st.nxt G (opL m (ks.map fun k => uc (tOf k)) st) Q := by
    have q : wpW X ι st.nxt G (if (ks.all fun k => !isK k) = true then _ else .stuck) Q := q
    rw [Qmo ok] at q; exact q
   have lz : (ks.zip ys).length = ks.length := by rw [List.length_zip]; omega
   have hk : ∀ p ∈ ks.zip ys, isK p.1 = false := fun p hp => by
    rw [Qmv] at ok
    have := ok p.1 (by rw [<-zip_fst hl]; exact List.mem_map.mpr ⟨p, hp, rfl⟩)
    simpa using this
   refine d_listX hh I hH hk fun p bs s' hp hb hk I' => ?_
   obtain ⟨G', ex, sr', rel⟩ := sr.holdTs (bs := bs) (ks := ks.map tOf) (by rw [hb, lz, QlY]) fun j b k hb' hk' => by
    rw [Qmf] at hk'
    cases ej : ks[j]? with
    | none => rw [ej] at hk'; cases hk'
    | some k0 =>
     rw [ej] at hk'
     cases hk'
     have hj : j < ks.length := (List.getElem?_eq_some_iff.mp ej).1
     have hz : (ks.zip ys)[j]? = some (k0, ys[j]'(by omega)) := by
      rw [List.getElem?_zip_eq_some]
      exact ⟨ej, QlR (by omega)⟩
     exact hk j b _ hb' hz
   rw [List.map_map] at rel
   exact ⟨.ref p, _, I', rfl, QeE sr' rel (wpW.later ex (show wpW X ι st.nxt G (opL m (ks.map fun k => uc (tOf k)) st) Q from q)) p hp⟩
 ·exact (show False from q).elim
end
section
variable {X : Cx}
def mr : List W->Option (List (W × W))
 | [] => some []
 | w :: ws => (match w with
  | .tup [a, b] => (mr ws).map ((a, b) :: ·)
  | _ => none)
def mv : W->Option (List (W × W))
 | .lst xs => mr xs
 | _ => none
theorem Qdr : ∀ {ws : List W} {ps : List (W × W)}, mr ws = some ps->ws = ps.map fun p => .tup [p.1, p.2]
 | [], _, h => by cases h; rfl
 | w :: ws, ps, h => by
  unfold mr at h
  split at h
  ·cases e : mr ws with
   | none => rw [e] at h; cases h
   | some r => rw [e] at h; cases h; rw [Qms, Qdr e]
  ·cases h
theorem Qfr {ι : Nat->Addr} {N : Nat} {G : Hp} {v : V} {w : W} {ps : List (W × W)} (r : RelW X.K ι N G v w) (h : mv w = some ps) : ∃ a xs, v = .ref a/\SqL X.K G a xs/\RelWs X.K ι N G xs (ps.map fun p => .tup [p.1, p.2]) := by
 cases r with
 | lst s t => have := Qdr h; subst this; exact ⟨_, _, rfl, s, t⟩
 | _ => cases h
theorem Qfw {ι : Nat->Addr} {N : Nat} {G : Hp} {v : V} {p : W × W} (r : RelW X.K ι N G v (.tup [p.1, p.2])) : ∃ b v1 v2, v = .ref b/\SqT X.K G b [v1, v2]/\RelW X.K ι N G v1 p.1/\RelW X.K ι N G v2 p.2 := by
 cases r with
 | tup s c t =>
  obtain ⟨v1, v2, e, r1, r2⟩ := rel2 t
  subst e
  exact ⟨_, v1, v2, rfl, s, r1, r2⟩
def nu (i j : Nat) (r : Run) (body : av) : av := fun Γ st => (r Γ st).bind fun w st1 => match mv w with
 | some ps => dw i j body ps Γ st1
 | none => .stuck
theorem QkX {i j tk : Nat} {x y : Str} {px py pos tp : Pos} {iter : Expr} {body : List Stmt} {r : Run} {rb : av} (hp : PassesOwn (model X.prog X.w) X.A X.env X.xe) (hc : X.calm = true)
  (hi : PD X iter r) (h1 : PG X (.Name x px) (jm i)) (h2 : PG X (.Name y py) (jm j)) (hb : jp X body rb) (hs : ∀ z, foldedSetIterable iter X.env z = pure z) :
  PDS X (.For (.Tuple [.Name x px, .Name y py] tk tp) iter body [] pos) (nu i j r rb) := by
 refine PS.imp (QbH hp hc (Qft hi) (QbJ hc (qu h1 (qu h2 Qbl))) hb hs) fun D σ H ⟨ι, G, st, Γ, en, sr, q⟩ => ⟨ι, G, st, Γ, en, sr, ?_⟩
 unfold nu at q
 cases e1 : r Γ st with
 | stuck => rw [e1] at q; exact q
 | ex c s => rw [e1] at q; exact q
 | ok w st1 =>
  rw [e1] at q
  intro v ι1 G1 H1 x1 sr1 r1
  have q : wpF X ι st.nxt G (match mv w with
   | some ps => dw i j rb ps Γ st1
   | none => .stuck) D := q
  cases ep : mv w with
  | none => rw [ep] at q; exact (show False from q).elim
  | some ps =>
   rw [ep] at q
   have q1 : wpF X ι1 st1.nxt G1 (dw i j rb ps Γ st1) D := wpF.later x1 q
   obtain ⟨a1, us, rfl, sa, ta⟩ := Qfr r1 ep
   have la := ta.length
   rw [QlY] at la
   refine ⟨a1, rfl, ⟨us, sr1.sub.seq sa⟩, ?_⟩
   refine ⟨fun k m σ' H' => m = ps.length - k/\k<=ps.length/\∃ ι2 G2 st2 Γ2, Ext ι1 st1.nxt G1 ι2 st2.nxt G2/\SR X.K ι2 st2 G2 H'/\EnvR X.K ι2 st2.nxt G2 σ' Γ2/\wpF X ι2 st2.nxt G2 (dw i j rb (ps.drop k) Γ2 st2) D,
    ⟨ps.length, by simp, Nat.zero_le _, ι1, G1, st1, Γ, Ext.refl _ _ _, sr1, en.mono x1, by rw [List.drop_zero]; exact q1⟩, ?_⟩
   rintro k m σ' H' ⟨rfl, hk, ι2, G2, st2, Γ2, e2, sr2, en2, q2⟩
   have sa2 : SqL X.K H' a1 us := sr2.sub.seq (e2.sm.seq sa)
   by_cases hlt : k < ps.length
   ·obtain ⟨xv, hxv, rxv⟩ := (ta.mono e2).get (w := .tup [ps[k].1, ps[k].2]) (by rw [Qmf, QlR hlt]; rfl)
    rw [Qml hlt] at q2
    refine .inr ⟨⟨us, xv, sa2, hxv⟩, fun σ3 H3 => ∃ ι3 G3 st3 Γ3, Ext ι1 st1.nxt G1 ι3 st3.nxt G3/\SR X.K ι3 st3 G3 H3/\EnvR X.K ι3 st3.nxt G3 σ3 Γ3/\wpF X ι3 st3.nxt G3 (dw i j rb (ps.drop (k + 1)) Γ3 st3) D,
     fun σ3 H3 h3 => ⟨ps.length - (k + 1), by omega, rfl, hlt, h3⟩, fun v H'' hy => ?_⟩
    obtain ⟨rfl, gx⟩ := hy
    have ex := gx us sa2
    rw [hxv] at ex
    cases ex
    obtain ⟨b, v1, v2, rfl, sq, r1', r2'⟩ := Qfw rxv
    refine ⟨b, [v1, v2], rfl, sqT_same sr2.sub sq, rfl, v1, [v2], rfl, v2, [], rfl, rfl, ?_⟩
    refine ⟨ι2, _, st2, (Γ2.set i (some ps[k].1)).set j (some ps[k].2), (en2.set i r1').set j r2', sr2, ?_⟩
    have q3 : wpF X ι2 st2.nxt G2 ((rb ((Γ2.set i (some ps[k].1)).set j (some ps[k].2)) st2).bind fun fl st' => match fl with
     | .nx Γ' => dw i j rb (ps.drop (k + 1)) Γ' st'
     | .ct Γ' => dw i j rb (ps.drop (k + 1)) Γ' st'
     | .bk Γ' => .ok (.nx Γ') st'
     | .rt w => .ok (.rt w) st') D := q2
    cases e3 : rb ((Γ2.set i (some ps[k].1)).set j (some ps[k].2)) st2 with
    | stuck => rw [e3] at q3; exact q3
    | ex c s => rw [e3] at q3; exact q3
    | ok fl st3 =>
     rw [e3] at q3
     intro ι3 G3 H3 x3 sr3
     cases fl with
     | nx Γ3 => exact fun σ3 en3 => ⟨ι3, G3, st3, Γ3, e2.trans x3, sr3, en3, wpF.later x3 q3⟩
     | ct Γ3 => exact fun σ3 en3 => ⟨ι3, G3, st3, Γ3, e2.trans x3, sr3, en3, wpF.later x3 q3⟩
     | bk Γ3 => exact q3 ι3 G3 H3 x3 sr3
     | rt w => exact q3 ι3 G3 H3 x3 sr3
   ·have ek : k = ps.length := by omega
    subst ek
    rw [List.drop_length] at q2
    exact .inl ⟨⟨us, sa2, by omega⟩, q2 ι2 G2 H' (Ext.refl _ _ _) sr2 σ' en2⟩
def jt (rt re : Run) (Γc : Ga) : List (W × W)->List W->S->R (List W)
 | [], acc, st => .ok acc st
 | x :: xs, acc, st => (rt (some x.1 :: some x.2 :: Γc) st).calm.bind fun b st1 => match b with
  | .bl true => (re (some x.1 :: some x.2 :: Γc) st1).calm.bind fun y st2 => jt rt re Γc xs (acc ++ [y]) st2
  | .bl false => jt rt re Γc xs acc st1
  | _ => .stuck
def qt (m : Bool) (r : Run) (cap : List Nat) (rt re : Run) : Run := fun Γ st => (r Γ st).bind fun w st1 => match mv w with
 | some ps => if ps.length < sizeLine then (jt rt re (cw cap Γ) ps [] st1).bind (opL m) else .stuck
 | none => .stuck
theorem Qld {scope : Scope} {x y : Str} {px py pos tp : Pos} {tk : Nat} {cl : List (Str × Addr)} {N : List Str} {cap : List Nat} {elt iter : Expr} {ifs : List Expr} {r rt re : Run} {m : Bool} (hc : X.calm = true) (hi : PD X iter r) (Sc : CompSc2 X scope x y cl N cap)
  (ht : ∀ C s H ex, PTs (bu X scope cl C N s H ex) ifs (tT0 X.K rt)) (he : ∀ C s H ex, PE (bu X scope cl C N s H ex) elt (tD0 X.K re)) (hs : ∀ z, foldedSetIterable iter X.env z = pure z) :
  PD X (.ListComp elt [⟨.Tuple [.Name x px, .Name y py] tk tp, iter, ifs, 0⟩] scope pos) (qt m r cap rt re) := by
 refine PE.imp (QkR hc (Qft hi) Sc ht he hs) fun σ H Q h => ?_
 obtain ⟨ι, G, st, Γ, en, sr, q⟩ := h
 refine ⟨ι, G, st, Γ, en, sr, ?_⟩
 unfold qt at q
 cases e1 : r Γ st with
 | stuck => rw [e1] at q; exact q
 | ex c s => rw [e1] at q; exact q
 | ok w st1 =>
  rw [e1] at q
  intro v ι1 G1 H1 x1 sr1 r1
  have q : wpW X ι st.nxt G (match mv w with
   | some ps => if ps.length < sizeLine then (jt rt re (cw cap Γ) ps [] st1).bind (opL m) else .stuck
   | none => .stuck) Q := q
  cases ep : mv w with
  | none => rw [ep] at q; exact (show False from q).elim
  | some ps =>
   rw [ep] at q
   have q : wpW X ι st.nxt G (if ps.length < sizeLine then (jt rt re (cw cap Γ) ps [] st1).bind (opL m) else .stuck) Q := q
   by_cases hl : ps.length < sizeLine
   ·rw [Qmo hl] at q
    have q1 := wpL.later x1 (Qer q)
    have en1 := en.mono x1
    obtain ⟨a1, us, rfl, sa, ta⟩ := Qfr r1 ep
    have la := ta.length
    rw [QlY] at la
    refine ⟨a1, rfl, ⟨us, sr1.sub.seq sa⟩, ?_⟩
    refine ⟨fun i k ys H' => k = ps.length - i/\i<=ps.length/\ys.length<=i/\∃ ι2 G2 st2 acc, Ext ι1 st1.nxt G1 ι2 st2.nxt G2/\SR X.K ι2 st2 G2 H'/\RelWs X.K ι2 st2.nxt G2 ys acc/\wpL X m ι2 st2.nxt G2 (jt rt re (cw cap Γ) (ps.drop i) acc st2) Q,
     ⟨ps.length, by simp, Nat.zero_le _, Nat.zero_le _, ι1, G1, st1, [], Ext.refl _ _ _, sr1, .nil, by rw [List.drop_zero]; exact q1⟩, ?_⟩
    rintro i k ys H' ⟨rfl, hi', hy, ι2, G2, st2, acc, e2, sr2, ra, q2⟩
    refine ⟨by omega, ?_⟩
    have sa2 : SqL X.K H' a1 us := sr2.sub.seq (e2.sm.seq sa)
    by_cases hlt : i < ps.length
    ·obtain ⟨xv, hxv, rxv⟩ := (ta.mono e2).get (w := .tup [ps[i].1, ps[i].2]) (by rw [Qmf, QlR hlt]; rfl)
     rw [Qml hlt] at q2
     refine .inr ⟨⟨us, xv, sa2, hxv⟩, fun v H'' hy' => ?_⟩
     obtain ⟨rfl, gx⟩ := hy'
     have ex := gx us sa2
     rw [hxv] at ex
     cases ex
     obtain ⟨b, v1, v2, rfl, sq, r1', r2'⟩ := Qfw rxv
     refine ⟨b, v1, v2, rfl, sqT_same sr2.sub sq, ?_⟩
     have q2' : wpL X m ι2 st2.nxt G2 ((rt (some ps[i].1 :: some ps[i].2 :: cw cap Γ) st2).calm.bind fun b st3 => match b with
      | .bl true => (re (some ps[i].1 :: some ps[i].2 :: cw cap Γ) st3).calm.bind fun y st4 => jt rt re (cw cap Γ) (ps.drop (i + 1)) (acc ++ [y]) st4
      | .bl false => jt rt re (cw cap Γ) (ps.drop (i + 1)) acc st3
      | _ => .stuck) Q := q2
     have en2 := QlI cap (en1.mono e2) r1' r2'
     refine ⟨ι2, G2, st2, some ps[i].1 :: some ps[i].2 :: cw cap Γ, en2, sr2, zl rfl q2' fun b st3 vb ι3 G3 H3 e3 sr3 rb q3 => ?_⟩
     cases b with
     | bl b =>
      cases rb
      refine ⟨b, rfl, ?_⟩
      cases b with
      | true =>
       rw [Qmo rfl]
       refine ⟨ι3, G3, st3, some ps[i].1 :: some ps[i].2 :: cw cap Γ, en2.mono e3, sr3, zl rfl q3 fun y st4 vy ι4 G4 H4 e4 sr4 ry q4 => ?_⟩
       exact ⟨ps.length - (i + 1), by omega, rfl, hlt, by rw [Qma, Qmi]; omega, ι4, G4, st4, acc ++ [y], (e2.trans e3).trans e4, sr4, ((ra.mono e3).mono e4).append (.cons ry .nil), q4⟩
      | false =>
       rw [Qmp QlQ]
       exact ⟨ps.length - (i + 1), by omega, rfl, hlt, by omega, ι3, G3, st3, acc, e2.trans e3, sr3, ra.mono e3, q3⟩
     | _ => exact (show False from q3).elim
    ·have ei : i = ps.length := by omega
     subst ei
     rw [List.drop_length] at q2
     exact .inl ⟨⟨us, sa2, by omega⟩, QeE sr2 ra (show wpW X ι2 st2.nxt G2 (opL m acc st2) Q from q2)⟩
   ·rw [Qmp hl] at q; exact (show False from q).elim
end
section
variable {X : Cx}
end
section
variable {X : Cx}
def jv : Run := fun _ _ => .stuck
def Qgf : av := fun _ _ => .stuck
theorem QkZ {e : Expr} : PD X e jv := fun _ _ _ _ _ _ ⟨_, _, _, _, _, _, q⟩ => (show False from q).elim
theorem QjA {e : Expr} : PT X e (tDT X jv) := fun _ _ _ _ _ _ ⟨_, _, _, _, _, _, q⟩ => (show False from q).elim
theorem QjD {e : Stmt} : PDS X e Qgf := fun _ _ _ _ _ _ ⟨_, _, _, _, _, _, q⟩ => (show False from q).elim
theorem QaJ {e : Stmt} {i : Nat} : PDS X e (be i jv) := fun _ _ _ _ _ _ ⟨_, _, _, _, _, _, q⟩ => (show False from q).elim
def orS {α : Type} (a : α) (o : Option α) : Option α := match o with
 | some r => some r
 | none => some a
theorem zq {α : Type} {a : α} {o : Option α} {r : α} {P : α->Prop} (h : orS a o = some r) (ha : P a) (k : o = some r->P r) : P r := by
 cases o with
 | none => cases h; exact ha
 | some b => cases h; exact k rfl
def nk (rk rv : Run) : Run := fun Γ st => (rk Γ (st.new (.dct [] []))).bind fun k st1 => (rv Γ st1).bind fun v st2 => match st2.mu st.nxt, fi k with
 | some (.dct [] []), some (.inl k) => .ok (.ref st.nxt) (st2.put st.nxt (.dct [.inl k] [v]))
 | _, _ => .stuck
theorem Qla {k v : Expr} {pos : Pos} {rk rv : Run} (hk : PD X k rk) (hv : PD X v rv) : PD X (.Dict [some k] [v] pos) (nk rk rv) := by
 refine PE.imp (pe_disp (QkM hk hv pps_nil) rfl rfl (by simp) (show 1<=15 by decide)) fun σ H Q h => ?_
 obtain ⟨ι, G, st, Γ, en, sr, q⟩ := h
 intro p hp
 obtain ⟨ι0, e0, sr0, ep⟩ := sr.newO (o := .dct [] []) (u := dKo []) hp ⟨[], cn, rfl, .nil⟩
 have q0 : wpW X ι0 (st.nxt + 1) G (nk rk rv Γ st) Q := wpW.later e0 q
 refine ⟨ι0, G, st.new (.dct [] []), Γ, en.mono e0, sr0, wpW.bind q0 fun k1 st1 v1 ι1 G1 H1 _ e1 sr1 r1 q1 => ?_⟩
 refine ⟨ι1, G1, st1, Γ, (en.mono e0).mono e1, sr1, wpW.bind q1 fun k2 st2 v2 ι2 G2 H2 _ e2 sr2 r2 q2 => ?_⟩
 split at q2
 ·rename_i kk em ek
  have hι : ι2 st.nxt = p := by
   have l0 : st.nxt < (st.new (.dct [] [])).nxt := Nat.lt_succ_self _
   rw [e2.ag _ (Qmb l0 e1.le), e1.ag _ l0, ep]
  obtain ⟨_, _, xs, hH, hl, t⟩ := sr2.live _ _ em
  have hx : xs = [] := List.eq_nil_of_length_eq_zero hl
  subst hx
  rw [hι] at hH
  have hv1 : v1 = kV kk := keyW_rel r1 ek
  subst hv1
  refine ⟨hH, [(kk, v2)], rfl, (show 1<=15 by decide), ?_⟩
  have m : MOR X.K ι2 st2.nxt G2 (upd H2 (ι2 st.nxt) (dKo [(.inl kk, v2)])) (ι2 st.nxt) (.dct [.inl kk] [k2]) := ⟨[v2], by rw [cn]; rfl, rfl, .cons r2 .nil⟩
  have s3 := sr2.putO em m
  rw [hι] at s3
  have q3 := (show wpW X ι2 st2.nxt G2 (.ok (.ref st.nxt) (st2.put st.nxt (.dct [.inl kk] [k2]))) Q from q2) (.ref p) ι2 G2 _ (Ext.refl _ _ _) s3
  refine q3 ?_
  rw [<-hι]
  exact .ref (sr2.live _ _ em).1
 ·exact (show False from q2).elim
end
section
variable {X : Cx}
theorem QjQ (K : PySem.W.Frag) : ∀ k ∈ kinds, ∀ T ∈ kinds, PySem.W.kitOne K (.type k) (.type T) = some (xx k T) := by
 intro k hk T hT
 simp only [kinds, List.mem_cons, List.not_mem_nil, or_false] at hk hT
 rcases hk with rfl | rfl | rfl | rfl | rfl | rfl | rfl <;> rcases hT with rfl | rfl | rfl | rfl | rfl | rfl | rfl <;> with_unfolding_all rfl
theorem cw_isi : jh X (.builtin "isinstance") Qar := by
 intro QlP s σ H ι G st xs ws us Q I sr rv t q
 unfold Qar at q
 split at q
 ·rename_i w T
  by_cases hT : kinds.contains T = true
  ·rw [Qmo hT] at q
   have hT' : T ∈ kinds := by simpa using hT
   obtain ⟨v, v', rfl, r, r'⟩ := rel2 t
   cases r'
   cases rv with
   | cons ru rv =>
    cases rv with
    | cons rc rv =>
     cases rv
     rename_i u c
     cases (show c = Value.type T from rc)
     cases hk : jg st w with
     | none => rw [hk] at q; exact (show False from q).elim
     | some k =>
      rw [hk] at q
      have fin : ∀ tk, EP X QlP σ Q (.bool (xx k T)) { s with toks := tk } := fun tk => ⟨.bl (xx k T), H, I.tok tk, rfl, q _ ι G H (Ext.refl _ _ _) sr (.bl _)⟩
      have kk : k ∈ kinds->PySem.W.kitOne X.K (.type k) (.type T) = some (xx k T) := fun h => QjQ X.K k h T hT'
      cases r with
      | non => cases hk; cases (show u = Value.none from ru); exact PySem.W.kia_one PySem.W.kitx_none I.kIn True.intro (kk (by decide)) (fun z => nomatch z) fin
      | bl b => cases hk; cases (show u = Value.bool b from ru); exact PySem.W.kia_one PySem.W.kitx_bool I.kIn True.intro (kk (by decide)) (fun z => nomatch z) fin
      | int i => cases hk; obtain ⟨tk, e⟩ := (show ∃ t, u = Value.int i t from ru); cases e; exact PySem.W.kia_one PySem.W.kitx_int I.kIn True.intro (kk (by decide)) (fun z => nomatch z) fin
      | str x => cases hk; obtain ⟨tk, e⟩ := (show ∃ t, u = Value.str x t from ru); cases e; exact PySem.W.kia_one PySem.W.kitx_str I.kIn True.intro (kk (by decide)) (fun z => nomatch z) fin
      | @tup a xs _ s1 c1 t1 =>
       cases hk
       cases (show u = Value.ref a from ru)
       obtain ⟨its, _, pl, _⟩ := I.tuple (sqT_same sr.sub s1)
       obtain ⟨o, h1, h2, _⟩ := pl
       exact PySem.W.kia_one PySem.W.kitx_tuple I.kIn ⟨o, h1, h2⟩ (kk (by decide)) (fun z => nomatch z) fin
      | @lst a xs _ s1 t1 =>
       cases hk
       cases (show u = Value.ref a from ru)
       obtain ⟨its, _, pl, _⟩ := I.list (sr.sub.seq s1)
       obtain ⟨o, n, h1, h2, _⟩ := pl
       exact PySem.W.kia_one PySem.W.kitx_list I.kIn ⟨o, h1, h2⟩ (kk (by decide)) (fun z => nomatch z) fin
      | @dct a xs ks _ s1 l1 t1 =>
       cases hk
       cases (show u = Value.ref a from ru)
       obtain ⟨o, h1, h2⟩ := QfP (I.hok a _ (sr.sub _ _ s1))
       exact PySem.W.kia_one PySem.W.kitx_dict I.kIn ⟨o, h1, h2.1⟩ (kk (by decide)) (fun z => nomatch z) fin
      | ty n => cases hk
      | exn s1 s2 => cases hk
      | ref hn =>
       rename_i n
       cases (show u = Value.ref (ι n) from ru)
       have hk : MO.kind (st.mu n) = some k := hk
       cases e : st.mu n with
       | none => rw [e] at hk; cases hk
       | some o =>
        rw [e] at hk
        obtain ⟨_, _, h3⟩ := sr.live n o e
        cases o with
        | lst zs =>
         cases hk
         obtain ⟨vs, qv, _⟩ := h3
         obtain ⟨its, _, pl, _⟩ := I.list (SqL.of qv)
         obtain ⟨o, n, h1, h2, _⟩ := pl
         exact PySem.W.kia_one PySem.W.kitx_list I.kIn ⟨o, h1, h2⟩ (kk (by decide)) (fun z => nomatch z) fin
        | dct ks zs =>
         cases hk
         obtain ⟨xs, qv, _, _⟩ := h3
         obtain ⟨o, h1, h2⟩ := QfP (I.hok _ _ qv)
         exact PySem.W.kia_one PySem.W.kitx_dict I.kIn ⟨o, h1, h2.1⟩ (kk (by decide)) (fun z => nomatch z) fin
  ·rw [Qmp hT] at q; exact (show False from q).elim
 ·exact (show False from q).elim
end
inductive GV where
 | con (w : W)
 | fn (n : Nat) (op : OpN)
 | blt
 | fx (n : Nat) (b : Bool) (op : OpN)
 | exc (own : Bool) (tab : List (Str × Bool))
 | dcon (ks : List ar) (ws : List W)
structure FC where
 N : List Str
 sc : Scope
 gl : List (Str × GV)
 mts : List (Nat × Nat)
 cm : Bool
 cx : Bool
def FC.isMut (c : FC) (p : Pos) : Bool := c.mts.any fun q => q.1 == p.line && q.2 == p.col
structure ExcOk (K : PySem.W.Frag) (mg : Str->Option Value) (y : Str) (own : Bool) (tab : List (Str × Bool)) (cv : Value) (vc : V) : Prop where
 rel : aq vc cv
 un : ∀ u, aq vc u->u = cv
 glob : own = true->mg y = some cv/\∃ C, cv = .ref C/\ExCls K y C
 blt : own = false->mg y = none/\bootBuiltins y = some cv
 tab : ∀ x b, tab.lookup x = some b->∃ C, PySem.W.nsIn K mainGlobals x = some (some (.ref C))/\ExAt K C/\PySem.W.kitOne K (.ref C) cv = some b/\PySem.W.exmOne K (.ref C) cv = some b
structure XOK (c : FC) (X : Cx) : Prop where
 N : X.N = c.N
 nd : c.N.Nodup
 sc : X.env.scope = c.sc
 calm : c.cm = true->X.calm = true
 hnd : c.cm = true->X.A.handled = none
 units : X.A.units + 80 < cLine
 cells : ∀ y, (c.sc.names.lookup y = some .cell\/c.sc.names.lookup y = some .free)->(X.env.cells.lookup y).isSome = true
 con : ∀ x w, c.gl.lookup x = some (.con w)->∃ u v, X.mg x = some u/\aq v u/\∀ ι N G, RelW X.K ι N G v w
 fn : c.cm = true->∀ x n op, c.gl.lookup x = some (.fn n op)->∃ k f fd ps, FnOk X.prog X.w X.K X.mg X.base CX0 k f fd ps (SpD X.K n op)/\Room (k + 2) X.A/\X.mg x = some (.ref f)/\PySem.W.keepIn X.K (.ref f) = true/\fv X.K fd ps []/\ps.length = n
 blt : ∀ x, c.gl.lookup x = some .blt->X.mg x = none
 fx : ∀ x n b op, c.gl.lookup x = some (.fx n b op)->∃ k f fd ps, FnX b X.prog X.w X.K X.mg X.base k f fd ps (SpX X.K n op)/\RoomB false (k + 2) X.A/\X.mg x = some (.ref f)/\PySem.W.keepIn X.K (.ref f) = true/\fv X.K fd ps []/\ps.length = n
 exc : ∀ y own tab, c.gl.lookup y = some (.exc own tab)->∃ cv vc, ExcOk X.K X.mg y own tab cv vc
 own : c.cx = true->OwnFr X
 dcon : ∀ x ks ws, c.gl.lookup x = some (.dcon ks ws)->KDs X.prog X.w X.K X.mg x ks ws
theorem XOK.gl {c : FC} {X : Cx} (h : XOK c X) {x : Str} (e : c.sc.names.lookup x = some .globalImplicit) : Gl X x := by
 show X.env.scope.names.lookup x = _
 rw [h.sc]; exact e
def dbg (x : Str) : Bool := (x == ("__debug__" : Str)) || (x == ("__classdict__" : Str)) || (x == ("__name__" : Str))
theorem ji {x : Str} (h : dbg x = false) : (x == ("__debug__" : Str)) = false := by unfold dbg at h; simp only [Bool.or_eq_false_iff] at h; exact h.1.1
theorem dbg2 {x : Str} (h : dbg x = false) : (x == ("__classdict__" : Str)) = false := by unfold dbg at h; simp only [Bool.or_eq_false_iff] at h; exact h.1.2
theorem dbg3 {x : Str} (h : dbg x = false) : x ≠ "__name__" := by
 unfold dbg at h; simp only [Bool.or_eq_false_iff] at h
 intro e; rw [e] at h; simp at h
def slot (N : List Str) (x : Str) : Option Nat := match N with
 | [] => none
 | y :: ys => if y == x then some 0 else (slot ys x).map (· + 1)
theorem wy {N : List Str} {x : Str} {i : Nat} (h : slot N x = some i) : N[i]? = some x := by
 induction N generalizing i with
 | nil => cases h
 | cons y ys ih =>
  unfold slot at h
  by_cases hy : (y == x) = true
  ·rw [Qmo hy] at h
   cases h
   have : y = x := by simpa using hy
   rw [this]; rfl
  ·rw [Qmp hy] at h
   cases e : slot ys x with
   | none => rw [e] at h; cases h
   | some j => rw [e] at h; cases h; rw [List.getElem?_cons_succ]; exact ih e
def binD : Operator->Option Op2
 | .Add => some ce
 | .Sub => some yf
 | .Mult => some df
 | .FloorDiv => some kz
 | .Mod => some dz
 | _ => none
def cmpD : CmpOp->Option Op2
 | .Eq => some cf
 | .NotEq => some dk
 | .Lt => some opLt
 | .LtE => some yl
 | .Gt => some kc
 | .In => some dn
 | .NotIn => some rj
 | .Is => some ir
 | .IsNot => some lj
 | _ => none
def tyD (x : Str) : Option String := if x == ("str" : Str) then some "str" else if x == ("int" : Str) then some "int" else if x == ("bool" : Str) then some "bool" else if x == ("tuple" : Str) then some "tuple" else if x == ("list" : Str) then some "list" else if x == ("dict" : Str) then some "dict" else none
theorem Qks {x : Str} {T : String} (h : tyD x = some T) : bootBuiltins x = some (.type T) := by
 unfold tyD at h
 repeat' split at h
 all_goals first
  | (cases h; rename_i e; have e' := eq_of_beq e; subst e'; decide +kernel)
  | cases h
def bltD (m : Bool) (x : Str) : Option (Value × OpN) :=
 if x == ("len" : Str) then some (.builtin "len", cu)
 else if x == ("all" : Str) then some (.builtin "all", nv)
 else if x == ("isinstance" : Str) then some (.builtin "isinstance", Qar)
 else none
def zv (m : Bool) (x : Str) : Option (String × OpN) :=
 if x == ("tuple" : Str) then some ("tuple", ki)
 else if x == ("list" : Str) then some ("list", kj m)
 else if x == ("int" : Str) then some ("int", fo)
 else if x == ("dict" : Str) then some ("dict", xk m)
 else none
def gz : Expr->Bool
 | .Starred _ _ => false
 | _ => true
theorem ix {e : Expr} {es : List Expr} {env : Env} (h : gz e = true) : starEach (e :: es) env = (false, eval e env) :: starEach es env := by
 cases e <;> first | rfl | exact absurd (show false = true from h) QlQ
theorem mk {es : List Expr} {env : Env} {pos : Pos} (h : es.all gz = true) : (backTo pos (starEach es env)).any (·.1) = false := by
 induction es with
 | nil => rfl
 | cons e es ih =>
  rw [List.all_cons, Qmj] at h
  rw [ix h.1]
  show ((false : Bool) || (backTo pos (starEach es env)).any (·.1)) = false
  rw [ih h.2]; rfl
theorem QkA {e : Expr} {es : List Expr} {env : Env} {pos : Pos} (h : (e :: es).all gz = true) (hl : (e :: es).length < 30) :
  ((backTo pos (starEach (e :: es) env)).all (fun x => !x.1) && (backToKw pos (keywordEach [] env)).all (fun x => x.1.isSome) && decide ((e :: es).length + ([] : List Keyword).length + (if ([] : List Keyword).isEmpty then 0 else 1) < 30)) = true := by
 have h1 : (backTo pos (starEach (e :: es) env)).all (fun x => !x.1) = true := by
  rw [<-List.not_any_eq_all_not, mk h]; rfl
 have h2 : (backToKw pos (keywordEach [] env)).all (fun x => x.1.isSome) = true := rfl
 have h3 : decide ((e :: es).length + ([] : List Keyword).length + (if ([] : List Keyword).isEmpty then 0 else 1) < 30) = true := decide_eq_true (by simpa using hl)
 rw [h1, h2, h3]; rfl
def mthD (m : Str) : Option (String × OpM) :=
 if m == ("append" : Str) then some ("list", iy)
 else if m == ("join" : Str) then some ("str", pc)
 else if m == ("get" : Str) then some ("dict", jf)
 else if m == ("setdefault" : Str) then some ("dict", fm)
 else none
theorem mthD_ok {X : Cx} {m : Str} {T : String} {op : OpM} (hu : X.A.units + 64 < cLine) (h : mthD m = some (T, op)) : ∃ id, Mth X m T id op := by
 unfold mthD at h
 repeat' split at h
 all_goals first
  | (cases h; done)
  | (cases h; rename_i e; have e' := eq_of_beq e; subst e'; first
   | exact ⟨_, QiM⟩
   | exact ⟨_, Qlk⟩
   | exact ⟨_, mth_get (by omega)⟩
   | exact ⟨_, QeF⟩
   | exact ⟨_, QeF (by omega)⟩
   )
def mm : Expr->Bool
 | .Slice _ _ _ _ => false
 | _ => true
theorem QhL {e : Expr} (h : mm e = true) : NoSl e := by
 intro ov iv
 cases e <;> first | rfl | exact absurd (show false = true from h) QlQ
theorem QiF {e : Expr} (h : mm e = true) : QbC e := by
 intro o i
 cases e <;> first | rfl | exact absurd (show false = true from h) QlQ
def mx : Expr->Bool
 | .Set _ _ _ => false
 | _ => true
theorem QcQ {e : Expr} {op : CmpOp} (h : mx e = true) : behindInMarks op e = false := by
 cases e <;> first | rfl | exact absurd (show false = true from h) QlQ
theorem zg {e : Expr} {env : Env} (h : mx e = true) : ∀ z, foldedSetIterable e env z = pure z := by
 intro z
 cases e <;> first | rfl | exact absurd (show false = true from h) QlQ
theorem Qds {op op' : CmpOp} {b c : Expr} (h : mx c = true) : lastMarks [op, op'] [b, c] = false := by
 cases c <;> first | rfl | exact absurd (show false = true from h) QlQ
def QbI : Expr->Bool
 | .UnaryOp .Not _ _ => false
 | .BoolOp _ _ _ => false
 | .IfExp _ _ _ _ => false
 | .Compare _ _ _ _ => false
 | _ => true
theorem Qjw {e : Expr} {env : Env} (h : QbI e = true) : ∀ whole, isTrue e env whole = (do let v <-whole; standAt e.pos; holding [v] (truthy v)) := by
 intro whole
 cases e with
 | UnaryOp op a p => cases op <;> first | rfl | exact absurd (show false = true from h) QlQ
 | BoolOp _ _ _ => exact absurd (show false = true from h) QlQ
 | IfExp _ _ _ _ => exact absurd (show false = true from h) QlQ
 | Compare _ _ _ _ => exact absurd (show false = true from h) QlQ
 | _ => rfl
def kh (scope sc : Scope) : Scope := { scope with names := scope.names.map fun (n, k) => if (k == .free && sc.kind == .function && sc.names.lookup n == some .cell) then (n, .cell) else (n, k) }
def fb (scope : Scope) : List Str := (scope.names.filter fun p => p.2 == .free).map (·.1)
def slots (N : List Str) : List Str->Option (List Nat)
 | [] => some []
 | y :: ys => match slot N y, slots N ys with
  | some i, some r => some (i :: r)
  | _, _ => none
def yc (scope sc : Scope) (x : Str) : Bool :=
 scope.names.all (fun y => y.2 != .cell) && scope.names.all (fun y => y.2 != .free || (sc.names.lookup y.1 == some .cell || sc.names.lookup y.1 == some .free)) && (scope.kind == .function) &&
 scope.names.all (fun y => y.2 != .local || scope.names.lookup y.1 == some .local) && (scope.names.lookup x == some .local) && (fb scope).all (fun y => scope.names.lookup y == some .free) && decide ((x :: fb scope).Nodup)
theorem QdL {N : List Str} : ∀ {ys : List Str} {js : List Nat}, slots N ys = some js->ys.length = js.length/\∀ (k j : Nat), js[k]? = some j->ys[k]? = N[j]?
 | [], js, h => by cases h; exact ⟨rfl, fun k j e => by simp at e⟩
 | y :: ys, js, h => by
  unfold slots at h
  cases e1 : slot N y with
  | none => rw [e1] at h; cases h
  | some i =>
   cases e2 : slots N ys with
   | none => rw [e1, e2] at h; cases h
   | some r =>
    rw [e1, e2] at h
    cases h
    obtain ⟨h1, h2⟩ := QdL e2
    refine ⟨by simp [h1], fun k j e => ?_⟩
    cases k with
    | zero => simp at e; subst e; rw [wy e1]; rfl
    | succ k => exact h2 k j (by simpa using e)
theorem Qbz {c : FC} {X : Cx} (h : XOK c X) {scope : Scope} {x : Str} {cap : List Nat} (hk : yc scope c.sc x = true) (hc : slots c.N (fb scope) = some cap) :
  CompSc X scope x (dy X.env scope.names []) (x :: fb scope) cap := by
 unfold yc at hk
 simp only [Qmj, Qmv, decide_eq_true_eq, beq_iff_eq] at hk
 obtain ⟨⟨⟨⟨⟨⟨h1, h2⟩, h3⟩, h4⟩, h5⟩, h6⟩, h7⟩ := hk
 have g1 : ∀ y ∈ scope.names, y.2 ≠ .cell := fun y hy e => by have := h1 y hy; rw [e] at this; cases this
 have g2 : ∀ y ∈ scope.names, y.2 = .free->c.sc.names.lookup y.1 = some .cell\/c.sc.names.lookup y.1 = some .free := fun y hy e => by
  have := h2 y hy
  rw [e] at this
  simpa using this
 have g4 : ∀ y ∈ scope.names, y.2 = .local->scope.names.lookup y.1 = some .local := fun y hy e => by
  have := h4 y hy
  rw [e] at this
  simpa using this
 have cells : ∀ y ∈ scope.names, y.2 = .free->(X.env.cells.lookup y.1).isSome = true := fun y hy e => h.cells y.1 (g2 y hy e)
 obtain ⟨sl1, sl2⟩ := QdL hc
 have fr : ∀ (k : Nat) (y : Str), (x :: fb scope)[k + 1]? = some y->scope.names.lookup y = some .free := fun k y e => by
  have e' : (fb scope)[k]? = some y := by simpa using e
  exact h6 y (List.mem_of_getElem? e')
 have rl : ∀ (l : List (Str × NameKind)) (y : Str), l.lookup y = some .free ->
   (l.map fun (n, k) => if (k == NameKind.free && X.env.scope.kind == .function && X.env.kindOf n == some .cell) then (n, NameKind.cell) else (n, k)).lookup y = some .cell ∨
   (l.map fun (n, k) => if (k == NameKind.free && X.env.scope.kind == .function && X.env.kindOf n == some .cell) then (n, NameKind.cell) else (n, k)).lookup y = some .free := by
  intro l y
  induction l with
  | nil => intro h; simp at h
  | cons p r ih =>
   intro hl
   obtain ⟨n, k'⟩ := p
   rw [List.lookup_cons] at hl
   rw [Qms]
   cases hy : y == n with
   | true =>
    rw [hy] at hl
    cases hl
    dsimp only
    split
    ·left; rw [List.lookup_cons, hy]
    ·right; rw [List.lookup_cons, hy]
   | false =>
    rw [hy] at hl
    dsimp only
    split
    ·rw [List.lookup_cons, hy]; exact ih hl
    ·rw [List.lookup_cons, hy]; exact ih hl
 refine ⟨clos_eq cells, g1, h3, g4, h5, h7, rfl, by rw [Qmg, sl1], fun k j e => ?_, fun k y e => ?_, fun k y e => rl scope.names y (fr k y e), Qbf X.env scope.names [] cells (fun y c h => by simp at h), fun y hy => ?_⟩
 ·rw [List.getElem?_cons_succ, h.N]; exact sl2 k j e
 ·have m := PySem.mem_of_lookup (fr k y e)
  have := g2 _ m rfl
  show X.env.scope.names.lookup y = _\/X.env.scope.names.lookup y = _
  rw [h.sc]; exact this
 ·refine Qbg X.env scope.names [] y (.inr ?_)
  rcases hy with hy | hy
  ·rcases relabel_mem hy with m | m
   ·exact absurd rfl (g1 _ m)
   ·exact m
  ·rcases relabel_mem hy with m | m
   ·exact m
   ·exact m
theorem QeT {c : FC} {X : Cx} (h : XOK c X) {scope : Scope} {x : Str} {cap : List Nat} (hk : yc scope c.sc x = true) (hc : slots c.N (fb scope) = some cap) (C : Addr) (s : Shared) (H : Hp) (ex : List Addr) :
  XOK { c with N := x :: fb scope, sc := kh scope c.sc, cx := false } (bu X scope (dy X.env scope.names []) C (x :: fb scope) s H ex) := by
 have Sc := Qbz h hk hc
 have es : (bu X scope (dy X.env scope.names []) C (x :: fb scope) s H ex).env.scope = kh scope c.sc := by
  show relabel scope X.env = _
  unfold relabel kh
  rw [<-h.sc]; rfl
 refine ⟨rfl, Sc.nd, es, h.calm, h.hnd, h.units, fun y hy => ?_, h.con, h.fn, h.blt, h.fx, h.exc, (fun z => Bool.noConfusion z), h.dcon⟩
 obtain ⟨cc, hcc⟩ := Sc.has y (by
  have e2 : relabel scope X.env = kh scope c.sc := es
  rw [e2]; exact hy)
 show ((dy X.env scope.names []).lookup y).isSome = true
 rw [hcc]; rfl
def yj : List Expr->Option (Str × Pos × Str × Pos)
 | [.Name x p, .Name y q] => some (x, p, y, q)
 | _ => none
theorem Qbh {es : List Expr} {x y : Str} {p q : Pos} (h : yj es = some (x, p, y, q)) : es = [.Name x p, .Name y q] := by
 unfold yj at h
 split at h
 ·cases h; rfl
 ·cases h
def Qah (scope sc : Scope) (x y : Str) : Bool := yc scope sc x && (scope.names.lookup y == some .local) && decide ((x :: y :: fb scope).Nodup)
theorem QeU {c : FC} {X : Cx} (h : XOK c X) {scope : Scope} {x y : Str} {cap : List Nat} (hk : Qah scope c.sc x y = true) (hc : slots c.N (fb scope) = some cap) :
  CompSc2 X scope x y (dy X.env scope.names []) (x :: y :: fb scope) cap := by
 unfold Qah at hk
 simp only [Qmj, decide_eq_true_eq, beq_iff_eq] at hk
 obtain ⟨⟨h1, h2⟩, h3⟩ := hk
 have S := Qbz h h1 hc
 have e : ∀ k : Nat, (x :: y :: fb scope)[k + 2]? = (x :: fb scope)[k + 1]? := fun k => by simp
 exact ⟨S.clos, S.cell, S.kind, S.names, S.loc, h2, h3, rfl, rfl, by have := S.len; simp only [Qmg] at this ⊢; omega, fun k j q => by rw [e]; exact S.capN k j q, fun k z q => S.out k z (by rw [<-e]; exact q), fun k z q => S.inn k z (by rw [<-e]; exact q), S.sub, S.has⟩
theorem Qeb {c : FC} {X : Cx} (h : XOK c X) {scope : Scope} {x y : Str} {cap : List Nat} (hk : Qah scope c.sc x y = true) (hc : slots c.N (fb scope) = some cap) (C : Addr) (s : Shared) (H : Hp) (ex : List Addr) :
  XOK { c with N := x :: y :: fb scope, sc := kh scope c.sc, cx := false } (bu X scope (dy X.env scope.names []) C (x :: y :: fb scope) s H ex) := by
 have Sc := QeU h hk hc
 have es : relabel scope X.env = kh scope c.sc := by
  unfold relabel kh
  rw [<-h.sc]; rfl
 refine ⟨rfl, Sc.nd, es, h.calm, h.hnd, h.units, fun z hz => ?_, h.con, h.fn, h.blt, h.fx, h.exc, (fun z => Bool.noConfusion z), h.dcon⟩
 obtain ⟨cc, hcc⟩ := Sc.has z (by rw [es]; exact hz)
 show ((dy X.env scope.names []).lookup z).isSome = true
 rw [hcc]; rfl
def isxD (c : FC) (x : Str) (es : List Expr) : Option (Expr × Str × Pos × List (Str × Bool)) := if x == ("isinstance" : Str) then (match es with
 | [a, .Name y p] => if dbg y then none else (match c.sc.names.lookup y, c.gl.lookup y with
  | some .globalImplicit, some (.exc _ tab) => some (a, y, p, tab)
  | _, _ => none)
 | _ => none) else none
theorem isxD_ok {c : FC} {x : Str} {es : List Expr} {a : Expr} {y : Str} {p : Pos} {tab : List (Str × Bool)} (h : isxD c x es = some (a, y, p, tab)) : x = "isinstance"/\es = [a, .Name y p]/\dbg y = false/\c.sc.names.lookup y = some .globalImplicit/\∃ own, c.gl.lookup y = some (.exc own tab) := by
 unfold isxD at h
 split at h
 ·rename_i hx
  split at h
  ·split at h
   ·cases h
   ·rename_i hd
    split at h
    ·rename_i h1 h2
     cases h
     exact ⟨eq_of_beq hx, rfl, by simpa using hd, h1, _, h2⟩
    ·cases h
  ·cases h
 ·cases h
def QbS (c : FC) : Expr->Option (Str × Pos × List ar × List W)
 | .Name y p => if dbg y then none else (match c.sc.names.lookup y, c.gl.lookup y with
  | some .globalImplicit, some (.dcon ks ws) => some (y, p, ks, ws)
  | _, _ => none)
 | _ => none
theorem Qkw {c : FC} {e : Expr} {y : Str} {p : Pos} {ks : List ar} {ws : List W} (h : QbS c e = some (y, p, ks, ws)) : e = .Name y p/\dbg y = false/\c.sc.names.lookup y = some .globalImplicit/\c.gl.lookup y = some (.dcon ks ws) := by
 unfold QbS at h
 split at h
 ·split at h
  ·cases h
  ·rename_i hd
   split at h
   ·rename_i h1 h2
    cases h
    exact ⟨rfl, by simpa using hd, h1, h2⟩
   ·cases h
 ·cases h
def cmpT (op : CmpOp) (ws : List W) : Option (W->S->R W) := match op with
 | .In => some (mw ws)
 | _ => none
def QbW (c : FC) (x : Str) : Option Run := if dbg x then none else (match c.sc.names.lookup x with
 | some .globalImplicit => (match c.gl.lookup x with
  | some (.con w) => some (af w)
  | some .blt => (tyD x).map fun T => af (.ty T)
  | _ => none)
 | some .local => (slot c.N x).map aa
 | some .cell => (slot c.N x).map aa
 | some .free => (slot c.N x).map aa
 | _ => none)
def conD : Const->Option Run
 | .int i => some (af (.int i))
 | .str x => some (af (.str x))
 | .bool b => some (af (.bl b))
 | .none => some (af .non)
 | _ => none
def unD (op : UnaryOp) (r : Run) : Option Run := match op with
 | .Not => some (km r)
 | .USub => some (gd r opNeg)
 | _ => none
def Qch (op : BoolOp) (ra rb : Run) : Run := match op with
 | .And => oz ra rb
 | .Or => gf ra rb
def cmp0 (E : Expr->Option Run) (a : Expr) (op : CmpOp) (b : Expr) : Option Run := if mx b then (E a).bind fun ra => (E b).bind fun rb => (cmpD op).map fun o => ah ra rb o else none
def cmp1 (c : FC) (E : Expr->Option Run) (a : Expr) (op : CmpOp) (b : Expr) : Option Run := match QbS c b with
 | some (_, _, _, ws) => (E a).bind fun ra => (cmpT op ws).map fun o => gd ra o
 | none => cmp0 E a op b
def cmp2 (E : Expr->Option Run) (a : Expr) (op op' : CmpOp) (b d : Expr) : Option Run := if mx d then (E a).bind fun ra => (E b).bind fun rb => (E d).bind fun rd => (cmpD op).bind fun o => (cmpD op').map fun o' => tw ra rb rd o o' else none
def cmpR (c : FC) (E : Expr->Option Run) (a : Expr) : List CmpOp->List Expr->Option Run
 | [op], [b] => cmp1 c E a op b
 | [op, op'], [b, d] => cmp2 E a op op' b d
 | _, _ => none
theorem cmpR_ok {c : FC} {E : Expr->Option Run} {a : Expr} {ops : List CmpOp} {bs : List Expr} {r : Run} (h : cmpR c E a ops bs = some r) :
  (∃ op b, ops = [op]/\bs = [b]/\cmp1 c E a op b = some r)
 \/(∃ op op' b d, ops = [op, op']/\bs = [b, d]/\cmp2 E a op op' b d = some r)
  := by
 rcases ops with _ | ⟨op, _ | ⟨op', _ | ⟨_, _⟩⟩⟩ <;> rcases bs with _ | ⟨b, _ | ⟨d, _ | ⟨_, _⟩⟩⟩ <;> first | exact .inl ⟨_, _, rfl, rfl, h⟩ | exact .inr ⟨_, _, _, _, rfl, rfl, h⟩ | cases h
def blt0 (c : FC) (Es : List Expr->Option bw) (x : Str) (es : List Expr) (pos : Pos) : Option Run := if !c.cm then (if x == ("int" : Str) then (Es es).map fun rr => runN rr fo else none) else match bltD (c.isMut pos) x with
 | some (_, op) => (Es es).map fun rr => runN rr op
 | none => (match zv (c.isMut pos) x with
  | some (_, op) => (Es es).map fun rr => runN rr op
  | none => none)
def bltG (c : FC) (E : Expr->Option Run) (Es : List Expr->Option bw) (x : Str) (e : Expr) (es : List Expr) (pos : Pos) : Option Run := match isxD c x (e :: es) with
 | some (_, _, _, tab) => (E e).map fun ra => gd ra (jx tab)
 | none => blt0 c Es x (e :: es) pos
def Qcg (c : FC) (E : Expr->Option Run) (Es : List Expr->Option bw) (x : Str) (e : Expr) (es : List Expr) (pos : Pos) : Option Run :=
 if dbg x then none else if (e :: es).all gz then (match c.sc.names.lookup x with
  | some .globalImplicit => (match c.gl.lookup x with
   | some (.fn k op) => if (e :: es).length = k then (if c.cm then (Es (e :: es)).map fun rr => runN rr (ax op) else none) else none
   | some (.fx k b op) => if (e :: es).length = k then (if !b || c.cm then (Es (e :: es)).map fun rr => runN rr (if c.cx then op else ax op) else none) else none
   | some .blt => bltG c E Es x e es pos
   | _ => none)
  | _ => none) else none
def mthG (E : Expr->Option Run) (Es : List Expr->Option bw) (o : Expr) (m : Str) (apos : Pos) (es : List Expr) (pos : Pos) : Option Run :=
 if Qab o && apos.endLine == pos.line && es.all gz && decide (es.length < 30) then (mthD m).bind fun (T, op) => (E o).bind fun ro => (Es es).map fun rr => ci T ro rr op else none
def callR (c : FC) (E : Expr->Option Run) (Es : List Expr->Option bw) (f : Expr) (es : List Expr) (ks : List Keyword) (pos : Pos) : Option Run := match f with
 | .Name x _ => (match es with
  | [] => none
  | e :: es => (match ks with
   | [] => Qcg c E Es x e es pos
   | _ :: _ => none
   ))
 | .Attribute o m apos => (match ks with
  | [] => mthG E Es o m apos es pos
  | _ :: _ => none)
 | _ => none
def slG (m : Bool) (E : Expr->Option Run) (a : Expr) (lo hi : Option Expr) : Option Run := match lo with
 | none => (match hi with
  | none => (E a).map fun ra => Qfn m ra
  | some h => (E a).bind fun ra => (E h).map fun rh => xj m ra rh)
 | some l => (match hi with
  | none => (E a).bind fun ra => (E l).map fun rl => im m ra rl
  | some h => (E a).bind fun ra => (E l).bind fun rl => (E h).map fun rh => qz m ra rl rh)
def ixG (c : FC) (E : Expr->Option Run) (a b : Expr) : Option Run := (E a).bind fun ra => (E b).map fun rb => ah ra rb ap
def subG (c : FC) (E : Expr->Option Run) (a i : Expr) (pos : Pos) : Option Run := match i with
 | .Slice lo hi st _ => (match st with
  | none => slG (c.isMut pos) E a lo hi
  | some _ => none
  )
 | i => if mm i then ixG c E a i else none
def ifsD (T : Expr->Option Run) : List Expr->Option Run
 | [] => some (af (.bl true))
 | t :: ts => (match ts with
  | [] => T t
  | _ :: _ => none)
def compG (c : FC) (I : Expr->Option Src) (T E : FC->Expr->Option Run) (elt : Expr) (x : Str) (iter : Expr) (ifs : List Expr) (scope : Scope) (pos : Pos) : Option Run :=
 if !c.cm then none else if mx iter && yc scope c.sc x then (I iter).bind fun src => (slots c.N (fb scope)).bind fun cap =>
  (ifsD (T { c with N := x :: fb scope, sc := kh scope c.sc, cx := false }) ifs).bind fun rt => (E { c with N := x :: fb scope, sc := kh scope c.sc, cx := false } elt).map fun re => bx (c.isMut pos) src cap rt re else none
def Qcf (c : FC) (I : Expr->Option Src) (T E : FC->Expr->Option Run) (elt : Expr) (x : Str) (iter : Expr) (ifs : List Expr) (scope : Scope) (pos : Pos) : Option Run := compG c I T E elt x iter ifs scope pos
noncomputable def compT (c : FC) (T E : FC->Expr->Option Run) (Es : List Expr->Option bw) (elt : Expr) (es : List Expr) (iter : Expr) (ifs : List Expr) (scope : Scope) (pos : Pos) : Option Run :=
 if !c.cm then none else (yj es).bind fun (x, _, y, _) => if Qah scope c.sc x y then (slots c.N (fb scope)).bind fun cap => (if mx iter then (E c iter).bind fun r => (ifsD (T { c with N := x :: y :: fb scope, sc := kh scope c.sc, cx := false }) ifs).bind fun rt => (E { c with N := x :: y :: fb scope, sc := kh scope c.sc, cx := false } elt).map fun re => qt (c.isMut pos) r cap rt re else none) else none
noncomputable def Qaw (c : FC) (I : Expr->Option Src) (T E : FC->Expr->Option Run) (Es : List Expr->Option bw) (elt : Expr) (gens : List Comprehension) (scope : Scope) (pos : Pos) : Option Run := match gens with
 | [⟨.Name x _, iter, ifs, 0⟩] => Qcf c I T E elt x iter ifs scope pos
 | [⟨.Tuple es _ _, iter, ifs, 0⟩] => compT c T E Es elt es iter ifs scope pos
 | _ => none
theorem QlH {c : FC} {I : Expr->Option Src} {T E : FC->Expr->Option Run} {Es : List Expr->Option bw} {elt : Expr} {gens : List Comprehension} {scope : Scope} {pos : Pos} {r : Run} (h : Qaw c I T E Es elt gens scope pos = some r) : (∃ x px iter ifs, gens = [⟨.Name x px, iter, ifs, 0⟩]/\Qcf c I T E elt x iter ifs scope pos = some r)
 \/(∃ es tk tp iter ifs, gens = [⟨.Tuple es tk tp, iter, ifs, 0⟩]/\compT c T E Es elt es iter ifs scope pos = some r)
  := by
 unfold Qaw at h
 split at h
 ·exact .inl ⟨_, _, _, _, rfl, h⟩
 ·exact .inr ⟨_, _, _, _, _, rfl, h⟩
 ·cases h
def oddC (c : FC) : Expr->Bool
 | .ListComp _ gens _ _ => (match gens with
  | [⟨.Name _ _, iter, _, 0⟩] => c.isMut iter.pos
  | _ => true)
 | _ => false
def rng2G (E : Expr->Option Run) (a b : Expr) : Option Src := if gz a && gz b then (E a).bind fun ra => (E b).map fun rb => rg ra rb else none
def rng3G (Es : List Expr->Option bw) (a : Expr) (es : List Expr) : Option Src := none
def yk (c : FC) (E : Expr->Option Run) (Es : List Expr->Option bw) (x : Str) (es : List Expr) : Option Src := match c.sc.names.lookup x, c.gl.lookup x with
 | some .globalImplicit, some .blt => (match es with
  | [] => none
  | a :: es => (match es with
   | [] => if gz a then (E a).map jd else none
   | b :: es => (match es with
    | [] => rng2G E a b
    | d :: es => rng3G Es a (b :: d :: es))))
 | _, _ => none
mutual
noncomputable def bf : Nat->FC->Expr->Option Run
 | 0, _, _ => none
 | n + 1, c, e => orS jv <| match e with
  | .Name x _ => QbW c x
  | .Constant v _ _ => conD v
  | .BinOp a op b _ => (bf n c a).bind fun ra => (bf n c b).bind fun rb => (binD op).map fun o => ah ra rb o
  | .UnaryOp op a _ => (bf n c a).bind fun ra => unD op ra
  | .BoolOp op es pos => (match es with
   | [] => none
   | a :: es => (match es with
    | [] => bf n c a
    | b :: rest => (bf n c a).bind fun ra => (bf n c (.BoolOp op (b :: rest) pos)).map fun rb => Qch op ra rb))
  | .Compare a ops bs _ => cmpR c (bf n c) a ops bs
  | .IfExp t a b _ => (denT n c t).bind fun rt => (bf n c a).bind fun ra => (bf n c b).map fun rb => sx rt ra rb
  | .Tuple es _ _ => (denEs n c es).map fun rr => runN rr bp
  | .List es pos => (denEs n c es).map fun rr => runN rr (opL (c.isMut pos))
  | .Call f es ks pos => callR c (bf n c) (denEs n c) f es ks pos
  | .Subscript a i pos => subG c (bf n c) a i pos
  | .ListComp elt gens scope pos => Qaw c (denI n c) (denT n) (bf n) (denEs n c) elt gens scope pos
  | .Dict ks vs pos => (match ks with
   | [] => (match vs with
    | [] => some (if c.isMut pos then kn else se)
    | _ :: _ => none)
   | some k :: ks => (match ks with
    | [] => (match vs with
     | [v] => (bf n c k).bind fun rk => (bf n c v).map fun rv => nk rk rv
     | _ => none)
    | _ :: _ => none)
   | _ :: _ => none)
  | _ => none
noncomputable def denT : Nat->FC->Expr->Option Run
 | 0, _, _ => none
 | n + 1, c, e => match e with
  | .UnaryOp op a pos => (match op with
   | .Not => (denT n c a).map km
   | _ => bf n c (.UnaryOp op a pos))
  | .BoolOp op es pos => (match es with
   | [] => none
   | a :: es => (match es with
    | [] => denT n c a
    | b :: rest => (denT n c a).bind fun ra => (denT n c (.BoolOp op (b :: rest) pos)).map fun rb => Qch op ra rb))
  | .Compare a ops bs _ => orS jv (cmpR c (bf n c) a ops bs)
  | e => if QbI e then bf n c e else none
noncomputable def denEs : Nat->FC->List Expr->Option bw
 | 0, _, _ => none
 | n + 1, c, es => match es with
  | [] => some al
  | e :: es => if gz e then (bf n c e).bind fun r => (denEs n c es).map fun rr => ae r rr else none
noncomputable def denJ : Nat->FC->List Expr->Option (List Run)
 | 0, _, _ => none
 | n + 1, c, es => match es with
  | [] => some []
  | e :: es => (bf n c e).bind fun r => (denJ n c es).map fun rs => r :: rs
noncomputable def denI : Nat->FC->Expr->Option Src
 | 0, _, _ => none
 | n + 1, c, e => match e with
  | .Call f es ks pos => (match f with
   | .Name x p => (match ks with
    | [] => if x == ("range" : Str) then yk c (bf n c) (denEs n c) x es else (bf n c (.Call (.Name x p) es [] pos)).map bv
    | k :: ks => (bf n c (.Call (.Name x p) es (k :: ks) pos)).map bv)
   | f => (bf n c (.Call f es ks pos)).map bv)
  | e => (bf n c e).map bv
end
section
variable {X : Cx}
theorem binD_ok {op : Operator} {o : Op2} (h : binD op = some o) : OpW X (binaryOp op) o := by
 cases op <;> first
  | (cases h; done)
  | (cases h; exact opw_add)
  | (cases h; exact opw_sub)
  | (cases h; exact opw_mul)
  | (cases h; exact opw_div)
  | (cases h; exact opw_mod)
theorem QbA {op : CmpOp} {o : Op2} (hu : X.A.units + 64 < cLine) (h : cmpD op = some o) : OpW X (compareOp op) o := by
 cases op <;> first
  | (cases h; done)
  | (cases h; exact opw_is)
  | (cases h; exact QjI)
  | (cases h; exact opw_eq hu)
  | (cases h; exact opw_ne hu)
  | (cases h; exact opw_lt)
  | (cases h; exact opw_le)
  | (cases h; exact opw_gt)
  | (cases h; exact opw_in hu)
  | (cases h; exact QjH hu)
theorem bltD_ok {m : Bool} {x : Str} {f : Value} {op : OpN} (hh : X.A.handled = none) (hc : X.calm = true) (hu : X.A.units + 80 < cLine) (h : bltD m x = some (f, op)) : ∃ id, f = .builtin id/\bootBuiltins x = some (.builtin id)/\jh X (.builtin id) op := by
 unfold bltD at h
 repeat' split at h
 all_goals first
  | (cases h; done)
  | (cases h; rename_i e; have e' := eq_of_beq e; subst e'; first
   | exact ⟨_, rfl, by decide +kernel, cw_len⟩
   | exact ⟨_, rfl, by decide +kernel, cw_isi⟩
   | exact ⟨_, rfl, by decide +kernel, cw_all hc⟩
   )
theorem Qiw {m : Bool} {x : Str} {T : String} {op : OpN} (hh : X.A.handled = none) (h : zv m x = some (T, op)) : bootBuiltins x = some (.type T)/\jh X (.type T) op := by
 unfold zv at h
 repeat' split at h
 all_goals first
  | (cases h; done)
  | (cases h; rename_i e; have e' := eq_of_beq e; subst e'; first
   | exact ⟨by decide +kernel, QlE⟩
   | exact ⟨by decide +kernel, QlF hh⟩
   | exact ⟨by decide +kernel, QgA⟩
   | exact ⟨by decide +kernel, cw_dict⟩
   )
theorem Qlg {id : String} {op : OpN} {x : Str} {p pos : Pos} {e : Expr} {es : List Expr} {rr : bw} (hc : jh X (.builtin id) op) (hg : Gl X x) (hm : X.mg x = none) (hv : bootBuiltins x = some (.builtin id)) (ha : PDA X (e :: es) rr) (hd : dbg x = false) (hs : (e :: es).all gz = true) :
  PD X (.Call (.Name x p) (e :: es) [] pos) (runN rr op) := by
 rw [List.all_cons, Qmj] at hs
 exact PE.imp (QeA hc.r hg hm hv ha (dbg3 hd) (ji hd) (ix hs.1) (mk hs.2)) fun _ _ _ h => Qev h
theorem QeB {T : String} {op : OpN} {x : Str} {p pos : Pos} {e : Expr} {es : List Expr} {rr : bw} (hc : jh X (.type T) op) (hg : Gl X x) (hm : X.mg x = none) (hv : bootBuiltins x = some (.type T)) (ha : PDA X (e :: es) rr) (hd : dbg x = false) (hs : (e :: es).all gz = true) :
  PD X (.Call (.Name x p) (e :: es) [] pos) (runN rr op) := by
 rw [List.all_cons, Qmj] at hs
 exact PE.imp (Qjz hc.r hg hm hv ha (dbg3 hd) (ji hd) (ix hs.1) (mk hs.2)) fun _ _ _ h => Qev h
theorem QiI {tg a b : Expr} {p pos : Pos} {ra rb : Run} (hg : Gl X "range") (hm : X.mg "range" = none) (ha : PD X a ra) (hb : PD X b rb) (hs : starEach [a, b] X.env = [(false, eval a X.env), (false, eval b X.env)]) (hs2 : starEach [b] X.env = [(false, eval b X.env)]) : PDI X tg (.Call (.Name "range" p) [a, b] [] pos) (rg ra rb) := by
 refine PI.imp (Qjx hg hm (zo ha (zo hb Qbm hs2) (by rw [hs, hs2])) hs hs2) fun σ H Q hq => ?_
 obtain ⟨ι, G, st, Γ, en, sr, q⟩ := hq
 refine ⟨ι, G, st, Γ, en, sr, ?_⟩
 unfold rg at q
 unfold ae al
 cases e1 : ra Γ st with
 | stuck => rw [e1] at q; exact q
 | ex c s => rw [e1] at q; exact q
 | ok w st1 =>
  rw [e1] at q
  have q0 : match (rb Γ st1).bind fun w' st2 => (match w, w' with
    | .int i, .int j => if gu i/\gu j then R.ok (fu i (j - i).toNat) st2 else R.stuck
    | _, _ => R.stuck) with
   | .ok items st' => ∀ J ι' G' H', Ext ι st.nxt G ι' st'.nxt G'->SR X.K ι' st' G' H'->SrcR X.K J items ι' st'.nxt G'->Q J H'
   | .ex c st' => XW X ι st.nxt G c st'
   | .stuck => False := q
  show match ((rb Γ st1).bind fun w' st1 => (R.ok [] st1).bind fun ws st2 => R.ok (w' :: ws) st2).bind fun ws st2 => R.ok (w :: ws) st2 with
   | .ok ws st' => ∀ vs ι' G' H', Ext ι st.nxt G ι' st'.nxt G'->SR X.K ι' st' G' H'->RelWs X.K ι' st'.nxt G' vs ws->_
   | .ex c st' => XW X ι st.nxt G c st'
   | .stuck => False
  cases e2 : rb Γ st1 with
  | stuck => rw [e2] at q0; exact q0
  | ex c s => rw [e2] at q0; exact q0
  | ok w' st2 =>
   rw [e2] at q0
   intro vs ι1 G1 H1 x1 sr1 r1
   obtain ⟨v, v', rfl, r3, r4⟩ := rel2 r1
   have q' : match (match w, w' with
     | .int i, .int j => if gu i/\gu j then R.ok (fu i (j - i).toNat) st2 else R.stuck
     | _, _ => R.stuck) with
    | .ok items st' => ∀ J ι' G' H', Ext ι st.nxt G ι' st'.nxt G'->SR X.K ι' st' G' H'->SrcR X.K J items ι' st'.nxt G'->Q J H'
    | .ex c st' => XW X ι st.nxt G c st'
    | .stuck => False := q0
   cases w with
   | int i =>
    cases w' with
    | int j =>
     cases r3; cases r4
     by_cases hr : gu i/\gu j
     ·have q'' : match (if gu i/\gu j then R.ok (fu i (j - i).toNat) st2 else R.stuck) with
       | .ok items st' => ∀ J ι' G' H', Ext ι st.nxt G ι' st'.nxt G'->SR X.K ι' st' G' H'->SrcR X.K J items ι' st'.nxt G'->Q J H'
       | .ex c st' => XW X ι st.nxt G c st'
       | .stuck => False := q'
      rw [Qmo hr] at q''
      exact ⟨i, j, rfl, ⟨hr.1.1, hr.1.2, hr.2.1, hr.2.2⟩, q'' _ ι1 G1 H1 x1 sr1 (QdK i _)⟩
     ·have q'' : match (if gu i/\gu j then R.ok (fu i (j - i).toNat) st2 else R.stuck) with
       | .ok items st' => ∀ J ι' G' H', Ext ι st.nxt G ι' st'.nxt G'->SR X.K ι' st' G' H'->SrcR X.K J items ι' st'.nxt G'->Q J H'
       | .ex c st' => XW X ι st.nxt G c st'
       | .stuck => False := q'
      rw [Qmp hr] at q''
      exact q''.elim
    | _ => exact (show False from q').elim
   | _ => exact (show False from q').elim
end
theorem ob {α β : Type} {o : Option α} {f : α->Option β} {b : β} (h : o.bind f = some b) : ∃ a, o = some a/\f a = some b := by
 cases o with
 | none => cases h
 | some a => exact ⟨a, rfl, h⟩
theorem om {α β : Type} {o : Option α} {f : α->β} {b : β} (h : o.map f = some b) : ∃ a, o = some a/\f a = b := by
 cases o with
 | none => cases h
 | some a => exact ⟨a, rfl, Qmu h⟩
theorem fh {α : Type} {c : Bool} {x : Option α} {b : α} (h : (if c then x else none) = some b) : c = true/\x = some b := by
 cases c with
 | true => exact ⟨rfl, h⟩
 | false => cases h
theorem oite3 {α : Type} {c : Bool} {x : Option α} {b : α} (h : (if c then none else x) = some b) : c = false/\x = some b := by
 cases c with
 | true => cases h
 | false => exact ⟨rfl, h⟩
theorem Qat {α : Type} {c : Bool} {x : Option α} {b : α} (h : (if !c then none else x) = some b) : c = true/\x = some b := by
 cases c with
 | true => exact ⟨rfl, h⟩
 | false => cases h
theorem QaV : ∀ (n : Nat) (c : FC) (es : List Expr) (rr : bw), denEs n c es = some rr->∀ Γ st ws st', rr Γ st = .ok ws st'->ws.length = es.length
 | 0, _, _, _, h => by cases h
 | n + 1, c, [], rr, h => by
  cases h
  intro Γ st ws st' e
  cases e; rfl
 | n + 1, c, e :: es, rr, h => by
  unfold denEs at h
  obtain ⟨_, h⟩ := fh h
  obtain ⟨r, hr, h⟩ := ob h
  obtain ⟨r2, hr2, h⟩ := om h
  subst h
  intro Γ st ws st' e
  unfold ae at e
  cases e1 : r Γ st with
  | stuck => rw [e1] at e; cases e
  | ex c s => rw [e1] at e; cases e
  | ok w st1 =>
   rw [e1] at e
   have e' : ((r2 Γ st1).bind fun ws st2 => R.ok (w :: ws) st2) = .ok ws st' := e
   cases e2 : r2 Γ st1 with
   | stuck => rw [e2] at e'; cases e'
   | ex c s => rw [e2] at e'; cases e'
   | ok ws2 st2 =>
    rw [e2] at e'
    cases e'
    rw [Qmg, Qmg, QaV n c es r2 hr2 Γ st1 ws2 _ e2]
theorem XOK.u64 {c : FC} {X : Cx} (h : XOK c X) : X.A.units + 64 < cLine := by have := h.units; omega
structure Sound (n : Nat) : Prop where
 e : ∀ (c : FC) (X : Cx) (e : Expr) (r : Run), XOK c X->bf n c e = some r->PD X e r
 t : ∀ (c : FC) (X : Cx) (e : Expr) (r : Run), XOK c X->denT n c e = some r->PT X e (tDT X r)
 w : ∀ (c : FC) (X : Cx) (op : BoolOp) (es : List Expr) (pos : Pos) (r : Run), XOK c X->denT n c (.BoolOp op es pos) = some r->PW X (.BoolOp op es pos) (tDT X r)
 es : ∀ (c : FC) (X : Cx) (es : List Expr) (r : bw), XOK c X->denEs n c es = some r->PDA X es r
 i : ∀ (c : FC) (X : Cx) (y : Str) (py : Pos) (e : Expr) (r : Src), XOK c X->denI n c e = some r->PDI X (.Name y py) e r
 j : ∀ (c : FC) (X : Cx) (es : List Expr) (rs : List Run), XOK c X->denJ n c es = some rs->Paired (fun e r => PD X e r) es rs
section
variable {c : FC} {X : Cx} {n : Nat}
theorem sd_name {x : Str} {pos : Pos} {r : Run} (xo : XOK c X) (h : QbW c x = some r) : PD X (.Name x pos) r := by
 unfold QbW at h
 by_cases hd : dbg x = true
 ·rw [Qmo hd] at h; cases h
 ·rw [Qmp hd] at h
  have hd' : dbg x = false := by simpa using hd
  have var : ∀ {r : Run}, (slot c.N x).map aa = some r->Vis X.env.scope x->PD X (.Name x pos) r := by
   intro r h hv
   obtain ⟨i, hi, rfl⟩ := om h
   exact pd_var (by rw [xo.N]; exact wy hi) hv (ji hd') (dbg2 hd')
  split at h
  ·rename_i hl
   split at h
   ·rename_i w hw
    cases h
    obtain ⟨u, v, h1, h2, h3⟩ := xo.con x w hw
    exact sh (Qaa (xo.gl hl) h1 h2 (ji hd')) h3
   ·rename_i hw
    obtain ⟨T, hT, rfl⟩ := om h
    exact sh (v := .ty T) (Qfv (xo.gl hl) (xo.blt x hw) (Qks hT) rfl (dbg3 hd') (ji hd')) fun _ _ _ => .ty T
   ·cases h
  ·rename_i hl; exact var h (.inl (by rw [xo.sc]; exact hl))
  ·rename_i hl; exact var h (.inr (.inl (by rw [xo.sc]; exact hl)))
  ·rename_i hl; exact var h (.inr (.inr (by rw [xo.sc]; exact hl)))
  ·cases h
theorem sd_con {v : Const} {k : Nat} {pos : Pos} {r : Run} (h : conD v = some r) : PD X (.Constant v k pos) r := by
 cases v <;> first
  | (cases h; done)
  | (cases h; exact sh pe_int fun _ _ _ => .int _)
  | (cases h; exact sh pe_str fun _ _ _ => .str _)
  | (cases h; exact sh pe_bl fun _ _ _ => .bl _)
  | (cases h; exact sh pe_non fun _ _ _ => .non)
theorem sd_un {op : UnaryOp} {a : Expr} {pos : Pos} {ra r : Run} (ha : PD X a ra) (h : unD op ra = some r) : PD X (.UnaryOp op a pos) r := by
 cases op <;> first
  | (cases h; done)
  | (cases h; exact pd_not ha)
  | (cases h; exact pd_neg ha)
theorem sd_bool {op : BoolOp} {a b : Expr} {rest : List Expr} {pos : Pos} {ra rb : Run} (ha : PD X a ra) (hb : PD X (.BoolOp op (b :: rest) pos) rb) : PD X (.BoolOp op (a :: b :: rest) pos) (Qch op ra rb) := by
 cases op with
 | And => exact pd_and ha hb
 | Or => exact pd_or ha hb
theorem sd_cmp0 {a b : Expr} {op : CmpOp} {pos : Pos} {r : Run} (ih : Sound n) (xo : XOK c X) (h : cmp0 (bf n c) a op b = some r) : PD X (.Compare a [op] [b] pos) r/\PT X (.Compare a [op] [b] pos) (tDT X r) := by
 obtain ⟨hn, h⟩ := fh h
 obtain ⟨ra, ha, h⟩ := ob h
 obtain ⟨rb, hb, h⟩ := ob h
 obtain ⟨o, ho, rfl⟩ := om h
 have k := QbA (X := X) xo.u64 ho
 exact ⟨pd_cmp k (ih.e c X a ra xo ha) (ih.e c X b rb xo hb) (QcQ hn), pdt_cmp k (ih.e c X a ra xo ha) (ih.e c X b rb xo hb) (QcQ hn)⟩
theorem sd_cmp1 {a b : Expr} {op : CmpOp} {pos : Pos} {r : Run} (ih : Sound n) (xo : XOK c X) (h : cmp1 c (bf n c) a op b = some r) : PD X (.Compare a [op] [b] pos) r/\PT X (.Compare a [op] [b] pos) (tDT X r) := by
 unfold cmp1 at h
 split at h
 ·rename_i y p ks ws hdc
  obtain ⟨rfl, hdy, hly, hgy⟩ := Qkw hdc
  obtain ⟨ra, ha, h⟩ := ob h
  obtain ⟨o, ho, rfl⟩ := om h
  have hD := xo.dcon y ks ws hgy
  have pa := ih.e c X a ra xo ha
  have hu' : X.A.units + 64 < cLine := by have := xo.units; omega
  unfold cmpT at ho
  split at ho
  ·cases ho; exact ⟨pd_inT hu' hD (xo.gl hly) (ji hdy) pa, pdt_inT hu' hD (xo.gl hly) (ji hdy) pa⟩
  ·cases ho
 exact sd_cmp0 ih xo h
theorem sd_cmp2 {a b d : Expr} {op op' : CmpOp} {pos : Pos} {r : Run} (ih : Sound n) (xo : XOK c X) (h : cmp2 (bf n c) a op op' b d = some r) : PD X (.Compare a [op, op'] [b, d] pos) r/\PT X (.Compare a [op, op'] [b, d] pos) (tDT X r) := by
 obtain ⟨hn, h⟩ := fh h
 obtain ⟨ra, ha, h⟩ := ob h
 obtain ⟨rb, hb, h⟩ := ob h
 obtain ⟨rd, hd, h⟩ := ob h
 obtain ⟨o, ho, h⟩ := ob h
 obtain ⟨o', ho', rfl⟩ := om h
 have k := QbA (X := X) xo.u64 ho
 have k' := QbA (X := X) xo.u64 ho'
 exact ⟨Qle k k' (ih.e c X a ra xo ha) (ih.e c X b rb xo hb) (ih.e c X d rd xo hd) (Qds hn), QjB k k' (ih.e c X a ra xo ha) (ih.e c X b rb xo hb) (ih.e c X d rd xo hd) (Qds hn)⟩
theorem Qge {a : Expr} {ops : List CmpOp} {bs : List Expr} {pos : Pos} {r : Run} (ih : Sound n) (xo : XOK c X) (h : cmpR c (bf n c) a ops bs = some r) : PD X (.Compare a ops bs pos) r/\PT X (.Compare a ops bs pos) (tDT X r) := by
 rcases cmpR_ok h with ⟨op, b, rfl, rfl, h⟩ | ⟨op, op', b, d, rfl, rfl, h⟩
 ·exact sd_cmp1 ih xo h
 ·exact sd_cmp2 ih xo h
theorem sd_blt0 {x : Str} {e : Expr} {es : List Expr} {p pos : Pos} {r : Run} (ih : Sound n) (xo : XOK c X) (hd : dbg x = false) (hs : (e :: es).all gz = true) (hl : c.sc.names.lookup x = some .globalImplicit) (hw : c.gl.lookup x = some .blt) (h : blt0 c (denEs n c) x (e :: es) pos = some r) : PD X (.Call (.Name x p) (e :: es) [] pos) r := by
 by_cases hcm : c.cm = true
 case neg =>
  have hcm : c.cm = false := by simpa using hcm
  unfold blt0 at h
  rw [hcm] at h
  obtain ⟨hx, h⟩ := fh (show (if x == ("int" : Str) then (denEs n c (e :: es)).map fun rr => runN rr fo else none) = some r from h)
  have hx' := eq_of_beq hx
  subst hx'
  obtain ⟨rr, hr, rfl⟩ := om h
  exact QeB QgA (xo.gl hl) (xo.blt _ hw) (by decide +kernel) (ih.es c X _ rr xo hr) hd hs
 have h : (match bltD (c.isMut pos) x with
  | some (_, op) => (denEs n c (e :: es)).map fun rr => runN rr op
  | none => (match zv (c.isMut pos) x with
   | some (_, op) => (denEs n c (e :: es)).map fun rr => runN rr op
   | none => none)) = some r := by
  unfold blt0 at h
  rw [hcm] at h
  exact h
 split at h
 ·rename_i f op hb
  obtain ⟨rr, hr, rfl⟩ := om h
  obtain ⟨id, rfl, h1, h2⟩ := bltD_ok (X := X) (xo.hnd hcm) (xo.calm hcm) xo.units hb
  exact Qlg h2 (xo.gl hl) (xo.blt x hw) h1 (ih.es c X _ rr xo hr) hd hs
 ·split at h
  ·rename_i T op hb
   obtain ⟨rr, hr, rfl⟩ := om h
   obtain ⟨h1, h2⟩ := Qiw (X := X) (xo.hnd hcm) hb
   exact QeB h2 (xo.gl hl) (xo.blt x hw) h1 (ih.es c X _ rr xo hr) hd hs
  ·cases h
theorem sd_bltG {x : Str} {e : Expr} {es : List Expr} {p pos : Pos} {r : Run} (ih : Sound n) (xo : XOK c X) (hd : dbg x = false) (hs : (e :: es).all gz = true) (hl : c.sc.names.lookup x = some .globalImplicit) (hw : c.gl.lookup x = some .blt) (h : bltG c (bf n c) (denEs n c) x e es pos = some r) : PD X (.Call (.Name x p) (e :: es) [] pos) r := by
 unfold bltG at h
 split at h
 ·rename_i a y p2 tab hix
  obtain ⟨ra, ha, er⟩ := om h
  subst er
  obtain ⟨ex, hes, hdy, hly, own, hgy⟩ := isxD_ok hix
  subst ex
  obtain ⟨e1, e2⟩ := List.cons.inj hes
  subst e2
  have e1 : e = a := e1
  obtain ⟨cv, vc, EO⟩ := xo.exc y own tab hgy
  rw [List.all_cons, Qmj] at hs
  have hy : PE X (.Name y p2) (tC vc) := by
   cases own with
   | true => exact Qaa (xo.gl hly) (EO.glob rfl).1 EO.rel (ji hdy)
   | false => exact Qfv (xo.gl hly) (EO.blt rfl).1 (EO.blt rfl).2 EO.rel (dbg3 hdy) (ji hdy)
  exact pd_isx (xo.gl hl) (xo.blt _ hw) (ih.e c X e ra xo ha) hy EO.rel EO.un (fun x b q => let ⟨C, h1, h2, h3, _⟩ := EO.tab x b q; ⟨C, h1, h2, h3⟩) (ix hs.1) rfl (mk hs.2)
 exact sd_blt0 ih xo hd hs hl hw h
theorem QkF {x : Str} {e : Expr} {es : List Expr} {p pos : Pos} {r : Run} (ih : Sound n) (xo : XOK c X) (h : Qcg c (bf n c) (denEs n c) x e es pos = some r) : PD X (.Call (.Name x p) (e :: es) [] pos) r := by
 unfold Qcg at h
 by_cases hd : dbg x = true
 ·rw [Qmo hd] at h; cases h
 ·rw [Qmp hd] at h
  have hd' : dbg x = false := by simpa using hd
  obtain ⟨hs, h⟩ := fh h
  have hs' := hs
  rw [List.all_cons, Qmj] at hs'
  split at h
  ·rename_i hl
   split at h
   ·rename_i k op hw
    split at h
    ·rename_i hk
     obtain ⟨hcm, h⟩ := fh h
     obtain ⟨rr, hr, rfl⟩ := om h
     obtain ⟨kk, f, fd, ps, F, R, h1, h2, h3, _⟩ := xo.fn hcm x k op hw
     exact pd_call F (R.mono (Nat.le_add_right kk 2)) (xo.gl hl) h1 h2 h3 (ih.es c X _ rr xo hr) (fun Γ st ws st' e => by rw [QaV n c _ rr hr Γ st ws st' e]; exact hk) (ji hd') (ix hs'.1) (mk hs'.2)
    ·cases h
   ·rename_i k b op hw
    split at h
    ·rename_i hk
     obtain ⟨hcm, h⟩ := fh h
     obtain ⟨rr, hr, rfl⟩ := om h
     obtain ⟨kk, f, fd, ps, F, R, h1, h2, h3, _⟩ := xo.fx x k b op hw
     have R := R.mono (Nat.le_add_right kk 2)
     have R : RoomB b kk X.A := ⟨fun hb => xo.hnd (by rw [hb] at hcm; simpa using hcm), R.dp, R.un⟩
     have hl' : ∀ Γ st ws st', rr Γ st = .ok ws st'->ws.length = k := fun Γ st ws st' e => by rw [QaV n c _ rr hr Γ st ws st' e]; exact hk
     cases c.cx with
     | true => exact Qlf F R (xo.gl hl) h1 h2 h3 (ih.es c X _ rr xo hr) hl' (ji hd') (ix hs'.1) (mk hs'.2)
     | false => exact QjG F R (xo.gl hl) h1 h2 h3 (ih.es c X _ rr xo hr) hl' (ji hd') (ix hs'.1) (mk hs'.2)
    ·cases h
   ·rename_i hw; exact sd_bltG ih xo hd' hs hl hw h
   ·cases h
  ·cases h
theorem sd_mthG {o : Expr} {m : Str} {apos pos : Pos} {es : List Expr} {r : Run} (ih : Sound n) (xo : XOK c X) (h : mthG (bf n c) (denEs n c) o m apos es pos = some r) : PD X (.Call (.Attribute o m apos) es [] pos) r := by
 obtain ⟨hk, h⟩ := fh h
 simp only [Qmj, decide_eq_true_eq] at hk
 obtain ⟨⟨⟨h1, h2⟩, h3⟩, h4⟩ := hk
 obtain ⟨⟨T, op⟩, hm, h⟩ := ob h
 obtain ⟨ro, ho, h⟩ := ob h
 obtain ⟨rr, hr, rfl⟩ := om h
 obtain ⟨id, M⟩ := mthD_ok (X := X) xo.u64 hm
 cases es with
 | nil =>
  cases n with
  | zero => cases hr
  | succ n => cases hr; exact pd_mt0 M.hT M.pa M.slot M.hty M.hm (ih.e c X o ro xo ho) h1 h2
 | cons e es =>
  have h3' := h3
  rw [List.all_cons, Qmj] at h3'
  exact pd_mt M.hT M.pa M.slot M.hty M.hm (ih.e c X o ro xo ho) (ih.es c X _ rr xo hr) h1 (QkA h3 h4) h2 (ix h3'.1) (mk h3'.2)
theorem sd_call {f : Expr} {es : List Expr} {ks : List Keyword} {pos : Pos} {r : Run} (ih : Sound n) (xo : XOK c X) (h : callR c (bf n c) (denEs n c) f es ks pos = some r) : PD X (.Call f es ks pos) r := by
 cases f <;> first | (cases h; done) | skip
 ·cases ks with
  | nil => exact sd_mthG ih xo h
  | cons k ks => cases h
 ·cases es with
  | nil => cases h
  | cons e es =>
   cases ks with
   | nil => exact QkF ih xo h
   | cons k ks =>
    cases h
theorem sd_sl {m : Bool} {a : Expr} {lo hi : Option Expr} {p2 pos : Pos} {r : Run} (ih : Sound n) (xo : XOK c X) (h : slG m (bf n c) a lo hi = some r) : PD X (.Subscript a (.Slice lo hi none p2) pos) r := by
 cases lo with
 | none =>
  cases hi with
  | none => obtain ⟨ra, ha, rfl⟩ := om h; exact pd_slNN (ih.e c X a ra xo ha)
  | some u => obtain ⟨ra, ha, h⟩ := ob h; obtain ⟨rl, hl, rfl⟩ := om h; exact pd_slNS (ih.e c X a ra xo ha) (ih.e c X u rl xo hl)
 | some l =>
  cases hi with
  | none => obtain ⟨ra, ha, h⟩ := ob h; obtain ⟨rl, hl, rfl⟩ := om h; exact pd_slSN (ih.e c X a ra xo ha) (ih.e c X l rl xo hl)
  | some u => obtain ⟨ra, ha, h⟩ := ob h; obtain ⟨rl, hl, h⟩ := ob h; obtain ⟨rh, hr, rfl⟩ := om h; exact pd_slSS (ih.e c X a ra xo ha) (ih.e c X l rl xo hl) (ih.e c X u rh xo hr)
theorem sd_ix {a b : Expr} {pos : Pos} {r : Run} (ih : Sound n) (xo : XOK c X) (hp : mm b = true) (h : ixG c (bf n c) a b = some r) : PD X (.Subscript a b pos) r := by
 unfold ixG at h
 obtain ⟨ra, ha, h3⟩ := ob h
 obtain ⟨rb, hb, rfl⟩ := om h3
 exact pd_ixX (by have := xo.units; omega) (ih.e c X a ra xo ha) (ih.e c X b rb xo hb) (QhL hp) (pd_ix0 (ih.e c X a ra xo ha) (ih.e c X b rb xo hb) (QiF hp))
theorem sd_sub {a i : Expr} {pos : Pos} {r : Run} (ih : Sound n) (xo : XOK c X) (h : subG c (bf n c) a i pos = some r) : PD X (.Subscript a i pos) r := by
 by_cases hp : mm i = true
 ·have h' : (if mm i then ixG c (bf n c) a i else none) = some r := by
   rw [<-h]
   cases i <;> first | rfl | exact absurd (show false = true from hp) QlQ
  exact sd_ix ih xo hp (fh h').2
 ·cases i <;> first | exact absurd rfl hp | skip
  rename_i lo hi st p2
  cases st with
  | none => exact sd_sl ih xo h
  | some st => cases h
theorem Qgd {ifs : List Expr} {rt : Run} {X' : Cx} (hK : X'.K = X.K) (h : ifsD (denT n c) ifs = some rt) (k : ∀ t r, denT n c t = some r->PT X' t (tDT X' r)) : PTs X' ifs (tT0 X.K rt) := by
 cases ifs with
 | nil =>
  cases h
  intro QlP s' σ H' Q I q
  refine pts_nil QlP s' σ H' Q I ?_
  obtain ⟨ι, G, st, Γ, en, sr, q⟩ := q
  obtain ⟨b, e, q'⟩ := q (.bl true) ι G H' (Ext.refl _ _ _) sr (.bl true)
  cases e; exact q'
 | cons t ts =>
  cases ts with
  | nil => rw [<-hK]; exact pts_one (PT.calm (k t rt h))
  | cons _ _ => cases h
theorem QkE {elt iter : Expr} {x : Str} {px : Pos} {ifs : List Expr} {scope : Scope} {pos : Pos} {r : Run} (ih : Sound n) (xo : XOK c X) (h : compG c (denI n c) (denT n) (bf n) elt x iter ifs scope pos = some r) :
  PD X (.ListComp elt [⟨.Name x px, iter, ifs, 0⟩] scope pos) r/\(∀ {i : Nat} {y : Str} {py spos : Pos}, X.N.Nodup->X.N[i]? = some y->X.env.scope.names.lookup y = some .local->swapsWith (.ListComp elt [⟨.Name x px, iter, ifs, 0⟩] scope pos) (some (.Name y py)) spos.line X.env = pure true ->
   PS X (.Assign [.Name y py] (.ListComp elt [⟨.Name x px, iter, ifs, 0⟩] scope pos) spos) (qa (tD X r) (jm i))) := by
 obtain ⟨hcm, h⟩ := Qat h
 obtain ⟨hk, h⟩ := fh h
 rw [Qmj] at hk
 obtain ⟨src, hsrc, h⟩ := ob h
 obtain ⟨cap, hcap, h⟩ := ob h
 obtain ⟨rt, hrt, h⟩ := ob h
 obtain ⟨re, hre, rfl⟩ := om h
 exact pd_comp (xo.calm hcm) (ih.i c X x px iter src xo hsrc) (Qbz xo hk.2 hcap) (fun C s H ex => Qgd (X := X) rfl hrt fun t r ht => ih.t _ _ t r (QeT xo hk.2 hcap C s H ex) ht) (fun C s H ex => PD.calm (ih.e _ _ elt re (QeT xo hk.2 hcap C s H ex) hre)) (zg hk.1)
theorem Qfm {elt : Expr} {gens : List Comprehension} {scope : Scope} {pos : Pos} {r : Run} (ih : Sound n) (xo : XOK c X) (h : Qaw c (denI n c) (denT n) (bf n) (denEs n c) elt gens scope pos = some r) :
  PD X (.ListComp elt gens scope pos) r/\(oddC c (.ListComp elt gens scope pos) = false->∀ {i : Nat} {y : Str} {py spos : Pos}, X.N.Nodup->X.N[i]? = some y->X.env.scope.names.lookup y = some .local->swapsWith (.ListComp elt gens scope pos) (some (.Name y py)) spos.line X.env = pure true ->
   PS X (.Assign [.Name y py] (.ListComp elt gens scope pos) spos) (qa (tD X r) (jm i))) := by
 have h0 := QlH h
 clear h
 rcases h0 with ⟨x, px, iter, ifs, rfl, h⟩ | ⟨es, tk, tp, iter, ifs, rfl, hA⟩
 rotate_left
 ·have hcm := (Qat hA).1
  have hB := (Qat hA).2
  obtain ⟨⟨x, p, y, q⟩, he, hC⟩ := ob hB
  have hk := (fh hC).1
  have hD := (fh hC).2
  obtain ⟨cap, hcap, hE⟩ := ob hD
  have he := Qbh he
  subst he
  refine ⟨?_, fun z => nomatch z⟩
  ·have hE := hE
   have hs := (fh hE).1
   have hG := (fh hE).2
   obtain ⟨r1, hr, hH⟩ := ob hG
   obtain ⟨rt, hrt, hI⟩ := ob hH
   obtain ⟨re, hre, hJ⟩ := om hI
   subst hJ
   exact Qld (xo.calm hcm) (ih.e c X iter r1 xo hr) (QeU xo hk hcap) (fun C s H ex => Qgd (X := X) rfl hrt fun t r ht => ih.t _ _ t r (Qeb xo hk hcap C s H ex) ht) (fun C s H ex => PD.calm (ih.e _ _ elt re (Qeb xo hk hcap C s H ex) hre)) (zg hs)
 unfold Qcf at h
 obtain ⟨g1, g2⟩ := QkE (px := px) ih xo h
 exact ⟨g1, fun _ => g2⟩
theorem sd_rng {es : List Expr} {y : Str} {py p pos : Pos} {r : Src} (ih : Sound n) (xo : XOK c X) (h : yk c (bf n c) (denEs n c) "range" es = some r) : PDI X (.Name y py) (.Call (.Name "range" p) es [] pos) r := by
 unfold yk at h
 split at h
 ·rename_i hl hw
  cases es with
  | nil => cases h
  | cons a es =>
   cases es with
   | nil =>
    obtain ⟨hs, h⟩ := fh h
    obtain ⟨ra, ha, rfl⟩ := om h
    exact QiJ (xo.gl hl) (xo.blt _ hw) (ih.e c X a ra xo ha) (ix hs)
   | cons b es =>
    cases es with
    | nil =>
     obtain ⟨hs, h⟩ := fh h
     rw [Qmj] at hs
     obtain ⟨ra, ha, h⟩ := ob h
     obtain ⟨rb, hb, rfl⟩ := om h
     have s2 : starEach [b] X.env = [(false, eval b X.env)] := ix hs.2
     exact QiI (xo.gl hl) (xo.blt _ hw) (ih.e c X a ra xo ha) (ih.e c X b rb xo hb) (by rw [ix hs.1, s2]) s2
    | cons d es =>
     cases h
 ·cases h
theorem sd_E {e : Expr} {r : Run} (ih : Sound n) (xo : XOK c X) (h : bf (n + 1) c e = some r) : PD X e r := by
 unfold bf at h
 refine zq h QkZ ?_
 clear h
 intro h
 cases e with
 | Name x pos => exact sd_name xo h
 | Constant v k pos => exact sd_con h
 | BinOp a op b pos =>
  obtain ⟨ra, ha, h⟩ := ob h
  obtain ⟨rb, hb, h⟩ := ob h
  obtain ⟨o, ho, rfl⟩ := om h
  exact pd_op (binD_ok ho) (ih.e c X a ra xo ha) (ih.e c X b rb xo hb)
 | UnaryOp op a pos => obtain ⟨ra, ha, h⟩ := ob h; exact sd_un (ih.e c X a ra xo ha) h
 | BoolOp op es pos =>
  cases es with
  | nil => cases h
  | cons a es =>
   cases es with
   | nil => exact pd_one (ih.e c X a r xo h)
   | cons b rest => obtain ⟨ra, ha, h⟩ := ob h; obtain ⟨rb, hb, rfl⟩ := om h; exact sd_bool (ih.e c X a ra xo ha) (ih.e c X _ rb xo hb)
 | Compare a ops bs pos => exact (Qge ih xo h).1
 | IfExp t a b pos =>
  obtain ⟨rt, ht, h⟩ := ob h
  obtain ⟨ra, ha, h⟩ := ob h
  obtain ⟨rb, hb, rfl⟩ := om h
  exact pd_if (ih.t c X t rt xo ht) (ih.e c X a ra xo ha) (ih.e c X b rb xo hb)
 | Tuple es k pos => obtain ⟨rr, hr, rfl⟩ := om h; exact pd_tup (ih.es c X es rr xo hr)
 | List es pos =>
  obtain ⟨rr, hr, rfl⟩ := om h
  cases c.isMut pos with
  | true => exact pd_newL (ih.es c X es rr xo hr)
  | false => exact pd_lst (ih.es c X es rr xo hr)
 | Call f es ks pos => exact sd_call ih xo h
 | Subscript a i pos => exact sd_sub ih xo h
 | ListComp elt gens scope pos => exact (Qfm ih xo h).1
 | Dict ks vs pos =>
  cases ks with
  | cons o ks =>
   cases o with
   | none => cases h
   | some k =>
    cases ks with
    | cons _ _ => cases h
    | nil =>
     cases vs with
     | nil => cases h
     | cons v vs =>
      cases vs with
      | cons _ _ => cases h
      | nil =>
       obtain ⟨rk, hk, h⟩ := ob h
       obtain ⟨rv, hv, rfl⟩ := om h
       exact Qla (ih.e c X k rk xo hk) (ih.e c X v rv xo hv)
  | nil =>
   cases vs with
   | cons _ _ => cases h
   | nil =>
    cases h
    cases c.isMut pos with
    | true => exact Qlb
    | false => exact Qlc
 | _ => cases h
theorem sd_W {op : BoolOp} {es : List Expr} {pos : Pos} {r : Run} (ih : Sound n) (xo : XOK c X) (h : denT (n + 1) c (.BoolOp op es pos) = some r) : PW X (.BoolOp op es pos) (tDT X r) := by
 unfold denT at h
 cases es with
 | nil => cases h
 | cons a es =>
  cases es with
  | nil => exact pwt_one (ih.t c X a r xo h)
  | cons b rest =>
   obtain ⟨ra, ha, h⟩ := ob h
   obtain ⟨rb, hb, rfl⟩ := om h
   cases op with
   | And => exact pwt_and (ih.t c X a ra xo ha) (ih.w c X .And (b :: rest) pos rb xo hb)
   | Or => exact pwt_or (ih.t c X a ra xo ha) (ih.w c X .Or (b :: rest) pos rb xo hb)
theorem sd_T {e : Expr} {r : Run} (ih : Sound n) (xo : XOK c X) (h : denT (n + 1) c e = some r) : PT X e (tDT X r) := by
 have pl : QbI e = true->bf n c e = some r->PT X e (tDT X r) := fun hp h => pdt_val (ih.e c X e r xo h) (Qjw hp)
 cases e with
 | BoolOp op es pos => exact (sd_W ih xo h).pt
 | UnaryOp op a pos =>
  unfold denT at h
  cases op with
  | Not => obtain ⟨ra, ha, rfl⟩ := om h; exact pdt_not (ih.t c X a ra xo ha)
  | _ => exact pl rfl h
 | Compare a ops bs pos => unfold denT at h; exact zq (P := fun r => PT X (.Compare a ops bs pos) (tDT X r)) h QjA fun h => (Qge ih xo h).2
 | _ => unfold denT at h; obtain ⟨hp, h⟩ := fh h; exact pl hp h
theorem sd_I {y : Str} {py : Pos} {e : Expr} {r : Src} (ih : Sound n) (xo : XOK c X) (h : denI (n + 1) c e = some r) : PDI X (.Name y py) e r := by
 have val : ∀ {r : Src}, (bf n c e).map bv = some r->PDI X (.Name y py) e r := fun {r} h => by
  obtain ⟨ra, ha, rfl⟩ := om h
  exact pdi_val (ih.e c X e ra xo ha)
 unfold denI at h
 cases e with
 | Call f es ks pos =>
  cases f with
  | Name x p =>
   cases ks with
   | nil =>
    by_cases hx : (x == ("range" : Str)) = true
    ·have h : (if x == ("range" : Str) then yk c (bf n c) (denEs n c) x es else (bf n c (.Call (.Name x p) es [] pos)).map bv) = some r := h
     rw [Qmo hx] at h
     have hx' := eq_of_beq hx
     subst hx'
     exact sd_rng ih xo h
    ·have h : (if x == ("range" : Str) then yk c (bf n c) (denEs n c) x es else (bf n c (.Call (.Name x p) es [] pos)).map bv) = some r := h
     rw [Qmp hx] at h
     exact val h
   | cons k ks => exact val h
  | _ => exact val h
 | _ => exact val h
end
theorem jk : ∀ n, Sound n
 | 0 => ⟨fun _ _ _ _ _ h => by (unfold bf at h; cases h), fun _ _ _ _ _ h => by (unfold denT at h; cases h), fun _ _ _ _ _ _ _ h => by (unfold denT at h; cases h), fun _ _ _ _ _ h => by (unfold denEs at h; cases h), fun _ _ _ _ _ _ _ h => by (unfold denI at h; cases h), fun _ _ _ _ _ h => by (unfold denJ at h; cases h)⟩
 | n + 1 => by
  have ih := jk n
  refine ⟨fun _ _ _ _ xo h => sd_E ih xo h, fun _ _ _ _ xo h => sd_T ih xo h, fun _ _ _ _ _ _ xo h => sd_W ih xo h, fun c X es r xo h => ?_, fun _ _ _ _ _ _ xo h => sd_I ih xo h, fun c X es rs xo h => ?_⟩
  ·unfold denEs at h
   cases es with
   | nil => cases h; exact Qbm
   | cons e es =>
    obtain ⟨hs, h⟩ := fh h
    obtain ⟨ra, ha, h⟩ := ob h
    obtain ⟨rr, hr, rfl⟩ := om h
    exact zo (ih.e c X e ra xo ha) (ih.es c X es rr xo hr) (ix hs)
  ·unfold denJ at h
   cases es with
   | nil => cases h; exact .nil
   | cons e es =>
    obtain ⟨ra, ha, h⟩ := ob h
    obtain ⟨rr, hr, rfl⟩ := om h
    exact .cons (ih.e c X e ra xo ha) (ih.j c X es rr xo hr)
def pf : Expr->Bool
 | .ListComp _ _ _ _ => true
 | .SetComp _ _ _ _ => true
 | .DictComp _ _ _ _ _ => true
 | _ => false
theorem QaG {e : Expr} {t : Option Expr} {l : Nat} {env : Env} (h : pf e = false) : swapsWith e t l env = pure false := by
 cases e <;> first | rfl | exact absurd (show true = false from h) (by decide)
def QbZ : Expr->Bool
 | .Tuple _ _ _ => true
 | _ => false
def lx (c : FC) (x : Str) : Option Nat := match c.sc.names.lookup x with
 | some .local => slot c.N x
 | some .cell => slot c.N x
 | _ => none
theorem Qfy {c : FC} {x : Str} {i : Nat} (h : lx c x = some i) : (c.sc.names.lookup x = some .local\/c.sc.names.lookup x = some .cell)/\slot c.N x = some i := by
 unfold lx at h
 split at h
 ·rename_i e; exact ⟨.inl e, h⟩
 ·rename_i e; exact ⟨.inr e, h⟩
 ·cases h
def asgD (c : FC) (E : Expr->Option Run) (e : Expr) : List Expr->Option av
 | [] => none
 | t :: ts => (match ts with
  | _ :: _ => none
  | [] => (match t with
   | .Name x _ => if oddC c e then none else (lx c x).bind fun i => (E e).map fun r => be i r
   | .Subscript o i _ => if pf e || QbZ e || !mm i then none else (E o).bind fun ro => (E i).bind fun ri => (E e).map fun rv => ju ro ri rv
   | _ => none))
def zipD (c : FC) : Expr->Option (Expr × Expr × Pos × Pos)
 | .Call (.Name x p) [a, b] [] cp => if x == ("zip" : Str) && gz a && gz b then (match c.sc.names.lookup x, c.gl.lookup x with
  | some .globalImplicit, some .blt => some (a, b, p, cp)
  | _, _ => none) else none
 | _ => none
theorem zipD_ok {c : FC} {e a b : Expr} {p cp : Pos} (h : zipD c e = some (a, b, p, cp)) : e = .Call (.Name "zip" p) [a, b] [] cp/\gz a = true/\gz b = true/\c.sc.names.lookup ("zip" : Str) = some .globalImplicit/\c.gl.lookup ("zip" : Str) = some .blt := by
 unfold zipD at h
 split at h
 ·obtain ⟨hk, h⟩ := fh h
  simp only [Qmj] at hk
  obtain ⟨⟨hx, ha⟩, hb⟩ := hk
  have hx' := eq_of_beq hx
  subst hx'
  split at h
  ·rename_i h1 h2
   cases h
   exact ⟨rfl, ha, hb, h1, h2⟩
  ·cases h
 ·cases h
def forD (c : FC) (I : Expr->Option Src) (E : Expr->Option Run) (Es : List Expr->Option bw) (rb : av) (tg iter : Expr) : Option av := match tg with
 | .Name x _ => if mx iter then (lx c x).bind fun i => (I iter).map fun src => lg i src rb else none
 | .Tuple es _ _ => (match zipD c iter with
  | some (a, b, _, _) => (yj es).bind fun (x, _, y, _) => (lx c x).bind fun i => (lx c y).bind fun j => (Es [a, b]).map fun rr => nt i j rr rb
  | none => if mx iter then (yj es).bind fun (x, _, y, _) => (lx c x).bind fun i => (lx c y).bind fun j => (E iter).map fun r => nu i j r rb else none)
 | _ => none
mutual
noncomputable def denS : Nat->FC->Stmt->Option av
 | 0, _, _ => none
 | n + 1, c, s => orS Qgf <| match s with
  | .Return v _ => (match v with
   | none => some sRetN
   | some e => (bf n c e).map ba)
  | .Pass _ => some ao
  | .Break _ => some sBrk
  | .Continue _ => some sCnt
  | .Assign ts e _ => asgD c (bf n c) e ts
  | .If t a b _ => (denT n c t).bind fun rt => (denSs n c a).bind fun ra => (denSs n c b).map fun rb => sIf rt ra rb
  | .For tg iter body orelse _ => (match orelse with
   | [] => if !c.cm then none else (denSs n c body).bind fun rb => forD c (denI n c) (bf n c) (denEs n c) rb tg iter
   | _ :: _ => none)
  | .Expr e _ => if pf e then none else (bf n c e).map kt
  | .Raise (some (.Call (.Name y _) (e :: es) [] _)) none _ => if c.cm && c.cx && !dbg y && (e :: es).all gz then (match c.sc.names.lookup y, c.gl.lookup y with
   | some .globalImplicit, some (.exc true _) => (denEs n c (e :: es)).map fun rr => sd y rr
   | _, _ => none) else none
  | .Try body [.ExceptHandler (some (.Name y _)) (some m) (s :: ss) _] [] [] _ => if c.cm && c.cx && !dbg y then (match c.sc.names.lookup y, c.gl.lookup y, c.sc.names.lookup m with
   | some .globalImplicit, some (.exc true tab), some .local => (slot c.N m).bind fun i => (denSs n c body).bind fun rb => (denSs n { c with cm := false, cx := false } (s :: ss)).map fun rs => oh c.N.length i tab rb rs
   | _, _, _ => none) else none
  | _ => none
noncomputable def denSs : Nat->FC->List Stmt->Option av
 | 0, _, _ => none
 | n + 1, c, ss => match ss with
  | [] => some ao
  | s :: ss => (denS n c s).bind fun a => (denSs n c ss).map fun b => am a b
end
structure XS (c : FC) (X : Cx) : Prop extends XOK c X where
 fnx : ∀ x, X.fn x = true
 own' : PassesOwn (model X.prog X.w) X.A X.env X.xe
structure SoundS (n : Nat) : Prop where
 s : ∀ (c : FC) (X : Cx) (s : Stmt) (r : av), XS c X->denS n c s = some r->PDS X s r
 ss : ∀ (c : FC) (X : Cx) (s : List Stmt) (r : av), XS c X->denSs n c s = some r->jp X s r
theorem xu {c : FC} {X : Cx} {x : Str} {i : Nat} {p : Pos} (xo : XS c X) (h : lx c x = some i) : PG X (.Name x p) (jm i) := by
 obtain ⟨hl, hi⟩ := Qfy h
 exact zz (by rw [xo.N]; exact xo.nd) (by rw [xo.N]; exact wy hi) (by show X.env.scope.names.lookup x = _\/_; rw [xo.sc]; exact hl) (.inl (xo.fnx x))
theorem Qjm {n : Nat} {c : FC} {X : Cx} {x : Str} {i : Nat} {e : Expr} {r : Run} {p pos : Pos} (xo : XS c X) (hl : lx c x = some i) (hodd : oddC c e = false) (he : bf n c e = some r) : PDS X (.Assign [.Name x p] e pos) (be i r) := by
 obtain ⟨hl, hi⟩ := Qfy hl
 have hN : X.N.Nodup := by rw [xo.N]; exact xo.nd
 have hx : X.N[i]? = some x := by rw [xo.N]; exact wy hi
 have hL : Loc X.env.scope x := by show X.env.scope.names.lookup x = _\/_; rw [xo.sc]; exact hl
 have hp := (jk n).e c X e r xo.toXOK he
 have plain : swapsWith e (some (.Name x p)) pos.line X.env = pure false->PDS X (.Assign [.Name x p] e pos) (be i r) := fun h => pds_set hN hx hL hp h (.inl (xo.fnx x))
 cases e with
 | ListComp elt gens scope cpos =>
  cases hb : X.env.blockKind == .function && X.env.kindOf x == some .local && p.line == cpos.line && !(scope.names.any fun (n, k) => n == x && (k == .local || k == .cell)) with
  | false => exact plain (congrArg pure hb)
  | true =>
   have hloc : X.env.scope.names.lookup x = some .local := by
    simp only [Qmj] at hb
    exact eq_of_beq hb.1.1.2
   cases n with
   | zero => unfold bf at he; cases he
   | succ n => unfold bf at he; exact zq (P := fun r => PDS X _ (be i r)) he QaJ fun he => PS.imp ((Qfm (jk n) xo.toXOK he).2 hodd hN hx hloc (congrArg pure hb)) fun D σ H h => QfW h
 | SetComp _ _ _ _ => cases n <;> (unfold bf at he; cases he); exact QaJ
 | DictComp _ _ _ _ _ => cases n <;> (unfold bf at he; cases he); exact QaJ
 | _ => exact plain rfl
theorem ss_asg {n : Nat} {c : FC} {X : Cx} {e : Expr} {ts : List Expr} {r : av} {pos : Pos} (xo : XS c X) (h : asgD c (bf n c) e ts = some r) : PDS X (.Assign ts e pos) r := by
 cases ts with
 | nil => cases h
 | cons t ts =>
  cases ts with
  | cons _ _ => cases h
  | nil =>
   cases t <;> first | (cases h; done) | skip
   ·rename_i o i p
    have h : (if pf e || QbZ e || !mm i then none else (bf n c o).bind fun ro => (bf n c i).bind fun ri => (bf n c e).map fun rv => ju ro ri rv) = some r := h
    cases hc1 : pf e with
    | true => rw [hc1] at h; cases h
    | false =>
     cases hc2 : QbZ e with
     | true => rw [hc1, hc2] at h; cases h
     | false =>
      cases hc3 : mm i with
      | false => rw [hc1, hc2, hc3] at h; cases h
      | true =>
       rw [hc1, hc2, hc3] at h
       obtain ⟨ro, ho, h⟩ := ob h
       obtain ⟨ri, hi, h⟩ := ob h
       obtain ⟨rv, hv, rfl⟩ := om h
       have po := (jk n).e c X o ro xo.toXOK ho
       have pi := (jk n).e c X i ri xo.toXOK hi
       refine QjE (by have := xo.units; omega) po pi ((jk n).e c X e rv xo.toXOK hv) (fun hs => pg_sub po pi hs (by intro v; cases i <;> first | rfl | exact absurd (show false = true from hc3) QlQ)) (show swapsWith e (some (.Subscript o i p)) pos.line X.env = pure false from QaG hc1) ?_ (QaG hc1)
       cases e <;> first | rfl | exact absurd (show true = false from hc2) (by decide)
   ·obtain ⟨ho, h⟩ := oite3 h
    obtain ⟨i, hi, h⟩ := ob h
    obtain ⟨ra, ha, rfl⟩ := om h
    exact Qjm xo hi ho ha
theorem ss_for {n : Nat} {c : FC} {X : Cx} {tg iter : Expr} {body : List Stmt} {rb r : av} {pos : Pos} (ih : SoundS n) (xo : XS c X) (hcm : c.cm = true) (hb : denSs n c body = some rb) (h : forD c (denI n c) (bf n c) (denEs n c) rb tg iter = some r) : PDS X (.For tg iter body [] pos) r := by
 cases tg <;> first | (cases h; done) | skip
 ·rename_i x p
  obtain ⟨hs, h⟩ := fh h
  obtain ⟨i, hi, h⟩ := ob h
  obtain ⟨src, hsrc, rfl⟩ := om h
  exact pds_for xo.own' (xo.calm hcm) ((jk n).i c X x p iter src xo.toXOK hsrc) (xu xo hi) (ih.ss c X body rb xo hb) (zg hs)
 ·unfold forD at h
  dsimp only at h
  split at h
  ·rename_i a b zp cp hz
   obtain ⟨⟨x, p, y, q⟩, he, h⟩ := ob h
   obtain ⟨i, hi, h⟩ := ob h
   obtain ⟨j, hj, h⟩ := ob h
   obtain ⟨rr, hr, rfl⟩ := om h
   have he := Qbh he
   obtain ⟨hz, ha, hb', hl, hw⟩ := zipD_ok hz
   subst he hz
   have s2 : starEach [b] X.env = [(false, eval b X.env)] := ix hb'
   exact QkW xo.own' (xo.calm hcm) (xo.gl hl) (xo.blt _ hw) ((jk n).es c X _ rr xo.toXOK hr) (by rw [ix ha, s2]) s2 (xu xo hi) (xu xo hj) (ih.ss c X body rb xo hb)
  ·obtain ⟨hs, h⟩ := fh h
   obtain ⟨⟨x, p, y, q⟩, he, h⟩ := ob h
   obtain ⟨i, hi, h⟩ := ob h
   obtain ⟨j, hj, h⟩ := ob h
   obtain ⟨ri, hr, rfl⟩ := om h
   have he := Qbh he
   subst he
   exact QkX xo.own' (xo.calm hcm) ((jk n).e c X iter ri xo.toXOK hr) (xu xo hi) (xu xo hj) (ih.ss c X body rb xo hb) (zg hs)
theorem QbG : ∀ n, SoundS n
 | 0 => ⟨fun _ _ _ _ _ h => by (unfold denS at h; cases h), fun _ _ _ _ _ h => by (unfold denSs at h; cases h)⟩
 | n + 1 => by
  have ih := QbG n
  refine ⟨fun c X s r xo h => ?_, fun c X ss r xo h => ?_⟩
  ·unfold denS at h
   refine zq h QjD ?_
   clear h
   intro h
   cases s with
   | Return v pos =>
    cases v with
    | none => cases h; exact QkU
    | some e => obtain ⟨ra, ha, rfl⟩ := om h; exact pds_ret ((jk n).e c X e ra xo.toXOK ha)
   | Pass _ => cases h; exact QkV
   | Break _ => cases h; exact pds_brk
   | Continue _ => cases h; exact pds_cnt
   | Assign ts e pos => exact ss_asg xo h
   | If t a b pos =>
    obtain ⟨rt, ht, h⟩ := ob h
    obtain ⟨ra, ha, h⟩ := ob h
    obtain ⟨rb, hb, rfl⟩ := om h
    exact pds_if ((jk n).t c X t rt xo.toXOK ht) (ih.ss c X a ra xo ha) (ih.ss c X b rb xo hb)
   | For tg iter body orelse pos =>
    cases orelse with
    | cons _ _ => cases h
    | nil =>
     obtain ⟨hcm, h⟩ := Qat h
     obtain ⟨rb, hb, h⟩ := ob h
     exact ss_for ih xo hcm hb h
   | Expr e pos =>
    have h : (if pf e then none else (bf n c e).map kt) = some r := h
    cases hc : pf e with
    | true => rw [hc] at h; cases h
    | false =>
     rw [hc] at h
     obtain ⟨ra, ha, rfl⟩ := om h
     exact QkY ((jk n).e c X e ra xo.toXOK ha) (QaG hc)
   | Raise e1 e2 pos =>
    split at h <;> rename_i heq <;> first | (cases heq; done) | skip
    all_goals first | (cases h; done) | skip
    cases heq
    obtain ⟨hk, h⟩ := fh h
    simp only [Qmj, Bool.not_eq_true'] at hk
    obtain ⟨⟨⟨hcm, hcx⟩, hd⟩, hs⟩ := hk
    split at h
    ·rename_i tab hl hg
     obtain ⟨rr, hr, rfl⟩ := om h
     obtain ⟨cv, vc, EO⟩ := xo.exc _ true tab hg
     obtain ⟨_, C, _, c1⟩ := EO.glob rfl
     rw [List.all_cons, Qmj] at hs
     exact QjF (xo.calm hcm) c1 (xo.gl hl) ((jk n).es c X _ rr xo.toXOK hr) (ji hd) (ix hs.1) (mk hs.2)
    ·cases h
   | Try body hs o f pos =>
    split at h <;> rename_i heq <;> first | (cases heq; done) | skip
    all_goals first | (cases h; done) | skip
    cases heq
    obtain ⟨hk, h⟩ := fh h
    simp only [Qmj, Bool.not_eq_true'] at hk
    obtain ⟨⟨hcm, hcx⟩, hd⟩ := hk
    split at h
    ·rename_i tab hl hg hm
     obtain ⟨i, hi, h⟩ := ob h
     obtain ⟨rb, hb, h⟩ := ob h
     obtain ⟨rs, hrs, rfl⟩ := om h
     obtain ⟨cv, vc, EO⟩ := xo.exc _ true tab hg
     have O := xo.own hcx
     have hN : X.N.length = c.N.length := by rw [xo.N]
     rw [<-hN]
     refine pds_try O (by rw [xo.N]; exact xo.nd) (by rw [xo.N]; exact wy hi) (by rw [xo.sc]; exact hm) (xo.gl hl) (EO.glob rfl).1 (fun x b q => let ⟨C, h1, _, _, h4⟩ := EO.tab x b q; ⟨C, h1, h4⟩) (fun pn Φ => ih.ss c _ body rb ?_ hb) (fun ea => ih.ss _ _ _ rs ?_ hrs) (ji hd)
     ·exact ⟨⟨xo.N, xo.nd, xo.sc, xo.calm, xo.hnd, xo.units, xo.cells, xo.con, xo.fn, xo.blt, xo.fx, xo.exc, (fun _ => ⟨O.stk, O.fr, O.ex⟩), xo.dcon⟩, xo.fnx, QcO (X := X.pin pn) ⟨O.stk, O.fr, O.ex⟩⟩
     ·exact ⟨⟨xo.N, xo.nd, xo.sc, (fun z => Bool.noConfusion z), (fun z => Bool.noConfusion z), xo.units, xo.cells, xo.con, (fun z => Bool.noConfusion z), xo.blt, fun x n b op q => (let ⟨k, f, fd, ps, F, R, r⟩ := xo.fx x n b op q; ⟨k, f, fd, ps, F, R.mark _, r⟩), xo.exc, (fun z => Bool.noConfusion z), xo.dcon⟩, xo.fnx, PassesOwn.never⟩
    ·cases h
   | _ => cases h
  ·unfold denSs at h
   cases ss with
   | nil => cases h; exact QkT
   | cons s ss =>
    obtain ⟨ra, ha, h⟩ := ob h
    obtain ⟨rb, hb, rfl⟩ := om h
    exact QjC (ih.s c X s ra xo ha) (ih.ss c X ss rb xo hb)
def cr (N ps : List Str) (sc : Scope) : Bool :=
 (sc.kind == .function) && !sc.isCoroutine && !sc.isGenerator && decide N.Nodup && decide (N.take ps.length = ps) && ps.all (fun x => sc.names.lookup x == some .local || sc.names.lookup x == some .cell) && sc.names.all (fun y => y.2 != .free)
theorem Qdq {N ps : List Str} {sc : Scope} (h : cr N ps sc = true) : FnScope N ps sc := by
 unfold cr at h
 simp only [Qmj, Qmv, decide_eq_true_eq, beq_iff_eq, Bool.not_eq_true', Bool.or_eq_true] at h
 obtain ⟨⟨⟨⟨⟨⟨h1, h2⟩, h3⟩, h4⟩, h5⟩, h6⟩, h7⟩ := h
 exact ⟨h1, h2, h3, h4, h5, fun x hx => h6 x hx, fun y hy e => by have := h7 y hy; rw [e] at this; cases this⟩
structure TX (P : Program) (w : World) (K : PySem.W.Frag) (mg : Str->Option Value) (base : Heap) (gl : List (Str × GV)) (k : Nat) : Prop where
 con : ∀ x w', gl.lookup x = some (.con w')->∃ u v, mg x = some u/\aq v u/\∀ ι N G, RelW K ι N G v w'
 fn : ∀ x n op, gl.lookup x = some (.fn n op)->∃ f fd ps, FnOk P w K mg base CX0 k f fd ps (SpD K n op)/\mg x = some (.ref f)/\PySem.W.keepIn K (.ref f) = true/\fv K fd ps []/\ps.length = n
 blt : ∀ x, gl.lookup x = some .blt->mg x = none
 fx : ∀ x n b op, gl.lookup x = some (.fx n b op)->∃ f fd ps, FnX b P w K mg base k f fd ps (SpX K n op)/\mg x = some (.ref f)/\PySem.W.keepIn K (.ref f) = true/\fv K fd ps []/\ps.length = n
 exc : ∀ y own tab, gl.lookup y = some (.exc own tab)->∃ cv vc, ExcOk K mg y own tab cv vc
 dcon : ∀ x ks ws, gl.lookup x = some (.dcon ks ws)->KDs P w K mg x ks ws
theorem def_ok {P : Program} {w : World} {K : PySem.W.Frag} {mg : Str->Option Value} {base : Heap} {gl : List (Str × GV)} {k n : Nat} {x qual : Str} {st : Stmt} {f : Addr} {fd : FuncData} {N ps : List Str} {mts : List (Nat × Nat)} {fz : Nat} {run : av} (T : TX P w K mg base gl k) (F : Fun K x qual st f fd) (hs : cr N ps (aw st) = true)
  (hd : denSs n ⟨N, aw st, gl, mts, true, false⟩ (bt st) = some run) : FnOk P w K mg base CX0 (k + 3) f fd ps (SpD K ps.length (di ps.length N.length fz run)) := by
 have Sc := Qdq hs
 refine fn_body (k := k + 2) F Sc fun cdv A outer s H E hr => (QbG n).ss ⟨N, aw st, gl, mts, true, false⟩ _ _ run ⟨⟨rfl, Sc.nd, rfl, fun _ => rfl, fun _ => hr.hd, (by have h := hr.un; show (A.deeper (envOfC qual (aw st) s.heap.objs.size f cdv)).units + 80 < cLine; omega), fun y hy => ?_, T.con, fun _ x n op h => ?_, T.blt, fun x n b op h => ?_, T.exc, (fun z => Bool.noConfusion z), T.dcon⟩, fun _ => rfl, PassesOwn.never⟩ hd
 ·rcases hy with hy | hy
  ·exact PySem.W.cellsFrom_some _ _ _ (.inl hy)
  ·exact absurd rfl (Sc.nofree _ (PySem.mem_of_lookup hy))
 ·obtain ⟨f, fd, ps, h1, h2, h3, h4, h5⟩ := T.fn x n op h
  exact ⟨k, f, fd, ps, h1, hr, h2, h3, h4, h5⟩
 ·obtain ⟨f, fd, ps, h1, h2, h3, h4, h5⟩ := T.fx x n b op h
  exact ⟨k, f, fd, ps, h1, ⟨(fun z => Bool.noConfusion z), hr.dp, hr.un⟩, h2, h3, h4, h5⟩
theorem QfN {b : Bool} {P : Program} {w : World} {K : PySem.W.Frag} {mg : Str->Option Value} {base : Heap} {gl : List (Str × GV)} {k n : Nat} {x qual : Str} {st : Stmt} {f : Addr} {fd : FuncData} {N ps : List Str} {mts : List (Nat × Nat)} {fz : Nat} {run : av} (T : TX P w K mg base gl k) (F : Fun K x qual st f fd) (hs : cr N ps (aw st) = true)
  (hd : denSs n ⟨N, aw st, gl, mts, b, true⟩ (bt st) = some run) : FnX b P w K mg base (k + 3) f fd ps (SpX K ps.length (gm ps.length N.length fz run)) := by
 have Sc := Qdq hs
 refine Fun.okX (k := k + 2) F Sc fun cdv A outer s H Φ hr => (QbG n).ss ⟨N, aw st, gl, mts, b, true⟩ _ _ run ⟨⟨rfl, Sc.nd, rfl, fun z => z, hr.hd, (by have h := hr.un; show (A.deeper (envOfC qual (aw st) s.heap.objs.size f cdv)).units + 80 < cLine; omega), fun y hy => ?_, T.con, fun hb x n op h => ?_, T.blt, fun x n b' op h => ?_, T.exc, (fun _ => ⟨rfl, rfl, rfl⟩), T.dcon⟩, fun _ => rfl, QcO QfR⟩ hd
 ·rcases hy with hy | hy
  ·exact PySem.W.cellsFrom_some _ _ _ (.inl hy)
  ·exact absurd rfl (Sc.nofree _ (PySem.mem_of_lookup hy))
 ·obtain ⟨f, fd, ps, h1, h2, h3, h4, h5⟩ := T.fn x n op h
  exact ⟨k, f, fd, ps, h1, ⟨hr.hd hb, hr.dp, hr.un⟩, h2, h3, h4, h5⟩
 ·obtain ⟨f, fd, ps, h1, h2, h3, h4, h5⟩ := T.fx x n b' op h
  exact ⟨k, f, fd, ps, h1, ⟨(fun z => Bool.noConfusion z), hr.dp, hr.un⟩, h2, h3, h4, h5⟩
structure DefAt (K : PySem.W.Frag) (mg : Str->Option Value) (x : Str) (st : Stmt) (ps : List Str) : Prop where
 ex : ∃ f fd, Fun K x x st f fd/\mg x = some (.ref f)/\fv K fd ps []
theorem QlC {K : PySem.W.Frag} {h : Heap} {mg : Str->Option Value} {x : Str} {st : Stmt} {ps : List Str} {f : Addr} {oc : Value} {od an : Option Addr} {osl : Array (Option Value)} {kV doc pm cdv ct : Value} (X : K.In h) (G : h.Ns mainGlobals mg)
  (a : PySem.W.nsIn K mainGlobals x = some (some (.ref f))) (l : K.lookup f = some ⟨oc, od, .func (PySem.W.fnOf x x (ll st) (bt st) (aw st) .none kV doc pm an cdv ct), osl⟩)
  (c : PySem.W.codeIn K cdv x = true) (k : PySem.W.keepIn K (.ref f) = true)
  (hb : ∀ (kV doc pm : Value) (an : Option Addr) (cdv ct : Value) (us : List Value), us.length = ps.length->bindArgs (PySem.W.fnOf x x (ll st) (bt st) (aw st) .none kV doc pm an cdv ct) ⟨us, []⟩ = pure (ps.zip us)) : DefAt K mg x st ps :=
 have F := Qgs (st := st) l c k
 ⟨_, _, F, PySem.W.mg_of X G a, F.binds hb⟩
section
variable {P : Program} {w : World} {K : PySem.W.Frag} {mg : Str->Option Value} {base : Heap} {gl : List (Str × GV)} {k : Nat}
theorem TX.mono {k' : Nat} (h : TX P w K mg base gl k) (hk : k<=k') : TX P w K mg base gl k' :=
 ⟨h.con, fun x n op e => let ⟨f, fd, ps, h1, h2⟩ := h.fn x n op e; ⟨f, fd, ps, h1.mono hk, h2⟩, h.blt, fun x n b op e => let ⟨f, fd, ps, h1, h2⟩ := h.fx x n b op e; ⟨f, fd, ps, h1.mono hk, h2⟩, h.exc, h.dcon⟩
def GOk (P : Program) (w : World) (K : PySem.W.Frag) (mg : Str->Option Value) (base : Heap) (k : Nat) (x : Str) : GV->Prop
 | .con w' => ∃ u v, mg x = some u/\aq v u/\∀ ι N G, RelW K ι N G v w'
 | .fn n op => ∃ f fd ps, FnOk P w K mg base CX0 k f fd ps (SpD K n op)/\mg x = some (.ref f)/\PySem.W.keepIn K (.ref f) = true/\fv K fd ps []/\ps.length = n
 | .blt => mg x = none
 | .fx n b op => ∃ f fd ps, FnX b P w K mg base k f fd ps (SpX K n op)/\mg x = some (.ref f)/\PySem.W.keepIn K (.ref f) = true/\fv K fd ps []/\ps.length = n
 | .exc own tab => ∃ cv vc, ExcOk K mg x own tab cv vc
 | .dcon ks ws => KDs P w K mg x ks ws
theorem TX.get (h : TX P w K mg base gl k) {x : Str} {g : GV} (q : gl.lookup x = some g) : GOk P w K mg base k x g := by
 cases g with
 | con w' => exact h.con x w' q
 | fn n op => exact h.fn x n op q
 | blt => exact h.blt x q
 | fx n b op => exact h.fx x n b op q
 | exc own tab => exact h.exc x own tab q
 | dcon ks ws => exact h.dcon x ks ws q
theorem TX.of (h : ∀ x g, gl.lookup x = some g->GOk P w K mg base k x g) : TX P w K mg base gl k :=
 ⟨fun x w' q => h x _ q, fun x n op q => h x _ q, fun x q => h x _ q, fun x n b op q => h x _ q, fun x own tab q => h x _ q, fun x ks ws q => h x _ q⟩
theorem TX.add {x : Str} {g : GV} (h : TX P w K mg base gl k) (e : GOk P w K mg base k x g) : TX P w K mg base ((x, g) :: gl) k := TX.of fun y g' q => by
 rw [List.lookup_cons] at q
 cases hy : y == x with
 | true =>
  rw [hy] at q
  cases q
  have := eq_of_beq hy
  subst this
  exact e
 | false => rw [hy] at q; exact h.get q
theorem TX.cons {x : Str} {n : Nat} {op : OpN} (h : TX P w K mg base gl k) (e : ∃ f fd ps, FnOk P w K mg base CX0 k f fd ps (SpD K n op)/\mg x = some (.ref f)/\PySem.W.keepIn K (.ref f) = true/\fv K fd ps []/\ps.length = n) : TX P w K mg base ((x, .fn n op) :: gl) k := h.add e
theorem TX.consX {x : Str} {n : Nat} {b : Bool} {op : OpN} (h : TX P w K mg base gl k) (e : ∃ f fd ps, FnX b P w K mg base k f fd ps (SpX K n op)/\mg x = some (.ref f)/\PySem.W.keepIn K (.ref f) = true/\fv K fd ps []/\ps.length = n) : TX P w K mg base ((x, .fx n b op) :: gl) k := h.add e
theorem TX.fnOf {x : Str} {st : Stmt} {N ps : List Str} {mts : List (Nat × Nat)} {fz : Nat} {run : av} {n : Nat} (T : TX P w K mg base gl k) (D : DefAt K mg x st ps) (hs : cr N ps (aw st) = true) (hd : denSs n ⟨N, aw st, gl, mts, true, false⟩ (bt st) = some run) :
  ∃ f fd ps', FnOk P w K mg base CX0 (k + 3) f fd ps' (SpD K ps.length (di ps.length N.length fz run))/\mg x = some (.ref f)/\PySem.W.keepIn K (.ref f) = true/\fv K fd ps' []/\ps'.length = ps.length := by
 obtain ⟨f, fd, F, hm, hb⟩ := D.ex
 exact ⟨f, fd, ps, def_ok T F hs hd, hm, F.kp, hb, rfl⟩
theorem TX.fxOf {b : Bool} {x : Str} {st : Stmt} {N ps : List Str} {mts : List (Nat × Nat)} {fz : Nat} {run : av} {n : Nat} (T : TX P w K mg base gl k) (D : DefAt K mg x st ps) (hs : cr N ps (aw st) = true) (hd : denSs n ⟨N, aw st, gl, mts, b, true⟩ (bt st) = some run) :
  ∃ f fd ps', FnX b P w K mg base (k + 3) f fd ps' (SpX K ps.length (gm ps.length N.length fz run))/\mg x = some (.ref f)/\PySem.W.keepIn K (.ref f) = true/\fv K fd ps' []/\ps'.length = ps.length := by
 obtain ⟨f, fd, F, hm, hb⟩ := D.ex
 exact ⟨f, fd, ps, QfN T F hs hd, hm, F.kp, hb, rfl⟩
inductive ConK (K : PySem.W.Frag) : Value->W->Prop
 | int (i : Int) (t : Tok) : ConK K (.int i t) (.int i)
 | str (x : Str) (t : Tok) : ConK K (.str x t) (.str x)
theorem ConK.rel {u : Value} {c : W} (h : ConK K u c) : ∃ v, aq v u/\∀ ι N G, RelW K ι N G v c := by
 cases h with
 | int i t => exact ⟨.int i, ⟨t, rfl⟩, fun _ _ _ => .int i⟩
 | str x t => exact ⟨.str x, ⟨t, rfl⟩, fun _ _ _ => .str x⟩
theorem TX.nil {w0 : Nat} : TX P w K mg base [] w0 := TX.of fun _ _ h => by cases h
theorem TX.con1 {x : Str} {u : Value} {c : W} (h : TX P w K mg base gl k) (hm : mg x = some u) (hc : ConK K u c) : TX P w K mg base ((x, .con c) :: gl) k :=
 h.add (let ⟨v, h1, h2⟩ := hc.rel; ⟨u, v, hm, h1, h2⟩)
theorem TX.blt1 {x : Str} (h : TX P w K mg base gl k) (hm : mg x = none) : TX P w K mg base ((x, .blt) :: gl) k := h.add hm
theorem TX.dcon1 {x : Str} {ks : List ar} {ws : List W} (h : TX P w K mg base gl k) (e : KDs P w K mg x ks ws) : TX P w K mg base ((x, .dcon ks ws) :: gl) k := h.add e
theorem TX.exc1 {x : Str} {own : Bool} {tab : List (Str × Bool)} (h : TX P w K mg base gl k) (e : ∃ cv vc, ExcOk K mg x own tab cv vc) : TX P w K mg base ((x, .exc own tab) :: gl) k := h.add e
structure ClsK (K : PySem.W.Frag) (x : Str) (C : Addr) : Prop where
 cls : ExCls K x C
 ex : ExAt K C
theorem mo {x : Str} {C : Addr} {tab : List (Str × Bool)} (hm : mg x = some (.ref C)) (c : ExCls K x C) (ht : ∀ y b, tab.lookup y = some b->∃ Cy, ClsK K y Cy/\PySem.W.kitOne K (.ref Cy) (.ref C) = some b/\PySem.W.exmOne K (.ref Cy) (.ref C) = some b) : ∃ cv vc, ExcOk K mg x true tab cv vc :=
 ⟨.ref C, .ref C, rfl, fun _ r => r, fun _ => ⟨hm, C, rfl, c⟩, (fun z => Bool.noConfusion z), fun y b q => let ⟨Cy, a, h1, h2⟩ := ht y b q; ⟨Cy, a.cls.ns, a.ex, h1, h2⟩⟩
theorem exc_blt {x : Str} {T : String} {tab : List (Str × Bool)} (hm : mg x = none) (hb : bootBuiltins x = some (.type T)) (ht : ∀ y b, tab.lookup y = some b->∃ Cy, ClsK K y Cy/\PySem.W.kitOne K (.ref Cy) (.type T) = some b/\PySem.W.exmOne K (.ref Cy) (.type T) = some b) : ∃ cv vc, ExcOk K mg x false tab cv vc :=
 ⟨.type T, .ty T, rfl, fun _ r => r, (fun z => Bool.noConfusion z), fun _ => ⟨hm, hb⟩, fun y b q => let ⟨Cy, a, h1, h2⟩ := ht y b q; ⟨Cy, a.cls.ns, a.ex, h1, h2⟩⟩
end
def st0 : S := ⟨0, fun _ => none⟩
theorem Qjh {K : PySem.W.Frag} {H : Hp} {a : Addr} {ns : List Int} {op : OpN} {E : XK} (hS : SqL K H a (ns.map V.int)) (h : ∃ st', op [.lst (ns.map W.int)] st0 = .ok (.bl true) st') : SpX K 1 op [.ref a] H (fun v _ => v = .bl true) E := by
 obtain ⟨st', e⟩ := h
 refine ⟨rfl, fun _ => 0, H, st0, [.lst (ns.map W.int)], ⟨ee.refl H, fun n o q => (by cases q), fun n m o o' q => (by cases q)⟩, .cons (.lst hS (RelWs.ofInts ns)) .nil, ?_⟩
 rw [e]
 intro v ι' G' H' _ _ r
 cases r; rfl
theorem FnX.ok {b : Bool} {P : Program} {w : World} {K : PySem.W.Frag} {mg : Str->Option Value} {base : Heap} {k : Nat} {f : Addr} {fd : FuncData} {ps : List Str} {sp : Sp} (F : FnX b P w K mg base k f fd ps sp) : FnOk P w K mg base (CXD P w) k f fd ps sp :=
 ⟨F.len, fun A outer s H args us vs Q E hr => F.run A outer s H args us vs Q E ⟨fun _ => hr.hd, hr.dp, hr.un⟩⟩
theorem walkX {b : Bool} {l : PySem.W.OpenLaw} {q : Program} {loose : List Str} {XP : (Str->Option Value)->Heap->Prop} {YP : World->Heap->Prop} {d : DefRec} {K : Params->PySem.W.Frag} {op : OpN} {k : Nat} {x : Str} (hn : l.most = some 63) (hdf : d.params.defaults = []) (hr : Room k callerA)
  (hY : ∀ (w : World) (h : Heap), YP w h->(K w.params).In h) (hop : ∀ ns : List Int, ns.length<=63->∃ st', op [.lst (ns.map W.int)] st0 = .ok (.bl true) st')
  (F : ∀ (w : World) (mg : Str->Option Value) (fa : Addr) (h : Heap), (K w.params).In h->h.Ns mainGlobals mg->mg d.name = some (.ref fa) ->
   ∃ fd : FuncData, (∀ (s : Shared) (u : Value), BindsTo s fd ⟨[u], []⟩ [(x, u)])/\∀ base : Heap, (K w.params).In base->base.Ns mainGlobals mg->FnX b l.prog w (K w.params) mg base k fa fd [x] (SpX (K w.params) 1 op)) :
  PySem.W.WalkO q loose XP YP l.row.toRowW d [] (fun f vs => PySem.call f vs) :=
 L2.walk_of (n := 63) (k := k) (x := x) (CX := fun w => CXD l.prog w) (sp := fun w => SpX (K w.params) 1 op) hn (by decide) hdf hr hY (fun w mg fa h a1 a2 a3 => let ⟨fd, b1, b2⟩ := F w mg fa h a1 a2 a3; ⟨fd, b1, fun base c1 c2 => DL.FnX.ok (b2 base c1 c2)⟩) (fun _ _ a ns hl _ hS => Qjh hS (hop ns hl)) fun _ _ _ _ _ ⟨_, _, _, _, _, _, _, _, _, _, _, _, _, _, z⟩ => z
section
variable {α β : Type} {st : S} {Γ : Ga}
theorem ad (a : α) (s : S) (f : α->S->R β) : (R.ok a s).bind f = f a s := Qmq rfl rfl
theorem rq (a : α) (s : S) : (R.ok a s).calm = R.ok a s := Qmq rfl rfl
def kIf (A B : S->R α) (w : W) (s : S) : R α := match w with
 | .bl true => A s
 | .bl false => B s
 | _ => .stuck
theorem bz (A B : S->R α) (b : Bool) (s : S) : kIf A B (.bl b) s = if b = true then A s else B s := by cases b <;> rfl
def kSeq (b : av) (fl : Fl) (s : S) : R Fl := match fl with
 | .nx Γ' => b Γ' s
 | fl => .ok fl s
theorem bg (b : av) (Γ : Ga) (s : S) : kSeq b (.nx Γ) s = b Γ s := Qmq rfl rfl
theorem jr (b : av) (w : W) (s : S) : kSeq b (.rt w) s = .ok (.rt w) s := Qmq rfl rfl
theorem ay (a b : av) : am a b Γ st = (a Γ st).bind (kSeq b) := Qmq rfl rfl
theorem dg (rc : Run) (a b : av) : sIf rc a b Γ st = (rc Γ st).bind (kIf (a Γ) (b Γ)) := Qmq rfl rfl
theorem xy (r : Run) : ba r Γ st = (r Γ st).bind fun w s => .ok (.rt w) s := Qmq rfl rfl
theorem ev_set (i : Nat) (r : Run) : be i r Γ st = (r Γ st).bind fun w s => .ok (.nx (Γ.set i (some w))) s := Qmq rfl rfl
theorem de : ao Γ st = .ok (.nx Γ) st := Qmq rfl rfl
theorem Qbw (r : Run) : kt r Γ st = (r Γ st).bind fun _ s => .ok (.nx Γ) s := Qmq rfl rfl
theorem ev_var (i : Nat) (w : W) (h : Γ[i]? = some (some w)) : aa i Γ st = .ok w st := by unfold aa; rw [h]
theorem bh (w : W) : aa 0 (some w :: Γ) st = .ok w st := Qmq rfl rfl
theorem bq (a : Option W) (w : W) : aa 1 (a :: some w :: Γ) st = .ok w st := Qmq rfl rfl
theorem ev_v2 (a b : Option W) (w : W) : aa 2 (a :: b :: some w :: Γ) st = .ok w st := Qmq rfl rfl
theorem ev_v3 (a b c : Option W) (w : W) : aa 3 (a :: b :: c :: some w :: Γ) st = .ok w st := Qmq rfl rfl
theorem ib (a b c d : Option W) (w : W) : aa 4 (a :: b :: c :: d :: some w :: Γ) st = .ok w st := Qmq rfl rfl
theorem jn (a b c d e : Option W) (w : W) : aa 5 (a :: b :: c :: d :: e :: some w :: Γ) st = .ok w st := Qmq rfl rfl
theorem nz (a b c d e f : Option W) (w : W) : aa 6 (a :: b :: c :: d :: e :: f :: some w :: Γ) st = .ok w st := Qmq rfl rfl
theorem ev_v7 (a b c d e f g : Option W) (w : W) : aa 7 (a :: b :: c :: d :: e :: f :: g :: some w :: Γ) st = .ok w st := Qmq rfl rfl
theorem ev_v8 (a b c d e f g h : Option W) (w : W) : aa 8 (a :: b :: c :: d :: e :: f :: g :: h :: some w :: Γ) st = .ok w st := Qmq rfl rfl
theorem ev_v9 (a b c d e f g h i : Option W) (w : W) : aa 9 (a :: b :: c :: d :: e :: f :: g :: h :: i :: some w :: Γ) st = .ok w st := Qmq rfl rfl
theorem ev_s1 (r : Run) (a z : Option W) : be 1 r (a :: z :: Γ) st = (r (a :: z :: Γ) st).bind fun w s => .ok (.nx (a :: some w :: Γ)) s := Qmq rfl rfl
theorem pr (r : Run) (a b z : Option W) : be 2 r (a :: b :: z :: Γ) st = (r (a :: b :: z :: Γ) st).bind fun w s => .ok (.nx (a :: b :: some w :: Γ)) s := Qmq rfl rfl
theorem Qcd (r : Run) (a b c z : Option W) : be 3 r (a :: b :: c :: z :: Γ) st = (r (a :: b :: c :: z :: Γ) st).bind fun w s => .ok (.nx (a :: b :: c :: some w :: Γ)) s := Qmq rfl rfl
theorem yi (r : Run) (a b c d z : Option W) : be 4 r (a :: b :: c :: d :: z :: Γ) st = (r (a :: b :: c :: d :: z :: Γ) st).bind fun w s => .ok (.nx (a :: b :: c :: d :: some w :: Γ)) s := Qmq rfl rfl
theorem Qcc (r : Run) (a b c d e z : Option W) : be 5 r (a :: b :: c :: d :: e :: z :: Γ) st = (r (a :: b :: c :: d :: e :: z :: Γ) st).bind fun w s => .ok (.nx (a :: b :: c :: d :: e :: some w :: Γ)) s := Qmq rfl rfl
theorem ev_s6 (r : Run) (a b c d e f z : Option W) : be 6 r (a :: b :: c :: d :: e :: f :: z :: Γ) st = (r (a :: b :: c :: d :: e :: f :: z :: Γ) st).bind fun w s => .ok (.nx (a :: b :: c :: d :: e :: f :: some w :: Γ)) s := Qmq rfl rfl
theorem ev_s8 (r : Run) (a b c d e f g h z : Option W) : be 8 r (a :: b :: c :: d :: e :: f :: g :: h :: z :: Γ) st = (r (a :: b :: c :: d :: e :: f :: g :: h :: z :: Γ) st).bind fun w s => .ok (.nx (a :: b :: c :: d :: e :: f :: g :: h :: some w :: Γ)) s := Qmq rfl rfl
theorem su (i : Nat) (src : Src) (body : av) : lg i src body Γ st = (src Γ st).bind fun items s => fe i body items Γ s := Qmq rfl rfl
theorem ev_rng1 (r : Run) (i : Int) (h : r Γ st = .ok (.int i) st) (h0 : -4611686018427387904<=i) (h1 : i < 4611686018427387904) : jd r Γ st = .ok (fu 0 i.toNat) st := by
 unfold jd
 rw [h]
 exact Qmo ⟨h0, h1⟩
theorem ev_opX1 (nl fz : Nat) (run : av) (w : W) : gm 1 nl fz run [w] st = du fz st (run (some w :: List.replicate (nl - 1) none) st) := Qmq rfl rfl
theorem QfH (nl fz : Nat) (run : av) (w w' : W) : gm 2 nl fz run [w, w'] st = du fz st (run (some w :: some w' :: List.replicate (nl - 2) none) st) := Qmq rfl rfl
theorem ms (s0 s : S) (w : W) : du 0 s0 (.ok (.rt w) s) = .ok w s := Qmq rfl rfl
theorem QbQ (s0 s : S) (c : W) : du 0 s0 (.ex c s) = .ex c s := Qmq rfl rfl
theorem rm (s0 s : S) (w : W) : du 1 s0 (.ok (.rt w) s) = keep s0 s w := Qmq rfl rfl
theorem Qbv (s0 s : S) (c : W) : du 1 s0 (.ex c s) = tj s0 s c := Qmq rfl rfl
theorem ii (c : W) (s : S) (f : α->S->R β) : (R.ex c s : R α).bind f = .ex c s := Qmq rfl rfl
def kLo (m : Bool) (w l : W) (s : S) : R W := match l with
 | .int i => lw m (some i) none w s
 | _ => .stuck
def kHi (m : Bool) (w l : W) (s : S) : R W := match l with
 | .int i => lw m none (some i) w s
 | _ => .stuck
theorem Qae (m : Bool) (w : W) (i : Int) (s : S) : kLo m w (.int i) s = lw m (some i) none w s := Qmq rfl rfl
theorem xn (m : Bool) (a b : Run) : im m a b Γ st = (a Γ st).bind fun w s => (b Γ s).bind fun l s => kLo m w l s := Qmq rfl rfl
theorem ev_slNS (m : Bool) (a b : Run) : xj m a b Γ st = (a Γ st).bind fun w s => (b Γ s).bind fun l s => kHi m w l s := Qmq rfl rfl
theorem QbM (ws : List W) (lo hi : Option Int) : lw false lo hi (.tup ws) st = .ok (.tup (gp ws lo hi)) st := Qmq rfl rfl
theorem Qlz (x : Str) (rr : bw) : sd x rr Γ st = (rr Γ st).bind fun ws s => if ws.length<=sizeLine then .ex (.str x) s else .stuck := Qmq rfl rfl
theorem au (w : W) : af w Γ st = .ok w st := Qmq rfl rfl
theorem QfF (r : Run) (o : W->S->R W) : gd r o Γ st = (r Γ st).bind o := Qmq rfl rfl
theorem az (a b : Run) (o : Op2) : ah a b o Γ st = (a Γ st).bind fun x s => (b Γ s).bind fun y s => o x y s := Qmq rfl rfl
theorem ft (rr : bw) (o : OpN) : DL.runN rr o Γ st = (rr Γ st).bind o := Qmq rfl rfl
theorem wt (o : OpN) (ws : List W) : ax o ws st = (o ws st).calm := Qmq rfl rfl
theorem bn : al Γ st = .ok [] st := Qmq rfl rfl
theorem bd (r : Run) (rr : bw) : ae r rr Γ st = (r Γ st).bind fun w s => (rr Γ s).bind fun ws s => .ok (w :: ws) s := Qmq rfl rfl
theorem oa (a b : Run) : gf a b Γ st = (a Γ st).bind (kIf (fun s => .ok (.bl true) s) (b Γ)) := Qmq rfl rfl
def kNot (w : W) (s : S) : R W := match w with
 | .bl b => .ok (.bl (!b)) s
 | _ => .stuck
theorem Qad (b : Bool) (s : S) : kNot (.bl b) s = .ok (.bl (!b)) s := Qmq rfl rfl
theorem Qam (a : Run) : km a Γ st = (a Γ st).bind kNot := Qmq rfl rfl
theorem Qly (c a b : Run) : sx c a b Γ st = (c Γ st).bind (kIf (a Γ) (b Γ)) := Qmq rfl rfl
theorem jy (s0 s : S) (w : W) : jl 0 s0 (.ok (.rt w) s) = .ok w s := Qmq rfl rfl
theorem so (s0 s : S) (w : W) : jl 1 s0 (.ok (.rt w) s) = keep s0 s w := Qmq rfl rfl
theorem xz (nl fz : Nat) (run : av) (w : W) : di 1 nl fz run [w] st = jl fz st (run (some w :: List.replicate (nl - 1) none) st) := Qmq rfl rfl
theorem lm (nl fz : Nat) (run : av) (w w' : W) : di 2 nl fz run [w, w'] st = jl fz st (run (some w :: some w' :: List.replicate (nl - 2) none) st) := Qmq rfl rfl
theorem QbN (nl fz : Nat) (run : av) (w w' w2 : W) : di 3 nl fz run [w, w', w2] st = jl fz st (run (some w :: some w' :: some w2 :: List.replicate (nl - 3) none) st) := Qmq rfl rfl
theorem rn : List.replicate 2 (none : Option W) = [none, none] := Qmq rfl rfl
theorem ev_rep3 : List.replicate 3 (none : Option W) = [none, none, none] := Qmq rfl rfl
theorem Qbt : List.replicate 4 (none : Option W) = [none, none, none, none] := Qmq rfl rfl
theorem ev_rep6 : List.replicate 6 (none : Option W) = [none, none, none, none, none, none] := Qmq rfl rfl
theorem Qag : List.replicate 0 (none : Option W) = [] := Qmq rfl rfl
theorem Qbx (i j : Int) : ce (.int i) (.int j) st = .ok (.int (i + j)) st := Qmq rfl rfl
theorem ev_subI (i j : Int) : yf (.int i) (.int j) st = .ok (.int (i - j)) st := Qmq rfl rfl
theorem QfI (i j : Int) (h : qc i j) : df (.int i) (.int j) st = .ok (.int (i * j)) st := Qmo h
theorem ev_mulR (i j : Int) (h0 : -1000000<=j) (h1 : j<=1000000) : df (.int i) (.int j) st = .ok (.int (i * j)) st := QfI i j (.inr ⟨by omega, by omega⟩)
theorem ev_mulL (i j : Int) (h0 : -1000000<=i) (h1 : i<=1000000) : df (.int i) (.int j) st = .ok (.int (i * j)) st := QfI i j (.inl ⟨by omega, by omega⟩)
theorem ev_divI (i j : Int) (h : 0 < j) (h' : j < 1073741824) : kz (.int i) (.int j) st = .ok (.int (i / j)) st := Qmo ⟨h, h'⟩
theorem ev_modI (i j : Int) (h : 0 < j) : dz (.int i) (.int j) st = .ok (.int (i % j)) st := Qmo h
theorem QbP (i j : Int) : kc (.int i) (.int j) st = .ok (.bl (decide (j < i))) st := Qmq rfl rfl
theorem Qgv (i j : Int) : cf (.int i) (.int j) st = .ok (.bl (i == j)) st := Qmq rfl rfl
theorem Qan (i j : Int) : dk (.int i) (.int j) st = .ok (.bl (!(i == j))) st := Qmq rfl rfl
theorem Qao (i j : Str) : cf (.str i) (.str j) st = .ok (.bl (i == j)) st := Qmq rfl rfl
theorem QbO (i j : Str) : dk (.str i) (.str j) st = .ok (.bl (!(i == j))) st := Qmq rfl rfl
theorem ev_addS (x y : Str) (h : x.length + y.length<=sizeLine) : ce (.str x) (.str y) st = .ok (.str (x ++ y)) st := Qmo h
theorem QfJ (xs : List W) : cu [.lst xs] st = .ok (.int xs.length) st := Qmq rfl rfl
theorem mq (xs : List W) : cu [.tup xs] st = .ok (.int xs.length) st := Qmq rfl rfl
theorem ev_lenS (x : Str) (h : x.length<=sizeLine) : cu [.str x] st = .ok (.int x.length) st := Qmo h
theorem kq (ws : List W) (h : ws.length<=sizeLine) : opL false ws st = .ok (.lst ws) st := Qmo h
theorem sk (ws : List W) (h : ws.length<=sizeLine) : bp ws st = .ok (.tup ws) st := Qmo h
theorem Qbu (ws : List W) (i : Int) (w : W) (h : atI ws i = some w) : ap (.lst ws) (.int i) st = .ok w st := by
 show (match atI ws i with | some w => R.ok w st | none => .stuck) = _
 rw [h]
theorem rp (ws : List W) (i : Int) (w : W) (h : atI ws i = some w) : ap (.tup ws) (.int i) st = .ok w st := by
 show (match atI ws i with | some w => R.ok w st | none => .stuck) = _
 rw [h]
theorem ev_idxS (z : Str) (i : Int) (c : Nat) (hz : z.length<=sizeLine) (h : atI z.cps.toList i = some c) : ap (.str z) (.int i) st = .ok (.str ⟨#[c]⟩) st := by
 show (if z.length<=sizeLine then (match atI z.cps.toList i with | some c => R.ok (W.str ⟨#[c]⟩) st | none => .stuck) else .stuck) = _
 rw [Qmo hz, h]
theorem ig {n : Nat} (h : n<=1000) : n<=sizeLine := Nat.le_of_lt (Qji h)
theorem Qci {γ : Type} (xs : List γ) (i : Int) (h0 : 0<=i) (h1 : i < xs.length) : ∃ x, atI xs i = some x/\x ∈ xs := by
 have hj : i.toNat < xs.length := by omega
 refine ⟨xs[i.toNat], ?_, List.getElem_mem hj⟩
 have e : ((i.toNat : Nat) : Int) = i := by omega
 have h := QfV (xs := xs) (j := i.toNat) (QlR hj)
 rw [e] at h
 exact h
theorem nr {γ : Type} (xs : List γ) (k : Nat) (x : γ) (h : xs[k]? = some x) : atI xs (k : Int) = some x := QfV h
theorem lq (x : W) (xs : List W) : ap (.tup (x :: xs)) (.int 0) st = .ok x st := rp _ 0 x (nr (x :: xs) 0 x rfl)
theorem lf (x y : W) (xs : List W) : ap (.tup (x :: y :: xs)) (.int 1) st = .ok y st := rp _ 1 y (nr (x :: y :: xs) 1 y rfl)
theorem yg (x y z : W) (xs : List W) : ap (.tup (x :: y :: z :: xs)) (.int 2) st = .ok z st := rp _ 2 z (nr (x :: y :: z :: xs) 2 z rfl)
end
section
variable {st : S} {Γ : Ga}
def kSet (i : Nat) (Γ : Ga) (w : W) (s : S) : R Fl := .ok (.nx (Γ.set i (some w))) s
theorem ks2 (a b z : Option W) (Γ : Ga) (w : W) (s : S) : kSet 2 (a :: b :: z :: Γ) w s = .ok (.nx (a :: b :: some w :: Γ)) s := Qmq rfl rfl
theorem ks3 (a b c z : Option W) (Γ : Ga) (w : W) (s : S) : kSet 3 (a :: b :: c :: z :: Γ) w s = .ok (.nx (a :: b :: c :: some w :: Γ)) s := Qmq rfl rfl
theorem e_set (i : Nat) (r : Run) : be i r Γ st = (r Γ st).bind (kSet i Γ) := Qmq rfl rfl
end
section
variable {K : PySem.W.Frag}
structure ClsIn (K : PySem.W.Frag) (x : Str) (C : Addr) : Prop where
 ns : PySem.W.nsIn K mainGlobals x = some (some (.ref C))
 ex : PySem.W.excIn K C [.type "ValueError", .type "Exception", .type "BaseException", .type "object"] "ValueError.__new__" = true
 ga : PySem.W.findIn K (.ref C) "__getattribute__" = some (some (.builtin "BaseException.__getattribute__"))
 gh : PySem.W.findIn K (.ref C) "__getattr__" = some none
 sb : PySem.W.subIn K (.ref C) (.type "BaseException") = some true
 ca : PySem.W.findIn K (.ref C) "__class__" = some (some (.builtin "object.__class__"))
 cg : PySem.W.specialIn K (.builtin "object.__class__") "__get__" = some (some (.builtin "getset_descriptor.__get__"))
 ct : PySem.W.takesIn K (.builtin "object.__class__") = some true
 cm : PySem.W.mroIn K C (.type "object") = some true
 rf : PySem.W.subIn K (.ref C) (.ref C) = some true
theorem ClsIn.obj {x : Str} {C : Addr} (c : ClsIn K x C) : (PySem.W.clsIn K C).isSome = true/\PySem.W.typeIn K (.ref C) = some (.type "type") := by
 have q := c.ex
 unfold PySem.W.excIn at q
 split at q
 ·rename_i dd cd sl ho
  refine ⟨?_, ?_⟩
  ·unfold PySem.W.clsIn; rw [ho]; rfl
  ·show (K.lookup C).map _ = _
   rw [ho]; rfl
 ·cases q
theorem ClsIn.k {x : Str} {C : Addr} (c : ClsIn K x C) : ClsK K x C := ⟨⟨c.ns, _, _, _, _, c.ex, PySem.F.excBase_ValueError⟩, ⟨c.ga, c.gh, c.sb, c.ca, c.cg, c.ct, c.cm, c.obj.1⟩⟩
theorem ClsIn.pair {x y : Str} {C D : Addr} {b : Bool} (c : ClsIn K x C) (d : ClsIn K y D) (s : PySem.W.subIn K (.ref C) (.ref D) = some b) : PySem.W.kitOne K (.ref C) (.ref D) = some b/\PySem.W.exmOne K (.ref C) (.ref D) = some b := by
 have k : PySem.W.kitCls K (.ref C) (.ref D) = some b := by
  show (if ((PySem.W.clsIn K D).isSome && PySem.W.typeIn K (.ref D) == some (.type "type")) = true then PySem.W.subIn K (.ref C) (.ref D) else none) = some b
  rw [Qmo (by rw [d.obj.1, d.obj.2]; decide)]
  exact s
 refine ⟨?_, ?_⟩
 ·unfold PySem.W.kitOne
  by_cases e : C = D
  ·subst e
   rw [d.rf] at s
   cases s
   rw [Qmo (by simp)]
  ·rw [Qmp (by simp [e])]; exact k
 ·unfold PySem.W.exmOne
  rw [Qmo (by rw [d.sb]; decide)]
  exact k
theorem ClsIn.blt {x : Str} {C : Addr} {T : String} {b : Bool} (_ : ClsIn K x C) (hm : PySem.W.kitMeta T = true) (hb : PySem.W.subIn K (.type T) (.type "BaseException") = some true) (s : PySem.W.subIn K (.ref C) (.type T) = some b) : PySem.W.kitOne K (.ref C) (.type T) = some b/\PySem.W.exmOne K (.ref C) (.type T) = some b := by
 have k : PySem.W.kitCls K (.ref C) (.type T) = some b := by
  show (if PySem.W.kitMeta T = true then PySem.W.subIn K (.ref C) (.type T) else none) = some b
  rw [Qmo hm]
  exact s
 refine ⟨?_, ?_⟩
 ·unfold PySem.W.kitOne
  rw [Qmp (by simp)]; exact k
 ·unfold PySem.W.exmOne
  rw [Qmo (by rw [hb]; decide)]
  exact k
theorem Qhd : PySem.W.kitMeta "ValueError" = true := by decide +kernel
def cy (K : PySem.W.Frag) (cv : Value) (tab : List (Str × Bool)) : Prop := ∀ y b, tab.lookup y = some b->∃ Cy, ClsK K y Cy/\PySem.W.kitOne K (.ref Cy) cv = some b/\PySem.W.exmOne K (.ref Cy) cv = some b
theorem cy.nil {cv : Value} : cy K cv [] := fun _ _ h => by cases h
theorem cy.cons {cv : Value} {x : Str} {C : Addr} {b : Bool} {tab : List (Str × Bool)} (c : ClsIn K x C) (p : PySem.W.kitOne K (.ref C) cv = some b/\PySem.W.exmOne K (.ref C) cv = some b) (h : cy K cv tab) : cy K cv ((x, b) :: tab) := fun y b' q => by
 rw [List.lookup_cons] at q
 cases hy : y == x with
 | true =>
  rw [hy] at q
  cases q
  have := eq_of_beq hy
  subst this
  exact ⟨C, c.k, p⟩
 | false => rw [hy] at q; exact h y b' q
structure DIn (K : PySem.W.Frag) (x : Str) (st : Stmt) : Prop where
 ex : ∃ (f : Addr) (oc : Value) (od : Option Addr) (kV doc pm : Value) (an : Option Addr) (cdv ct : Value) (osl : Array (Option Value)), PySem.W.nsIn K mainGlobals x = some (some (.ref f)) /\
  K.lookup f = some ⟨oc, od, .func (PySem.W.fnOf x x (ll st) (bt st) (aw st) .none kV doc pm an cdv ct), osl⟩/\PySem.W.codeIn K cdv x = true/\PySem.W.keepIn K (.ref f) = true
theorem DIn.mk' {x : Str} {st : Stmt} {f : Addr} {oc : Value} {od : Option Addr} {kV doc pm : Value} {an : Option Addr} {cdv ct : Value} {osl : Array (Option Value)} (a : PySem.W.nsIn K mainGlobals x = some (some (.ref f)))
  (l : K.lookup f = some ⟨oc, od, .func (PySem.W.fnOf x x (ll st) (bt st) (aw st) .none kV doc pm an cdv ct), osl⟩) (c : PySem.W.codeIn K cdv x = true) (p : PySem.W.keepIn K (.ref f) = true) : DIn K x st := ⟨_, _, _, _, _, _, _, _, _, _, a, l, c, p⟩
theorem DIn.at_ {x : Str} {st : Stmt} {ps : List Str} {h : Heap} {mg : Str->Option Value} (X : K.In h) (G : h.Ns mainGlobals mg) (d : DIn K x st)
  (hb : ∀ (kV doc pm : Value) (an : Option Addr) (cdv ct : Value) (us : List Value), us.length = ps.length->bindArgs (PySem.W.fnOf x x (ll st) (bt st) (aw st) .none kV doc pm an cdv ct) ⟨us, []⟩ = pure (ps.zip us)) : DefAt K mg x st ps := by
 obtain ⟨_, _, _, _, _, _, _, _, _, _, a, l, c, p⟩ := d.ex
 exact QlC X G a l c p hb
theorem DIn.law {x : Str} {st : Stmt} {y : Str} {h : Heap} {mg : Str->Option Value} {fa : Addr} {R : FuncData->Prop} (X : K.In h) (G : h.Ns mainGlobals mg) (d : DIn K x st) (hfa : mg x = some (.ref fa))
  (hb : ∀ (kV doc pm : Value) (an : Option Addr) (cdv ct : Value) (s : Shared) (u : Value), BindsTo s (PySem.W.fnOf x x (ll st) (bt st) (aw st) .none kV doc pm an cdv ct) ⟨[u], []⟩ [(y, u)]) (hR : ∀ fd, Fun K x x st fa fd->R fd) :
  ∃ fd : FuncData, (∀ (s : Shared) (u : Value), BindsTo s fd ⟨[u], []⟩ [(y, u)])/\R fd := by
 obtain ⟨_, _, _, _, _, _, _, _, _, _, a, l, c, p⟩ := d.ex
 have e := hfa.symm.trans (PySem.W.mg_of X G a)
 cases e
 exact ⟨_, fun s u => hb _ _ _ _ _ _ s u, hR _ (Qgs (st := st) l c p)⟩
theorem ClsIn.mk' {x : Str} {C : Addr} (ns : PySem.W.nsIn K mainGlobals x = some (some (.ref C))) (ex : PySem.W.excIn K C [.type "ValueError", .type "Exception", .type "BaseException", .type "object"] "ValueError.__new__" = true)
  (ga : PySem.W.findIn K (.ref C) "__getattribute__" = some (some (.builtin "BaseException.__getattribute__"))) (gh : PySem.W.findIn K (.ref C) "__getattr__" = some none) (sb : PySem.W.subIn K (.ref C) (.type "BaseException") = some true)
  (ca : PySem.W.findIn K (.ref C) "__class__" = some (some (.builtin "object.__class__"))) (cg : PySem.W.specialIn K (.builtin "object.__class__") "__get__" = some (some (.builtin "getset_descriptor.__get__"))) (ct : PySem.W.takesIn K (.builtin "object.__class__") = some true)
  (cm : PySem.W.mroIn K C (.type "object") = some true) (rf : PySem.W.subIn K (.ref C) (.ref C) = some true) : ClsIn K x C := ⟨ns, ex, ga, gh, sb, ca, cg, ct, cm, rf⟩
end
def cp (z : Str) : List Nat := z.cps.toList
theorem yb (z : Str) : (cp z).length = z.length := by unfold cp; rw [Array.length_toList]; rfl
theorem QbR (x y : Str) : cp (x ++ y) = cp x ++ cp y := by
 show (x.cps ++ y.cps).toList = _
 rw [Array.toList_append]; rfl
theorem cp_ext {x y : Str} (h : cp x = cp y) : x = y := by
 obtain ⟨a⟩ := x
 obtain ⟨b⟩ := y
 have : a = b := Array.toList_inj.mp h
 rw [this]
theorem QlG : ∀ ys : List Str, cp (Txt.join "" ys) = (ys.map cp).flatten := by
 have e : ∀ ys : List Str, cp (Str.join "" ys) = (ys.map cp).flatten := by
  intro ys
  induction ys with
  | nil => rfl
  | cons x r ih =>
   cases r with
   | nil => show cp x = _; simp
   | cons y r =>
    show cp (x ++ ("" : Str) ++ Str.join "" (y :: r)) = _
    rw [QbR, QbR, ih]
    show cp x ++ [] ++ _ = _
    simp
 intro ys
 show cp (Builtin.Str.glued "" ys) = _
 rw [StrLaws.glued_eq_join]
 exact e ys
end DL
namespace DL.My
open PySem L2
def top (i : Nat) : Stmt := PySem.Challenge.pw_whyfacts_k32_groups_of_too_many.main.body.getD i (.Pass ⟨0, 0, 0, 0⟩)
def ow : W := .int 2000
def za : W := .int 8
def yt : W := .str "abcdefghijklmnopqrstuvwxyz"
def yu : W := .str "ABCDEFGHIJKLMNOPQRSTUVWXYZ"
def oo : List W := (["has", "not"] : List Str).map W.str
def wj : List (Str × Bool) := [("TooMany", false)]
def wg : List (Str × Bool) := [("TooMany", false)]
def vw : List (Str × Bool) := [("TooMany", false)]
def nh : List (Str × Bool) := [("TooMany", true)]
def ww : List (Str × Bool) := [("TooMany", false)]
def wv : List (Str × Bool) := [("TooMany", false)]
def wu : List (Str × Bool) := [("TooMany", false)]
def wf : List (Str × Bool) := [("TooMany", true)]
def we : List (Str × Bool) := [("TooMany", false)]
def va : List (Str × Bool) := [("TooMany", true)]
def gl0 : List (Str × GV) := [("BadFact", .exc true wj), ("BadRule", .exc true wg), ("BadWidth", .exc true vw), ("FactError", .exc true nh), ("NoFact", .exc true ww), ("NoText", .exc true wv), ("Ringed", .exc true wu), ("TooMany", .exc true wf), ("Unbound", .exc true we), ("ValueError", .exc false va), ("MOST_FILLS", .con ow), ("MOST_SIGNS", .con za), ("SMALL_LETTERS", .con yt), ("GREAT_LETTERS", .con yu), ("PATTERN_PARTS", .dcon [] oo), ("all", .blt), ("dict", .blt), ("int", .blt), ("isinstance", .blt), ("len", .blt), ("list", .blt), ("range", .blt), ("str", .blt), ("tuple", .blt), ("zip", .blt)]
abbrev xc : Stmt := top 59
def Qfg : List Str := ["_law_script", "_law_k"]
def Qfb : List Str := ["_law_script", "_law_k"]
def QlN : List (Nat × Nat) := []
noncomputable def QaX : av :=
 (am (ba (ah (ah (qz false (aa 0) (aa 1) (ah (aa 1) (af (W.int 1)) ce)) (runN (ae (af (W.int 0)) al) (opL false)) ce) (af (W.int 0)) ap))
 ao)
noncomputable def fk : OpN := di 2 2 0 QaX
abbrev xa : Stmt := top 60
def Qfe : List Str := ["_law_seed", "_law_k", "_law_tail", "_law_at"]
def QeZ : List Str := ["_law_seed", "_law_k"]
def QlL : List (Nat × Nat) := []
noncomputable def QaW : av :=
 (am (be 2 (ci "str" (af (W.str "")) (ae (bx false (jd (ah (aa 0) (af (W.int 8)) dz)) [0] (af (.bl true)) (ah (af (W.str "abcdefghijklmnopqrstuvwxyz")) (ah (ah (ah (aa 1) (af (W.int 3)) kz) (ah (af (W.int 5)) (aa 0) df) ce) (af (W.int 26)) dz) ap)) al) pc))
 (am (be 3 (ah (ah (aa 0) (af (W.int 78)) kz) (ah (runN (ae (aa 2) al) cu) (af (W.int 1)) ce) dz))
 (am (ba (ah (ah (xj false (aa 2) (aa 3)) (ah (af (W.str "dgjkqrvxz")) (ah (ah (aa 1) (ah (aa 0) (af (W.int 624)) kz) ce) (af (W.int 9)) dz) ap) ce) (im false (aa 2) (aa 3)) ce))
 ao)))
noncomputable def qm : OpN := di 2 4 0 QaW
abbrev vf : Stmt := top 46
def QcW : List Str := ["reason", "found", "grounds"]
def QcT : List Str := ["reason"]
def Qia : List (Nat × Nat) := [(154, 12)]
noncomputable def yz : av :=
 (am (sIf (ah (ah (aa 0) (af (W.int 0)) ap) (af (W.str "by")) cf)
  (am (ba (runN (ae (ah (aa 0) (af (W.int 2)) ap) al) (kj false)))
 ao)
  ao)
 (am (be 1 (runN al (opL true)))
 (am (sIf (ah (ah (aa 0) (af (W.int 0)) ap) (af (W.str "of")) cf)
  (am (lg 2 (bv (ah (aa 0) (af (W.int 3)) ap)) (am (kt jv)
 ao))
 ao)
  ao)
 (am (ba (aa 1))
 ao))))
noncomputable def qi : OpN := di 1 3 1 yz
abbrev vd : Stmt := top 49
def QcU : List Str := ["rules", "number", "kind"]
def QcR : List Str := ["rules", "number", "kind"]
def QhY : List (Nat × Nat) := []
noncomputable def QcN : av :=
 (am (sIf (oz (tw (af (W.int 0)) (aa 1) (runN (ae (aa 0) al) cu) yl opLt) (ah (ah (ah (aa 0) (aa 1) ap) (af (W.int 0)) ap) (aa 2) cf))
  (am (ba (ah (aa 0) (aa 1) ap))
 ao)
  ao)
 (am (ba (af W.non))
 ao))
noncomputable def qh : OpN := di 3 3 0 QcN
abbrev xf : Stmt := top 12
def Qfh : List Str := ["pattern", "fill"]
def Qfc : List Str := ["pattern", "fill"]
def QlO : List (Nat × Nat) := []
noncomputable def QaY : av :=
 (am (ba (ah (runN (ae (ah (aa 0) (af (W.int 0)) ap) al) bp) (runN (ae (bx false (bv (im false (aa 0) (af (W.int 1)))) [1] (af (.bl true)) (ci "dict" (aa 1) (ae (aa 0) (ae (aa 0) al)) jf)) al) ki) ce))
 ao)
noncomputable def jq : OpN := di 2 2 0 QaY
abbrev uq : Stmt := top 6
def QcC : List Str := ["thing"]
def Qcz : List Str := ["thing"]
def Qhi : List (Nat × Nat) := []
noncomputable def Qcx : av :=
 (am (ba (oz (runN (ae (aa 0) (ae (af (.ty "str")) al)) Qar) (tw (af (W.int 1)) (runN (ae (aa 0) al) cu) (af za) yl yl)))
 ao)
noncomputable def Qcs : OpN := di 1 1 0 Qcx
abbrev vq : Stmt := top 7
def Qdo : List Str := ["text"]
def Qdi : List Str := ["text"]
def Qiv : List (Nat × Nat) := []
noncomputable def QcY : av :=
 (am (ba (runN (ae (bx false (bv (aa 0)) [] (af (.bl true)) (ah (aa 0) (af yt) dn)) al) nv))
 ao)
noncomputable def QcP : OpN := di 1 1 0 QcY
abbrev uu : Stmt := top 53
def QcH : List Str := ["ground", "held"]
def QcF : List Str := ["ground", "held"]
def Qho : List (Nat × Nat) := []
noncomputable def QaE : av :=
 (am (sIf (ah (ah (aa 0) (af (W.int 0)) ap) (af (W.str "has")) cf)
  (am (ba (af (W.bl true)))
 ao)
  ao)
 (am (sIf (ah (ah (aa 0) (af (W.int 0)) ap) (af (W.str "not")) cf)
  (am (ba (ah (ah (aa 0) (af (W.int 1)) ap) (ci "dict" (aa 1) (ae (ah (ah (aa 0) (af (W.int 1)) ap) (af (W.int 0)) ap) (ae (runN al (opL false)) al)) jf) rj))
 ao)
  ao)
 (am (ba (ah jv (af W.non) lj))
 ao)))
noncomputable def ut : OpN := di 2 2 0 QaE
abbrev vh : Stmt := top 29
def Qdj : List Str := ["pattern", "places"]
def Qdd : List Str := ["pattern", "places"]
def Qiq : List (Nat × Nat) := []
noncomputable def QcX : av :=
 (am (ba (runN (ae (bx false (bv (aa 1)) [0] (af (.bl true)) (ah (aa 1) (aa 0) ap)) al) ki))
 ao)
noncomputable def me : OpN := di 2 2 0 QcX
abbrev ue : Stmt := top 43
def Qcm : List Str := ["group"]
def Qck : List Str := ["group"]
def QgL : List (Nat × Nat) := []
noncomputable def Qaz : av :=
 (am (ba (runN (ae (qt false (aa 0) [] (af (.bl true)) (aa 1)) al) ki))
 ao)
noncomputable def yo : OpN := di 1 1 0 Qaz
abbrev xb : Stmt := top 61
def Qff : List Str := ["_law_error", "_law_word_here"]
def Qfa : List Str := ["_law_error"]
def QlM : List (Nat × Nat) := []
noncomputable def Qey : av :=
 (am (be 1 (ah (ah (af (W.str "fact")) (runN (ae (gd (aa 0) (jx wj)) al) fo) df) (ah (af (W.str "rule")) (runN (ae (gd (aa 0) (jx wg)) al) fo) df) ce))
 (am (be 1 (ah (ah (aa 1) (ah (af (W.str "width")) (runN (ae (gd (aa 0) (jx vw)) al) fo) df) ce) (ah (af (W.str "unbound")) (runN (ae (gd (aa 0) (jx we)) al) fo) df) ce))
 (am (be 1 (ah (ah (aa 1) (ah (af (W.str "ring")) (runN (ae (gd (aa 0) (jx wu)) al) fo) df) ce) (ah (af (W.str "many")) (runN (ae (gd (aa 0) (jx wf)) al) fo) df) ce))
 (am (be 1 (ah (ah (aa 1) (ah (af (W.str "none")) (runN (ae (gd (aa 0) (jx ww)) al) fo) df) ce) (ah (af (W.str "text")) (runN (ae (gd (aa 0) (jx wv)) al) fo) df) ce))
 (am (ba (ah (aa 1) (runN (ae (gd (aa 0) (jx va)) al) fo) df))
 ao)))))
noncomputable def qo : OpN := gm 1 2 0 Qey
noncomputable def gl1 : List (Str × GV) := ("_law_said", .fx 1 false qo) :: ("grounds_of_group", .fn 1 yo) :: ("values_at", .fn 2 me) :: ("ground_is_so", .fn 2 ut) :: ("all_small", .fn 1 QcP) :: ("is_short_text", .fn 1 Qcs) :: ("filled", .fn 2 jq) :: ("rule_named", .fn 3 qh) :: ("grounds_in", .fn 1 qi) :: ("_law_word", .fn 2 qm) :: ("_law_cell", .fn 2 fk) :: gl0
abbrev uf : Stmt := top 47
def Qcn : List Str := ["reason", "word", "found", "ground"]
def Qcl : List Str := ["reason", "word"]
def QgM : List (Nat × Nat) := [(160, 12)]
noncomputable def yp : av :=
 (am (be 2 kn)
 (am (lg 3 (bv (runN (ae (aa 0) al) (ax qi))) (am (sIf (ah (ah (aa 3) (af (W.int 0)) ap) (aa 1) cf)
  (am (ju (aa 2) (ah (aa 3) (af (W.int 1)) ap) (af (W.bl true)))
 ao)
  ao)
 ao))
 (am (ba (runN (ae (aa 2) al) (kj false)))
 ao)))
noncomputable def qd : OpN := di 2 4 1 yp
abbrev wm : Stmt := top 8
def Qeq : List Str := ["thing"]
def Qen : List Str := ["thing"]
def Qkn : List (Nat × Nat) := []
noncomputable def QdO : av :=
 (am (ba (oz (runN (ae (aa 0) al) (ax Qcs)) (oz (ah (ah (aa 0) (af (W.int 0)) ap) (af yu) dn) (runN (ae (im false (aa 0) (af (W.int 1))) al) (ax QcP)))))
 ao)
noncomputable def gr : OpN := di 1 1 0 QdO
abbrev uk : Stmt := top 30
def Qcr : List Str := ["facts", "width", "places", "found", "fact"]
def Qcp : List Str := ["facts", "width", "places"]
def QgS : List (Nat × Nat) := [(72, 12), (75, 54)]
noncomputable def QaB : av :=
 (am (be 3 kn)
 (am (lg 4 (bv (aa 0)) (am (sIf (ah (runN (ae (aa 4) al) cu) (ah (af (W.int 1)) (aa 1) ce) cf)
  (am (kt (ci "list" (ci "dict" (aa 3) (ae (runN (ae (aa 4) (ae (aa 2) al)) (ax me)) (ae (runN al (opL true)) al)) fm) (ae (aa 4) al) iy))
 ao)
  ao)
 ao))
 (am (ba (aa 3))
 ao)))
noncomputable def ug : OpN := di 3 5 1 QaB
abbrev vn : Stmt := top 35
def Qdm : List Str := ["part", "fill"]
def Qdg : List Str := ["part", "fill"]
def Qit : List (Nat × Nat) := []
noncomputable def QaI : av :=
 (am (sIf (gd (ah (aa 0) (af (W.int 0)) ap) (mw oo))
  (am (ba (runN (ae (ah (aa 0) (af (W.int 0)) ap) (ae (runN (ae (ah (aa 0) (af (W.int 1)) ap) (ae (aa 1) al)) (ax jq)) al)) bp))
 ao)
  ao)
 (am (ba (runN (ae (aa 0) (ae (aa 1) al)) (ax jq)))
 ao))
noncomputable def qj : OpN := di 2 2 0 QaI
abbrev uy : Stmt := top 44
def QcM : List Str := ["rule", "groups", "fact", "key_values", "grounds", "group", "own"]
def QcL : List Str := ["rule", "groups", "fact", "key_values", "grounds"]
def QhC : List (Nat × Nat) := []
noncomputable def yy : av :=
 (am (sIf (ah (aa 3) (aa 1) rj)
  (am (ba (af (W.bl false)))
 ao)
  ao)
 (am (be 5 (ah (aa 1) (aa 3) ap))
 (am (be 6 (runN (ae (aa 5) al) (ax yo)))
 (am (sIf (gf (ah (runN (ae (aa 6) al) cu) (runN (ae (aa 4) al) cu) dk) (ah jv jv dk))
  (am (ba (af (W.bl false)))
 ao)
  ao)
 (am (ba (ah jv (aa 2) cf))
 ao)))))
noncomputable def uw : OpN := di 5 7 0 yy
noncomputable def gl2 : List (Str × GV) := ("group_tells", .fn 5 uw) :: ("ground_of", .fn 2 qj) :: ("facts_by_values", .fn 3 ug) :: ("is_free", .fn 1 gr) :: ("facts_of_grounds", .fn 2 qd) :: gl1
abbrev vz : Stmt := top 48
def QdD : List Str := ["reason"]
def QdB : List Str := ["reason"]
def Qja : List (Nat × Nat) := []
noncomputable def ze : av :=
 (am (ba (runN (ae (aa 0) (ae (af (W.str "has")) al)) (ax qd)))
 ao)
noncomputable def kg : OpN := di 1 1 0 ze
abbrev wk : Stmt := top 11
def Qeo : List Str := ["pattern", "fact", "fill", "found", "term", "value", "wanted"]
def Qel : List Str := ["pattern", "fact", "fill"]
def Qkl : List (Nat × Nat) := [(21, 12)]
noncomputable def QaO : av :=
 (am (sIf (gf (ah (ah (aa 0) (af (W.int 0)) ap) (ah (aa 1) (af (W.int 0)) ap) dk) (ah (runN (ae (aa 0) al) cu) (runN (ae (aa 1) al) cu) dk))
  (am (ba (af W.non))
 ao)
  ao)
 (am (be 3 (runN (ae (aa 2) al) (xk true)))
 (am (nt 4 5 (ae (im false (aa 0) (af (W.int 1))) (ae (im false (aa 1) (af (W.int 1))) al)) (am (be 6 (sx (runN (ae (aa 4) al) (ax gr)) (ci "dict" (aa 3) (ae (aa 4) (ae (aa 5) al)) fm) (aa 4)))
 (am (sIf (ah (aa 6) (aa 5) dk)
  (am (ba (af W.non))
 ao)
  ao)
 ao)))
 (am (ba (aa 3))
 ao))))
noncomputable def mf : OpN := di 3 7 1 QaO
abbrev ul : Stmt := top 28
def Qcv : List Str := ["pattern", "fill"]
def Qct : List Str := ["pattern", "fill"]
def QgZ : List (Nat × Nat) := []
noncomputable def QaC : av :=
 (am (ba (bx false (rg (af (W.int 1)) (runN (ae (aa 0) al) cu)) [1, 0] (gf (km (runN (ae (ah (aa 2) (aa 0) ap) al) (ax gr))) (ah (ah (aa 2) (aa 0) ap) (aa 1) dn)) (aa 0)))
 ao)
noncomputable def yr : OpN := di 2 2 0 QaC
abbrev ve : Stmt := top 36
def QcV : List Str := ["body", "fill"]
def QcS : List Str := ["body", "fill"]
def QhZ : List (Nat × Nat) := []
noncomputable def QaF : av :=
 (am (ba (runN (ae (bx false (bv (aa 0)) [1] (af (.bl true)) (runN (ae (aa 0) (ae (aa 1) al)) (ax qj))) al) ki))
 ao)
noncomputable def uz : OpN := di 2 2 0 QaF
noncomputable def gl3 : List (Str × GV) := ("grounds_of", .fn 2 uz) :: ("settled_places", .fn 2 yr) :: ("matched", .fn 3 mf) :: ("rests_on", .fn 1 kg) :: gl2
abbrev um : Stmt := top 51
def Qcw : List Str := ["part", "ground", "fill"]
def Qcu : List Str := ["part", "ground", "fill"]
def Qha : List (Nat × Nat) := []
noncomputable def QaD : av :=
 (am (sIf (ah (ah (aa 0) (af (W.int 0)) ap) (ah (aa 1) (af (W.int 0)) ap) dk)
  (am (ba (af W.non))
 ao)
  ao)
 (am (sIf (gd (ah (aa 0) (af (W.int 0)) ap) (mw oo))
  (am (ba (runN (ae (ah (aa 0) (af (W.int 1)) ap) (ae (ah (aa 1) (af (W.int 1)) ap) (ae (aa 2) al))) (ax mf)))
 ao)
  ao)
 (am (ba (runN (ae (aa 0) (ae (aa 1) (ae (aa 2) al))) (ax mf)))
 ao)))
noncomputable def qe : OpN := di 3 3 0 QaD
abbrev uv : Stmt := top 31
def QcI : List Str := ["pattern", "fills", "held", "places", "facts", "found", "fill", "fact", "one"]
def QcG : List Str := ["pattern", "fills", "held"]
def Qhp : List (Nat × Nat) := [(82, 12)]
noncomputable def yx : av :=
 (am (sIf (ah (runN (ae (aa 1) al) cu) (af (W.int 0)) cf)
  (am (ba (runN al (opL false)))
 ao)
  ao)
 (am (be 3 (runN (ae (aa 0) (ae (ah (aa 1) (af (W.int 0)) ap) al)) (ax yr)))
 (am (be 4 (runN (ae (ci "dict" (aa 2) (ae (ah (aa 0) (af (W.int 0)) ap) (ae (runN al (opL false)) al)) jf) (ae (ah (runN (ae (aa 0) al) cu) (af (W.int 1)) yf) (ae (aa 3) al))) (ax ug)))
 (am (be 5 (runN al (opL true)))
 (am (lg 6 (bv (aa 1)) (am (lg 7 (bv (ci "dict" (aa 4) (ae (runN (ae (runN (ae (aa 0) (ae (aa 6) al)) (ax jq)) (ae (aa 3) al)) (ax me)) (ae (runN al (opL false)) al)) jf)) (am (be 8 (runN (ae (aa 0) (ae (aa 7) (ae (aa 6) al))) (ax mf)))
 (am (sIf (ah (aa 8) (af W.non) lj)
  (am (kt (ci "list" (aa 5) (ae (aa 8) al) iy))
 ao)
  ao)
 ao)))
 (am (sIf (ah (runN (ae (aa 5) al) cu) (af ow) kc)
  (am (sd "TooMany" (ae (af (W.str "a body has too many fills")) al))
 ao)
  ao)
 ao)))
 (am (ba (aa 5))
 ao))))))
noncomputable def oq : OpN := gm 3 9 1 yx
noncomputable def gl4 : List (Str × GV) := ("fills_by_has", .fx 3 true oq) :: ("fill_by_ground", .fn 3 qe) :: gl3
abbrev uh : Stmt := top 52
def Qcq : List Str := ["body", "grounds", "fill", "part", "ground"]
def Qco : List Str := ["body", "grounds"]
def QgR : List (Nat × Nat) := []
noncomputable def QaA : av :=
 (am (sIf (ah (runN (ae (aa 0) al) cu) (runN (ae (aa 1) al) cu) dk)
  (am (ba (af W.non))
 ao)
  ao)
 (am (be 2 se)
 (am (nt 3 4 (ae (aa 0) (ae (aa 1) al)) (am (be 2 (runN (ae (aa 3) (ae (aa 4) (ae (aa 2) al))) (ax qe)))
 (am (sIf (ah (aa 2) (af W.non) ir)
  (am (ba (af W.non))
 ao)
  ao)
 ao)))
 (am (ba (aa 2))
 ao))))
noncomputable def yq : OpN := di 2 5 0 QaA
abbrev ur : Stmt := top 34
def QcD : List Str := ["part", "fills", "held"]
def QcA : List Str := ["part", "fills", "held"]
def Qhj : List (Nat × Nat) := []
noncomputable def qg : av :=
 (am (sIf (ah (ah (aa 0) (af (W.int 0)) ap) (af (W.str "has")) cf)
  (am (ba (runN (ae (ah (aa 0) (af (W.int 1)) ap) (ae (aa 1) (ae (aa 2) al))) oq))
 ao)
  ao)
 (am (sIf (ah (ah (aa 0) (af (W.int 0)) ap) (af (W.str "not")) cf)
  (am (ba jv)
 ao)
  ao)
 (am (ba jv)
 ao)))
noncomputable def li : OpN := gm 3 3 0 qg
noncomputable def gl5 : List (Str × GV) := ("fills_by_part", .fx 3 true li) :: ("fill_by_grounds", .fn 2 yq) :: gl4
abbrev vp : Stmt := top 54
def Qdn : List Str := ["fact", "rule", "grounds", "held", "fill"]
def Qdh : List Str := ["fact", "rule", "grounds", "held"]
def Qiu : List (Nat × Nat) := []
noncomputable def zd : av :=
 (am (sIf (ah (aa 1) (af W.non) ir)
  (am (ba (af (W.bl false)))
 ao)
  ao)
 (am (be 4 (runN (ae (ah (aa 1) (af (W.int 2)) ap) (ae (aa 2) al)) (ax yq)))
 (am (sIf (gf (ah (aa 4) (af W.non) ir) (ah (runN (ae (ah (aa 1) (af (W.int 1)) ap) (ae (aa 4) al)) (ax jq)) (aa 0) dk))
  (am (ba (af (W.bl false)))
 ao)
  ao)
 (am (ba (runN (ae (bx false (bv (aa 2)) [3] (af (.bl true)) (runN (ae (aa 0) (ae (aa 1) al)) (ax ut))) al) nv))
 ao))))
noncomputable def vg : OpN := di 4 5 0 zd
abbrev wa : Stmt := top 37
def QdE : List Str := ["body", "held", "fills", "part"]
def QdC : List Str := ["body", "held"]
def Qjb : List (Nat × Nat) := []
noncomputable def zf : av :=
 (am (be 2 (runN (ae se al) (opL false)))
 (am (lg 3 (bv (aa 0)) (am (be 2 (runN (ae (aa 3) (ae (aa 2) (ae (aa 1) al))) li))
 ao))
 (am (ba (bx false (bv (aa 2)) [0] (af (.bl true)) (runN (ae (aa 0) (ae (runN (ae (aa 1) (ae (aa 0) al)) (ax uz)) al)) bp)))
 ao)))
noncomputable def ni : OpN := gm 2 4 0 zf
noncomputable def gl6 : List (Str × GV) := ("fills_of", .fx 2 true ni) :: ("by_stands", .fn 4 vg) :: gl5
abbrev vm : Stmt := top 39
def Qdl : List Str := ["rule", "held", "groups", "fill", "grounds", "key_values"]
def Qdf : List Str := ["rule", "held"]
def Qis : List (Nat × Nat) := [(116, 13), (119, 38)]
noncomputable def zc : av :=
 (am (be 2 kn)
 (am (nu 3 4 (runN (ae (ah (aa 0) (af (W.int 6)) ap) (ae (aa 1) al)) ni) (am (be 5 (runN (ae (bx false (bv (ah (aa 0) (af (W.int 5)) ap)) [3] (af (.bl true)) (ah (aa 1) (aa 0) ap)) al) ki))
 (am (kt (ci "list" (ci "dict" (aa 2) (ae (aa 5) (ae (runN al (opL true)) al)) fm) (ae (runN (ae (aa 3) (ae (aa 4) al)) bp) al) iy))
 ao)))
 (am (ba (aa 2))
 ao)))
noncomputable def ng : OpN := gm 2 6 1 zc
noncomputable def gl7 : List (Str × GV) := ("groups_of", .fx 2 true ng) :: gl6
abbrev vk : Stmt := top 55
def Qdk : List Str := ["fact", "rule", "key_values", "grounds", "held"]
def Qde : List Str := ["fact", "rule", "key_values", "grounds", "held"]
def Qir : List (Nat × Nat) := []
noncomputable def zb : av :=
 (am (sIf (ah (aa 1) (af W.non) ir)
  (am (ba (af (W.bl false)))
 ao)
  ao)
 (am (ba (runN (ae (aa 1) (ae (runN (ae (aa 1) (ae (aa 4) al)) ng) (ae (aa 0) (ae (aa 2) (ae (aa 3) al))))) (ax uw)))
 ao))
noncomputable def ou : OpN := gm 5 5 0 zb
noncomputable def gl8 : List (Str × GV) := ("of_stands", .fx 5 true ou) :: gl7
abbrev uo : Stmt := top 56
def QcB : List Str := ["fact", "reason", "rules", "told", "held"]
def Qcy : List Str := ["fact", "reason", "rules", "told", "held"]
def Qhh : List (Nat × Nat) := []
noncomputable def qf : av :=
 (am (sIf (ah (ah (aa 1) (af (W.int 0)) ap) (af (W.str "told")) cf)
  (am (ba (ah (aa 0) (aa 3) dn))
 ao)
  ao)
 (am (sIf (ah (ah (aa 1) (af (W.int 0)) ap) (af (W.str "by")) cf)
  (am (ba (runN (ae (aa 0) (ae (runN (ae (aa 2) (ae (ah (aa 1) (af (W.int 1)) ap) (ae (af (W.str "rule")) al))) (ax qh)) (ae (ah (aa 1) (af (W.int 2)) ap) (ae (aa 4) al)))) (ax vg)))
 ao)
  ao)
 (am (ba (runN (ae (aa 0) (ae (runN (ae (aa 2) (ae (ah (aa 1) (af (W.int 1)) ap) (ae (af (W.str "gather")) al))) (ax qh)) (ae (ah (aa 1) (af (W.int 2)) ap) (ae (ah (aa 1) (af (W.int 3)) ap) (ae (aa 4) al))))) ou))
 ao)))
noncomputable def ke : OpN := gm 5 5 0 qf
noncomputable def gl9 : List (Str × GV) := ("reason_stands", .fx 5 true ke) :: gl8
abbrev wz : Stmt := top 57
def Qfd : List Str := ["row", "rules", "told", "held", "ahead", "fact", "reason"]
def QeY : List Str := ["row", "rules", "told", "held"]
def QlK : List (Nat × Nat) := [(211, 12)]
noncomputable def zm : av :=
 (am (be 4 kn)
 (am (nu 5 6 (aa 0) (am (sIf (gf (ah (aa 5) (aa 4) dn) (km (runN (ae (aa 5) (ae (aa 6) (ae (aa 1) (ae (aa 2) (ae (aa 3) al))))) ke)))
  (am (ba (af (W.bl false)))
 ao)
  ao)
 (am (sIf (km (runN (ae (bx false (bv (runN (ae (aa 6) al) (ax kg))) [4] (af (.bl true)) (ah (aa 0) (aa 1) dn)) al) nv))
  (am (ba (af (W.bl false)))
 ao)
  ao)
 (am (ju (aa 4) (aa 5) (af (W.bl true)))
 ao))))
 (am (ba (ah (runN (ae (aa 0) al) cu) (af (W.int 0)) kc))
 ao)))
noncomputable def ja : OpN := gm 4 7 1 zm
noncomputable def ym : List (Str × GV) := ("stands", .fx 4 true ja) :: gl9
abbrev wl : Stmt := top 62
def Qep : List Str := ["_law_row", "_law_rules", "_law_told", "_law_held", "_law_found_here", "_law_error"]
def Qem : List Str := ["_law_row", "_law_rules", "_law_told", "_law_held"]
def Qkm : List (Nat × Nat) := []
noncomputable def wn : av :=
 (am (oh 6 5 nh (am (be 4 (runN (ae (aa 0) (ae (aa 1) (ae (aa 2) (ae (aa 3) al)))) ja))
 ao) (am (ba (runN (ae (aa 5) al) (ax qo)))
 ao))
 (am (ba (ah (ah (runN (ae (af (W.str "other")) (ae (af (W.str "stands")) al)) (opL false)) (runN (ae (ah (aa 4) (af (W.bl true)) ir) al) fo) ap) (runN (ae (ah (aa 4) (af (W.bl false)) lj) al) fo) df))
 ao))
noncomputable def iw : OpN := gm 4 6 0 wn
noncomputable def gl11 : List (Str × GV) := ("_law_found", .fx 4 true iw) :: ym
abbrev sw : Stmt := top 63
def N_law : List Str := ["_law_script", "_law_names", "_law_many", "_law_facts", "_law_kind", "_law_value", "_law_body", "_law_rules", "_law_row", "_law_held", "_law_due", "_law_one", "_law_other", "_law_ahead", "_law_last"]
def Qcj : List Str := ["_law_script"]
def M_law : List (Nat × Nat) := []
noncomputable def QbU : av :=
 (am (be 1 (bx false (jd (af (W.int 2))) [0] (af (.bl true)) (runN (ae (runN (ae (aa 1) (ae (af (W.int 0)) al)) (ax fk)) (ae (aa 0) al)) (ax qm))))
 (am (be 2 (ah (af (W.int 39)) (ah (runN (ae (aa 0) (ae (af (W.int 1)) al)) (ax fk)) (af (W.int 12)) dz) ce))
 (am (be 3 (bx false (jd (aa 2)) [1, 0] (af (.bl true)) (runN (ae (ah (aa 1) (af (W.int 0)) ap) (ae (ah (aa 0) (ah (af (W.int 1)) (ah (runN (ae (aa 2) (ae (af (W.int 2)) al)) (ax fk)) (af (W.int 9)) dz) ce) df) (ae (ah (aa 0) (ah (runN (ae (aa 2) (ae (af (W.int 3)) al)) (ax fk)) (af (W.int 999)) dz) ce) al))) bp)))
 (am (be 4 (ah (runN (ae (af (W.str "count")) (ae (af (W.str "sum")) (ae (af (W.str "least")) (ae (af (W.str "most")) al)))) (opL false)) (ah (runN (ae (aa 0) (ae (af (W.int 4)) al)) (ax fk)) (af (W.int 4)) dz) ap))
 (am (be 5 (ah (runN (ae (af (W.str "")) (ae (af (W.str "X")) (ae (af (W.str "Z")) (ae (af (W.str "W")) al)))) (opL false)) (ah (runN (ae (aa 0) (ae (af (W.int 4)) al)) (ax fk)) (af (W.int 4)) dz) ap))
 (am (be 6 (runN (ae (runN (ae (af (W.str "has")) (ae (runN (ae (ah (aa 1) (af (W.int 0)) ap) (ae (af (W.str "X")) (ae (af (W.str "Y")) al))) bp) al)) bp) (ae (runN (ae (af (W.str "has")) (ae (runN (ae (ah (aa 1) (af (W.int 0)) ap) (ae (af (W.str "Z")) (ae (af (W.str "W")) al))) bp) al)) bp) al)) bp))
 (am (be 7 (runN (ae (runN (ae (af (W.str "gather")) (ae (runN (ae (ah (aa 1) (af (W.int 1)) ap) (ae (af (W.str "N")) al)) bp) (ae (aa 4) (ae (af (W.str "N")) (ae (aa 5) (ae (runN al bp) (ae (aa 6) al))))))) bp) (ae (runN (ae (af (W.str "rule")) (ae (runN (ae (ah (aa 1) (af (W.int 1)) ap) (ae (af (W.str "Z")) al)) bp) (ae (aa 6) al))) bp) al)) (opL false)))
 (am (be 8 (runN (ae (runN (ae (runN (ae (ah (aa 1) (af (W.int 1)) ap) (ae (ah (aa 2) (aa 2) df) al)) bp) (ae (runN (ae (af (W.str "of")) (ae (af (W.int 0)) (ae (runN al bp) (ae (runN al bp) al)))) bp) al)) bp) al) (opL false)))
 (am (be 9 (nk (ah (aa 1) (af (W.int 0)) ap) (runN (ae (aa 3) al) (kj false))))
 (am (be 10 (ah (af (W.str "many")) (runN (ae (ah (ah (aa 2) (aa 2) df) (af (W.int 2000)) kc) al) fo) df))
 (am (sIf (gf (ah (runN (ae (aa 8) (ae (aa 7) (ae (aa 3) (ae (aa 9) al)))) iw) (aa 10) dk) (ah (aa 9) (nk (ah (aa 1) (af (W.int 0)) ap) (aa 3)) dk))
  (am (ba (af (W.bl false)))
 ao)
  ao)
 (am (sIf (ah (runN (ae (bx false (bv (aa 3)) [] (af (.bl true)) (runN (ae (aa 0) (ae (runN (ae (af (W.str "told")) al) bp) al)) bp)) (ae (aa 7) (ae (aa 3) (ae (aa 9) al)))) iw) (af (W.str "stands")) dk)
  (am (ba (af (W.bl false)))
 ao)
  ao)
 (am (be 11 (ah (aa 3) (ah (runN (ae (aa 0) (ae (af (W.int 5)) al)) (ax fk)) (aa 2) dz) ap))
 (am (be 12 (ah (aa 3) (ah (runN (ae (aa 0) (ae (af (W.int 6)) al)) (ax fk)) (aa 2) dz) ap))
 (am (be 13 (bx false (bv (aa 3)) [11, 12] (gf (ah (aa 0) (aa 1) cf) (ah (aa 0) (aa 2) cf)) (runN (ae (aa 0) (ae (runN (ae (af (W.str "told")) al) bp) al)) bp)))
 (am (be 14 (runN (ae (runN (ae (runN (ae (ah (aa 1) (af (W.int 1)) ap) (ae (ah (aa 12) (af (W.int 1)) ap) al)) bp) (ae (runN (ae (af (W.str "by")) (ae (af (W.int 1)) (ae (runN (ae (runN (ae (af (W.str "has")) (ae (aa 11) al)) bp) (ae (runN (ae (af (W.str "has")) (ae (aa 12) al)) bp) al)) bp) al))) bp) al)) bp) al) (opL false)))
 (am (sIf (ah (runN (ae (ah (aa 13) (aa 14) ce) (ae (aa 7) (ae (aa 3) (ae (aa 9) al)))) iw) (af (W.str "stands")) dk)
  (am (ba (af (W.bl false)))
 ao)
  ao)
 (am (ba (ah (runN (ae (ah (im false (aa 13) (af (W.int 1))) (aa 14) ce) (ae (aa 7) (ae (aa 3) (ae (aa 9) al)))) iw) (af (W.str "")) cf))
 ao))))))))))))))))))
noncomputable def op_law : OpN := gm 1 15 0 QbU
theorem Qjr : cr Qfg Qfb (aw xc) = true := by decide +kernel
theorem Qkd : denSs 60 ⟨Qfg, aw xc, gl0, QlN, true, false⟩ (bt xc) = some QaX := by kernel_rfl
theorem Qjp : cr Qfe QeZ (aw xa) = true := by decide +kernel
theorem Qkb : denSs 60 ⟨Qfe, aw xa, gl0, QlL, true, false⟩ (bt xa) = some QaW := by kernel_rfl
theorem Qhu : cr QcW QcT (aw vf) = true := by decide +kernel
theorem QhB : denSs 60 ⟨QcW, aw vf, gl0, Qia, true, false⟩ (bt vf) = some yz := by kernel_rfl
theorem QgD : cr Qcn Qcl (aw uf) = true := by decide +kernel
theorem QgG : denSs 60 ⟨Qcn, aw uf, gl1, QgM, true, false⟩ (bt uf) = some yp := by kernel_rfl
theorem Qid : cr QdD QdB (aw vz) = true := by decide +kernel
theorem Qin : denSs 60 ⟨QdD, aw vz, gl2, Qja, true, false⟩ (bt vz) = some ze := by kernel_rfl
theorem Qhs : cr QcU QcR (aw vd) = true := by decide +kernel
theorem Qhz : denSs 60 ⟨QcU, aw vd, gl0, QhY, true, false⟩ (bt vd) = some QcN := by kernel_rfl
theorem Qjs : cr Qfh Qfc (aw xf) = true := by decide +kernel
theorem Qke : denSs 60 ⟨Qfh, aw xf, gl0, QlO, true, false⟩ (bt xf) = some QaY := by kernel_rfl
theorem QgU : cr QcC Qcz (aw uq) = true := by decide +kernel
theorem QgX : denSs 60 ⟨QcC, aw uq, gl0, Qhi, true, false⟩ (bt uq) = some Qcx := by kernel_rfl
theorem QhJ : cr Qdo Qdi (aw vq) = true := by decide +kernel
theorem QhU : denSs 60 ⟨Qdo, aw vq, gl0, Qiv, true, false⟩ (bt vq) = some QcY := by kernel_rfl
theorem QiC : cr Qeq Qen (aw wm) = true := by decide +kernel
theorem QiU : denSs 60 ⟨Qeq, aw wm, gl1, Qkn, true, false⟩ (bt wm) = some QdO := by kernel_rfl
theorem QiA : cr Qeo Qel (aw wk) = true := by decide +kernel
theorem QiS : denSs 60 ⟨Qeo, aw wk, gl2, Qkl, true, false⟩ (bt wk) = some QaO := by kernel_rfl
theorem QgO : cr Qcw Qcu (aw um) = true := by decide +kernel
theorem QgQ : denSs 60 ⟨Qcw, aw um, gl3, Qha, true, false⟩ (bt um) = some QaD := by kernel_rfl
theorem QgH : cr Qcq Qco (aw uh) = true := by decide +kernel
theorem QgJ : denSs 60 ⟨Qcq, aw uh, gl4, QgR, true, false⟩ (bt uh) = some QaA := by kernel_rfl
theorem Qhb : cr QcH QcF (aw uu) = true := by decide +kernel
theorem Qhf : denSs 60 ⟨QcH, aw uu, gl0, Qho, true, false⟩ (bt uu) = some QaE := by kernel_rfl
theorem QhI : cr Qdn Qdh (aw vp) = true := by decide +kernel
theorem QhT : denSs 60 ⟨Qdn, aw vp, gl5, Qiu, true, false⟩ (bt vp) = some zd := by kernel_rfl
theorem QgN : cr Qcv Qct (aw ul) = true := by decide +kernel
theorem QgP : denSs 60 ⟨Qcv, aw ul, gl2, QgZ, true, false⟩ (bt ul) = some QaC := by kernel_rfl
theorem QhE : cr Qdj Qdd (aw vh) = true := by decide +kernel
theorem QhP : denSs 60 ⟨Qdj, aw vh, gl0, Qiq, true, false⟩ (bt vh) = some QcX := by kernel_rfl
theorem QgI : cr Qcr Qcp (aw uk) = true := by decide +kernel
theorem QgK : denSs 60 ⟨Qcr, aw uk, gl1, QgS, true, false⟩ (bt uk) = some QaB := by kernel_rfl
theorem Qhc : cr QcI QcG (aw uv) = true := by decide +kernel
theorem Qhg : denSs 60 ⟨QcI, aw uv, gl3, Qhp, true, true⟩ (bt uv) = some yx := by kernel_rfl
theorem QgV : cr QcD QcA (aw ur) = true := by decide +kernel
theorem QgY : denSs 60 ⟨QcD, aw ur, gl4, Qhj, true, true⟩ (bt ur) = some qg := by kernel_rfl
theorem QhH : cr Qdm Qdg (aw vn) = true := by decide +kernel
theorem QhS : denSs 60 ⟨Qdm, aw vn, gl1, Qit, true, false⟩ (bt vn) = some QaI := by kernel_rfl
theorem Qht : cr QcV QcS (aw ve) = true := by decide +kernel
theorem QhA : denSs 60 ⟨QcV, aw ve, gl2, QhZ, true, false⟩ (bt ve) = some QaF := by kernel_rfl
theorem Qie : cr QdE QdC (aw wa) = true := by decide +kernel
theorem Qio : denSs 60 ⟨QdE, aw wa, gl5, Qjb, true, true⟩ (bt wa) = some zf := by kernel_rfl
theorem QhG : cr Qdl Qdf (aw vm) = true := by decide +kernel
theorem QhR : denSs 60 ⟨Qdl, aw vm, gl6, Qis, true, true⟩ (bt vm) = some zc := by kernel_rfl
theorem QgC : cr Qcm Qck (aw ue) = true := by decide +kernel
theorem QgF : denSs 60 ⟨Qcm, aw ue, gl0, QgL, true, false⟩ (bt ue) = some Qaz := by kernel_rfl
theorem Qhk : cr QcM QcL (aw uy) = true := by decide +kernel
theorem Qhn : denSs 60 ⟨QcM, aw uy, gl1, QhC, true, false⟩ (bt uy) = some yy := by kernel_rfl
theorem QhF : cr Qdk Qde (aw vk) = true := by decide +kernel
theorem QhQ : denSs 60 ⟨Qdk, aw vk, gl7, Qir, true, true⟩ (bt vk) = some zb := by kernel_rfl
theorem QgT : cr QcB Qcy (aw uo) = true := by decide +kernel
theorem QgW : denSs 60 ⟨QcB, aw uo, gl8, Qhh, true, true⟩ (bt uo) = some qf := by kernel_rfl
theorem Qjo : cr Qfd QeY (aw wz) = true := by decide +kernel
theorem Qka : denSs 60 ⟨Qfd, aw wz, gl9, QlK, true, true⟩ (bt wz) = some zm := by kernel_rfl
theorem Qjq : cr Qff Qfa (aw xb) = true := by decide +kernel
theorem Qkc : denSs 60 ⟨Qff, aw xb, gl0, QlM, false, true⟩ (bt xb) = some Qey := by kernel_rfl
theorem QiB : cr Qep Qem (aw wl) = true := by decide +kernel
theorem QiT : denSs 60 ⟨Qep, aw wl, ym, Qkm, true, true⟩ (bt wl) = some wn := by kernel_rfl
theorem sc_law : cr N_law Qcj (aw sw) = true := by decide +kernel
theorem de_law : denSs 60 ⟨N_law, aw sw, gl11, M_law, true, true⟩ (bt sw) = some QbU := by kernel_rfl
structure Tx (P : Program) (w : World) (K : PySem.W.Frag) (mg : Str->Option Value) : Prop where
 e_BadFact : ∃ cv vc, ExcOk K mg "BadFact" true wj cv vc
 e_BadRule : ∃ cv vc, ExcOk K mg "BadRule" true wg cv vc
 e_BadWidth : ∃ cv vc, ExcOk K mg "BadWidth" true vw cv vc
 e_FactError : ∃ cv vc, ExcOk K mg "FactError" true nh cv vc
 e_NoFact : ∃ cv vc, ExcOk K mg "NoFact" true ww cv vc
 e_NoText : ∃ cv vc, ExcOk K mg "NoText" true wv cv vc
 e_Ringed : ∃ cv vc, ExcOk K mg "Ringed" true wu cv vc
 e_TooMany : ∃ cv vc, ExcOk K mg "TooMany" true wf cv vc
 e_Unbound : ∃ cv vc, ExcOk K mg "Unbound" true we cv vc
 e_ValueError : ∃ cv vc, ExcOk K mg "ValueError" false va cv vc
 k_MOST_FILLS : ∃ u, mg "MOST_FILLS" = some u/\ConK K u ow
 k_MOST_SIGNS : ∃ u, mg "MOST_SIGNS" = some u/\ConK K u za
 k_SMALL_LETTERS : ∃ u, mg "SMALL_LETTERS" = some u/\ConK K u yt
 k_GREAT_LETTERS : ∃ u, mg "GREAT_LETTERS" = some u/\ConK K u yu
 k_PATTERN_PARTS : KDs P w K mg "PATTERN_PARTS" [] oo
 b_all : mg "all" = none
 b_dict : mg "dict" = none
 b_int : mg "int" = none
 b_isinstance : mg "isinstance" = none
 b_len : mg "len" = none
 b_list : mg "list" = none
 b_range : mg "range" = none
 b_str : mg "str" = none
 b_tuple : mg "tuple" = none
 b_zip : mg "zip" = none
 d_l_cell : DefAt K mg "_law_cell" xc Qfb
 d_l_word : DefAt K mg "_law_word" xa QeZ
 d_grounds_in : DefAt K mg "grounds_in" vf QcT
 d_facts_of_grounds : DefAt K mg "facts_of_grounds" uf Qcl
 d_rests_on : DefAt K mg "rests_on" vz QdB
 d_rule_named : DefAt K mg "rule_named" vd QcR
 d_filled : DefAt K mg "filled" xf Qfc
 d_is_short_text : DefAt K mg "is_short_text" uq Qcz
 d_all_small : DefAt K mg "all_small" vq Qdi
 d_is_free : DefAt K mg "is_free" wm Qen
 d_matched : DefAt K mg "matched" wk Qel
 d_fill_by_ground : DefAt K mg "fill_by_ground" um Qcu
 d_fill_by_grounds : DefAt K mg "fill_by_grounds" uh Qco
 d_ground_is_so : DefAt K mg "ground_is_so" uu QcF
 d_by_stands : DefAt K mg "by_stands" vp Qdh
 d_settled_places : DefAt K mg "settled_places" ul Qct
 d_values_at : DefAt K mg "values_at" vh Qdd
 d_facts_by_values : DefAt K mg "facts_by_values" uk Qcp
 d_fills_by_has : DefAt K mg "fills_by_has" uv QcG
 d_fills_by_part : DefAt K mg "fills_by_part" ur QcA
 d_ground_of : DefAt K mg "ground_of" vn Qdg
 d_grounds_of : DefAt K mg "grounds_of" ve QcS
 d_fills_of : DefAt K mg "fills_of" wa QdC
 d_groups_of : DefAt K mg "groups_of" vm Qdf
 d_grounds_of_group : DefAt K mg "grounds_of_group" ue Qck
 d_group_tells : DefAt K mg "group_tells" uy QcL
 d_of_stands : DefAt K mg "of_stands" vk Qde
 d_reason_stands : DefAt K mg "reason_stands" uo Qcy
 d_stands : DefAt K mg "stands" wz QeY
 d_l_said : DefAt K mg "_law_said" xb Qfa
 d_l_found : DefAt K mg "_law_found" wl Qem
 d_law : DefAt K mg "law" sw Qcj
section
variable {P : Program} {w : World} {K : PySem.W.Frag} {mg : Str->Option Value} {base : Heap}
theorem tx0 (t : Tx P w K mg) : TX P w K mg base gl0 0 := by
 obtain ⟨u_MOST_FILLS, m_MOST_FILLS, h_MOST_FILLS⟩ := t.k_MOST_FILLS
 obtain ⟨u_MOST_SIGNS, m_MOST_SIGNS, h_MOST_SIGNS⟩ := t.k_MOST_SIGNS
 obtain ⟨u_SMALL_LETTERS, m_SMALL_LETTERS, h_SMALL_LETTERS⟩ := t.k_SMALL_LETTERS
 obtain ⟨u_GREAT_LETTERS, m_GREAT_LETTERS, h_GREAT_LETTERS⟩ := t.k_GREAT_LETTERS
 exact (TX.exc1 (TX.exc1 (TX.exc1 (TX.exc1 (TX.exc1 (TX.exc1 (TX.exc1 (TX.exc1 (TX.exc1 (TX.exc1 (TX.con1 (TX.con1 (TX.con1 (TX.con1 (TX.dcon1 (TX.blt1 (TX.blt1 (TX.blt1 (TX.blt1 (TX.blt1 (TX.blt1 (TX.blt1 (TX.blt1 (TX.blt1 (TX.blt1 TX.nil t.b_zip) t.b_tuple) t.b_str) t.b_range) t.b_list) t.b_len) t.b_isinstance) t.b_int) t.b_dict) t.b_all) t.k_PATTERN_PARTS) m_GREAT_LETTERS h_GREAT_LETTERS) m_SMALL_LETTERS h_SMALL_LETTERS) m_MOST_SIGNS h_MOST_SIGNS) m_MOST_FILLS h_MOST_FILLS) t.e_ValueError) t.e_Unbound) t.e_TooMany) t.e_Ringed) t.e_NoText) t.e_NoFact) t.e_FactError) t.e_BadWidth) t.e_BadRule) t.e_BadFact)
theorem tx1 (t : Tx P w K mg) : TX P w K mg base gl1 3 := by
 have T0 : TX P w K mg base gl0 0 := tx0 t
 have T : TX P w K mg base gl0 0 := T0.mono (by decide)
 exact (TX.consX (TX.cons (TX.cons (TX.cons (TX.cons (TX.cons (TX.cons (TX.cons (TX.cons (TX.cons (TX.cons (T.mono (by decide)) (TX.fnOf (fz := 0) T t.d_l_cell Qjr Qkd)) (TX.fnOf (fz := 0) T t.d_l_word Qjp Qkb)) (TX.fnOf (fz := 1) T t.d_grounds_in Qhu QhB)) (TX.fnOf (fz := 0) T t.d_rule_named Qhs Qhz)) (TX.fnOf (fz := 0) T t.d_filled Qjs Qke)) (TX.fnOf (fz := 0) T t.d_is_short_text QgU QgX)) (TX.fnOf (fz := 0) T t.d_all_small QhJ QhU)) (TX.fnOf (fz := 0) T t.d_ground_is_so Qhb Qhf)) (TX.fnOf (fz := 0) T t.d_values_at QhE QhP)) (TX.fnOf (fz := 0) T t.d_grounds_of_group QgC QgF)) (TX.fxOf (fz := 0) T t.d_l_said Qjq Qkc))
theorem tx2 (t : Tx P w K mg) : TX P w K mg base gl2 6 := by
 have T0 : TX P w K mg base gl1 3 := tx1 t
 have T : TX P w K mg base gl1 3 := T0.mono (by decide)
 exact (TX.cons (TX.cons (TX.cons (TX.cons (TX.cons (T.mono (by decide)) (TX.fnOf (fz := 1) T t.d_facts_of_grounds QgD QgG)) (TX.fnOf (fz := 0) T t.d_is_free QiC QiU)) (TX.fnOf (fz := 1) T t.d_facts_by_values QgI QgK)) (TX.fnOf (fz := 0) T t.d_ground_of QhH QhS)) (TX.fnOf (fz := 0) T t.d_group_tells Qhk Qhn))
theorem tx3 (t : Tx P w K mg) : TX P w K mg base gl3 9 := by
 have T0 : TX P w K mg base gl2 6 := tx2 t
 have T : TX P w K mg base gl2 6 := T0.mono (by decide)
 exact (TX.cons (TX.cons (TX.cons (TX.cons (T.mono (by decide)) (TX.fnOf (fz := 0) T t.d_rests_on Qid Qin)) (TX.fnOf (fz := 1) T t.d_matched QiA QiS)) (TX.fnOf (fz := 0) T t.d_settled_places QgN QgP)) (TX.fnOf (fz := 0) T t.d_grounds_of Qht QhA))
theorem tx4 (t : Tx P w K mg) : TX P w K mg base gl4 12 := by
 have T0 : TX P w K mg base gl3 9 := tx3 t
 have T : TX P w K mg base gl3 9 := T0.mono (by decide)
 exact (TX.consX (TX.cons (T.mono (by decide)) (TX.fnOf (fz := 0) T t.d_fill_by_ground QgO QgQ)) (TX.fxOf (fz := 1) T t.d_fills_by_has Qhc Qhg))
theorem tx5 (t : Tx P w K mg) : TX P w K mg base gl5 15 := by
 have T0 : TX P w K mg base gl4 12 := tx4 t
 have T : TX P w K mg base gl4 12 := T0.mono (by decide)
 exact (TX.consX (TX.cons (T.mono (by decide)) (TX.fnOf (fz := 0) T t.d_fill_by_grounds QgH QgJ)) (TX.fxOf (fz := 0) T t.d_fills_by_part QgV QgY))
theorem tx6 (t : Tx P w K mg) : TX P w K mg base gl6 18 := by
 have T0 : TX P w K mg base gl5 15 := tx5 t
 have T : TX P w K mg base gl5 15 := T0.mono (by decide)
 exact (TX.consX (TX.cons (T.mono (by decide)) (TX.fnOf (fz := 0) T t.d_by_stands QhI QhT)) (TX.fxOf (fz := 0) T t.d_fills_of Qie Qio))
theorem tx7 (t : Tx P w K mg) : TX P w K mg base gl7 21 := by
 have T0 : TX P w K mg base gl6 18 := tx6 t
 have T : TX P w K mg base gl6 18 := T0.mono (by decide)
 exact (TX.consX (T.mono (by decide)) (TX.fxOf (fz := 1) T t.d_groups_of QhG QhR))
theorem tx8 (t : Tx P w K mg) : TX P w K mg base gl8 24 := by
 have T0 : TX P w K mg base gl7 21 := tx7 t
 have T : TX P w K mg base gl7 21 := T0.mono (by decide)
 exact (TX.consX (T.mono (by decide)) (TX.fxOf (fz := 0) T t.d_of_stands QhF QhQ))
theorem tx9 (t : Tx P w K mg) : TX P w K mg base gl9 27 := by
 have T0 : TX P w K mg base gl8 24 := tx8 t
 have T : TX P w K mg base gl8 24 := T0.mono (by decide)
 exact (TX.consX (T.mono (by decide)) (TX.fxOf (fz := 0) T t.d_reason_stands QgT QgW))
theorem tx10 (t : Tx P w K mg) : TX P w K mg base ym 30 := by
 have T0 : TX P w K mg base gl9 27 := tx9 t
 have T : TX P w K mg base gl9 27 := T0.mono (by decide)
 exact (TX.consX (T.mono (by decide)) (TX.fxOf (fz := 1) T t.d_stands Qjo Qka))
theorem tx11 (t : Tx P w K mg) : TX P w K mg base gl11 33 := by
 have T0 : TX P w K mg base ym 30 := tx10 t
 have T : TX P w K mg base ym 30 := T0.mono (by decide)
 exact (TX.consX (T.mono (by decide)) (TX.fxOf (fz := 0) T t.d_l_found QiB QiT))
theorem law_ok (t : Tx P w K mg) {f : Addr} {fd : FuncData} (F : Fun K "law" "law" sw f fd) : FnX true P w K mg base 36 f fd Qcj (SpX K 1 op_law) :=
 QfN (fz := 0) (tx11 t : TX P w K mg base gl11 33) F sc_law de_law
end
theorem all_mk {l : PySem.W.OpenLaw} {w : World} {K : PySem.W.Frag} {h : Heap} {mg : Str->Option Value} {fa : Addr} (X : K.In h) (G : h.Ns mainGlobals mg) (hfa : mg "law" = some (.ref fa))
  {C_FactError C_BadFact C_BadRule C_BadWidth C_Unbound C_Ringed C_TooMany C_NoFact C_NoText a_PATTERN_PARTS : Addr} {o_PATTERN_PARTS : Option Addr} {s_lPATTERN_PARTS : Array (Option Value)}
  {t_MOST_FILLS : Tok} {t_MOST_SIGNS : Tok} {t_SMALL_LETTERS : Tok} {t_GREAT_LETTERS : Tok} {t0_PATTERN_PARTS t1_PATTERN_PARTS : Tok} {n_PATTERN_PARTS : Nat}
  (cl_FactError : ClsIn K "FactError" C_FactError)
  (cl_BadFact : ClsIn K "BadFact" C_BadFact)
  (cl_BadRule : ClsIn K "BadRule" C_BadRule)
  (cl_BadWidth : ClsIn K "BadWidth" C_BadWidth)
  (cl_Unbound : ClsIn K "Unbound" C_Unbound)
  (cl_Ringed : ClsIn K "Ringed" C_Ringed)
  (cl_TooMany : ClsIn K "TooMany" C_TooMany)
  (cl_NoFact : ClsIn K "NoFact" C_NoFact)
  (cl_NoText : ClsIn K "NoText" C_NoText)
  (s_TooMany_BadFact : PySem.W.subIn K (.ref C_TooMany) (.ref C_BadFact) = some false)
  (s_TooMany_BadRule : PySem.W.subIn K (.ref C_TooMany) (.ref C_BadRule) = some false)
  (s_TooMany_BadWidth : PySem.W.subIn K (.ref C_TooMany) (.ref C_BadWidth) = some false)
  (s_TooMany_FactError : PySem.W.subIn K (.ref C_TooMany) (.ref C_FactError) = some true)
  (s_TooMany_NoFact : PySem.W.subIn K (.ref C_TooMany) (.ref C_NoFact) = some false)
  (s_TooMany_NoText : PySem.W.subIn K (.ref C_TooMany) (.ref C_NoText) = some false)
  (s_TooMany_Ringed : PySem.W.subIn K (.ref C_TooMany) (.ref C_Ringed) = some false)
  (s_TooMany_Unbound : PySem.W.subIn K (.ref C_TooMany) (.ref C_Unbound) = some false)
  (nb_ValueError : PySem.W.nsIn K mainGlobals "ValueError" = some none)
  (sbb_ValueError : PySem.W.subIn K (.type "ValueError") (.type "BaseException") = some true)
  (s_TooMany_ValueError : PySem.W.subIn K (.ref C_TooMany) (.type "ValueError") = some true)
  (k1_MOST_FILLS : PySem.W.nsIn K mainGlobals "MOST_FILLS" = some (some (Value.int 2000 t_MOST_FILLS)))
  (k1_MOST_SIGNS : PySem.W.nsIn K mainGlobals "MOST_SIGNS" = some (some (Value.int 8 t_MOST_SIGNS)))
  (k1_SMALL_LETTERS : PySem.W.nsIn K mainGlobals "SMALL_LETTERS" = some (some (Value.str "abcdefghijklmnopqrstuvwxyz" t_SMALL_LETTERS)))
  (k1_GREAT_LETTERS : PySem.W.nsIn K mainGlobals "GREAT_LETTERS" = some (some (Value.str "ABCDEFGHIJKLMNOPQRSTUVWXYZ" t_GREAT_LETTERS)))
  (k1_PATTERN_PARTS : PySem.W.nsIn K mainGlobals "PATTERN_PARTS" = some (some (.ref a_PATTERN_PARTS)))
  (k2_PATTERN_PARTS : K.lookup a_PATTERN_PARTS = some ⟨.type "tuple", o_PATTERN_PARTS, .seq (List.toArray [Value.str "has" t0_PATTERN_PARTS, Value.str "not" t1_PATTERN_PARTS]) n_PATTERN_PARTS, s_lPATTERN_PARTS⟩)
  (b_all : PySem.W.nsIn K mainGlobals "all" = some none)
  (b_dict : PySem.W.nsIn K mainGlobals "dict" = some none)
  (b_int : PySem.W.nsIn K mainGlobals "int" = some none)
  (b_isinstance : PySem.W.nsIn K mainGlobals "isinstance" = some none)
  (b_len : PySem.W.nsIn K mainGlobals "len" = some none)
  (b_list : PySem.W.nsIn K mainGlobals "list" = some none)
  (b_range : PySem.W.nsIn K mainGlobals "range" = some none)
  (b_str : PySem.W.nsIn K mainGlobals "str" = some none)
  (b_tuple : PySem.W.nsIn K mainGlobals "tuple" = some none)
  (b_zip : PySem.W.nsIn K mainGlobals "zip" = some none)
  (d_l_cell : DIn K "_law_cell" xc)
  (d_l_word : DIn K "_law_word" xa)
  (d_grounds_in : DIn K "grounds_in" vf)
  (d_facts_of_grounds : DIn K "facts_of_grounds" uf)
  (d_rests_on : DIn K "rests_on" vz)
  (d_rule_named : DIn K "rule_named" vd)
  (d_filled : DIn K "filled" xf)
  (d_is_short_text : DIn K "is_short_text" uq)
  (d_all_small : DIn K "all_small" vq)
  (d_is_free : DIn K "is_free" wm)
  (d_matched : DIn K "matched" wk)
  (d_fill_by_ground : DIn K "fill_by_ground" um)
  (d_fill_by_grounds : DIn K "fill_by_grounds" uh)
  (d_ground_is_so : DIn K "ground_is_so" uu)
  (d_by_stands : DIn K "by_stands" vp)
  (d_settled_places : DIn K "settled_places" ul)
  (d_values_at : DIn K "values_at" vh)
  (d_facts_by_values : DIn K "facts_by_values" uk)
  (d_fills_by_has : DIn K "fills_by_has" uv)
  (d_fills_by_part : DIn K "fills_by_part" ur)
  (d_ground_of : DIn K "ground_of" vn)
  (d_grounds_of : DIn K "grounds_of" ve)
  (d_fills_of : DIn K "fills_of" wa)
  (d_groups_of : DIn K "groups_of" vm)
  (d_grounds_of_group : DIn K "grounds_of_group" ue)
  (d_group_tells : DIn K "group_tells" uy)
  (d_of_stands : DIn K "of_stands" vk)
  (d_reason_stands : DIn K "reason_stands" uo)
  (d_stands : DIn K "stands" wz)
  (d_l_said : DIn K "_law_said" xb)
  (d_l_found : DIn K "_law_found" wl)
  (d_law : DIn K "law" sw)
  : ∃ fd : FuncData, (∀ (s : Shared) (v : Value), BindsTo s fd ⟨[v], []⟩ [("_law_script", v)])/\∀ base : Heap, K.In base->base.Ns mainGlobals mg->FnX true l.prog w K mg base 36 fa fd ["_law_script"] (SpX K 1 op_law) := by
 have ee_BadFact : ∃ cv vc, ExcOk K mg "BadFact" true wj cv vc := mo (PySem.W.mg_of X G cl_BadFact.ns) cl_BadFact.k.cls (show cy K (.ref C_BadFact) wj from (cy.cons cl_TooMany (cl_TooMany.pair cl_BadFact s_TooMany_BadFact) cy.nil))
 have ee_BadRule : ∃ cv vc, ExcOk K mg "BadRule" true wg cv vc := mo (PySem.W.mg_of X G cl_BadRule.ns) cl_BadRule.k.cls (show cy K (.ref C_BadRule) wg from (cy.cons cl_TooMany (cl_TooMany.pair cl_BadRule s_TooMany_BadRule) cy.nil))
 have ee_BadWidth : ∃ cv vc, ExcOk K mg "BadWidth" true vw cv vc := mo (PySem.W.mg_of X G cl_BadWidth.ns) cl_BadWidth.k.cls (show cy K (.ref C_BadWidth) vw from (cy.cons cl_TooMany (cl_TooMany.pair cl_BadWidth s_TooMany_BadWidth) cy.nil))
 have ee_FactError : ∃ cv vc, ExcOk K mg "FactError" true nh cv vc := mo (PySem.W.mg_of X G cl_FactError.ns) cl_FactError.k.cls (show cy K (.ref C_FactError) nh from (cy.cons cl_TooMany (cl_TooMany.pair cl_FactError s_TooMany_FactError) cy.nil))
 have ee_NoFact : ∃ cv vc, ExcOk K mg "NoFact" true ww cv vc := mo (PySem.W.mg_of X G cl_NoFact.ns) cl_NoFact.k.cls (show cy K (.ref C_NoFact) ww from (cy.cons cl_TooMany (cl_TooMany.pair cl_NoFact s_TooMany_NoFact) cy.nil))
 have ee_NoText : ∃ cv vc, ExcOk K mg "NoText" true wv cv vc := mo (PySem.W.mg_of X G cl_NoText.ns) cl_NoText.k.cls (show cy K (.ref C_NoText) wv from (cy.cons cl_TooMany (cl_TooMany.pair cl_NoText s_TooMany_NoText) cy.nil))
 have ee_Ringed : ∃ cv vc, ExcOk K mg "Ringed" true wu cv vc := mo (PySem.W.mg_of X G cl_Ringed.ns) cl_Ringed.k.cls (show cy K (.ref C_Ringed) wu from (cy.cons cl_TooMany (cl_TooMany.pair cl_Ringed s_TooMany_Ringed) cy.nil))
 have ee_TooMany : ∃ cv vc, ExcOk K mg "TooMany" true wf cv vc := mo (PySem.W.mg_of X G cl_TooMany.ns) cl_TooMany.k.cls (show cy K (.ref C_TooMany) wf from (cy.cons cl_TooMany (cl_TooMany.pair cl_TooMany cl_TooMany.rf) cy.nil))
 have ee_Unbound : ∃ cv vc, ExcOk K mg "Unbound" true we cv vc := mo (PySem.W.mg_of X G cl_Unbound.ns) cl_Unbound.k.cls (show cy K (.ref C_Unbound) we from (cy.cons cl_TooMany (cl_TooMany.pair cl_Unbound s_TooMany_Unbound) cy.nil))
 have ee_ValueError : ∃ cv vc, ExcOk K mg "ValueError" false va cv vc := exc_blt (PySem.W.mg_none_of X G nb_ValueError) (by decide +kernel) (show cy K (.type "ValueError") va from (cy.cons cl_TooMany (cl_TooMany.blt Qhd sbb_ValueError s_TooMany_ValueError) cy.nil))
 have kk_MOST_FILLS : ∃ u, mg "MOST_FILLS" = some u/\ConK K u ow := ⟨_, PySem.W.mg_of X G k1_MOST_FILLS, .int _ _⟩
 have kk_MOST_SIGNS : ∃ u, mg "MOST_SIGNS" = some u/\ConK K u za := ⟨_, PySem.W.mg_of X G k1_MOST_SIGNS, .int _ _⟩
 have kk_SMALL_LETTERS : ∃ u, mg "SMALL_LETTERS" = some u/\ConK K u yt := ⟨_, PySem.W.mg_of X G k1_SMALL_LETTERS, .str _ _⟩
 have kk_GREAT_LETTERS : ∃ u, mg "GREAT_LETTERS" = some u/\ConK K u yu := ⟨_, PySem.W.mg_of X G k1_GREAT_LETTERS, .str _ _⟩
 have kk_PATTERN_PARTS : KDs l.prog w K mg "PATTERN_PARTS" [] oo := Qlo (PySem.W.mg_of X G k1_PATTERN_PARTS) k2_PATTERN_PARTS (by show 2<=sizeLine; decide) (.cons ⟨_, rfl⟩ (.cons ⟨_, rfl⟩ (.nil)))
 have t : Tx l.prog w K mg := ⟨ee_BadFact, ee_BadRule, ee_BadWidth, ee_FactError, ee_NoFact, ee_NoText, ee_Ringed, ee_TooMany, ee_Unbound, ee_ValueError, kk_MOST_FILLS, kk_MOST_SIGNS, kk_SMALL_LETTERS, kk_GREAT_LETTERS, kk_PATTERN_PARTS, PySem.W.mg_none_of X G b_all, PySem.W.mg_none_of X G b_dict, PySem.W.mg_none_of X G b_int, PySem.W.mg_none_of X G b_isinstance, PySem.W.mg_none_of X G b_len, PySem.W.mg_none_of X G b_list, PySem.W.mg_none_of X G b_range, PySem.W.mg_none_of X G b_str, PySem.W.mg_none_of X G b_tuple, PySem.W.mg_none_of X G b_zip, (d_l_cell.at_ X G fun _ _ _ _ _ _ us hl => match us, hl with | [_, _], _ => rfl), (d_l_word.at_ X G fun _ _ _ _ _ _ us hl => match us, hl with | [_, _], _ => rfl), (d_grounds_in.at_ X G fun _ _ _ _ _ _ us hl => match us, hl with | [_], _ => rfl), (d_facts_of_grounds.at_ X G fun _ _ _ _ _ _ us hl => match us, hl with | [_, _], _ => rfl), (d_rests_on.at_ X G fun _ _ _ _ _ _ us hl => match us, hl with | [_], _ => rfl), (d_rule_named.at_ X G fun _ _ _ _ _ _ us hl => match us, hl with | [_, _, _], _ => rfl), (d_filled.at_ X G fun _ _ _ _ _ _ us hl => match us, hl with | [_, _], _ => rfl), (d_is_short_text.at_ X G fun _ _ _ _ _ _ us hl => match us, hl with | [_], _ => rfl), (d_all_small.at_ X G fun _ _ _ _ _ _ us hl => match us, hl with | [_], _ => rfl), (d_is_free.at_ X G fun _ _ _ _ _ _ us hl => match us, hl with | [_], _ => rfl), (d_matched.at_ X G fun _ _ _ _ _ _ us hl => match us, hl with | [_, _, _], _ => rfl), (d_fill_by_ground.at_ X G fun _ _ _ _ _ _ us hl => match us, hl with | [_, _, _], _ => rfl), (d_fill_by_grounds.at_ X G fun _ _ _ _ _ _ us hl => match us, hl with | [_, _], _ => rfl), (d_ground_is_so.at_ X G fun _ _ _ _ _ _ us hl => match us, hl with | [_, _], _ => rfl), (d_by_stands.at_ X G fun _ _ _ _ _ _ us hl => match us, hl with | [_, _, _, _], _ => rfl), (d_settled_places.at_ X G fun _ _ _ _ _ _ us hl => match us, hl with | [_, _], _ => rfl), (d_values_at.at_ X G fun _ _ _ _ _ _ us hl => match us, hl with | [_, _], _ => rfl), (d_facts_by_values.at_ X G fun _ _ _ _ _ _ us hl => match us, hl with | [_, _, _], _ => rfl), (d_fills_by_has.at_ X G fun _ _ _ _ _ _ us hl => match us, hl with | [_, _, _], _ => rfl), (d_fills_by_part.at_ X G fun _ _ _ _ _ _ us hl => match us, hl with | [_, _, _], _ => rfl), (d_ground_of.at_ X G fun _ _ _ _ _ _ us hl => match us, hl with | [_, _], _ => rfl), (d_grounds_of.at_ X G fun _ _ _ _ _ _ us hl => match us, hl with | [_, _], _ => rfl), (d_fills_of.at_ X G fun _ _ _ _ _ _ us hl => match us, hl with | [_, _], _ => rfl), (d_groups_of.at_ X G fun _ _ _ _ _ _ us hl => match us, hl with | [_, _], _ => rfl), (d_grounds_of_group.at_ X G fun _ _ _ _ _ _ us hl => match us, hl with | [_], _ => rfl), (d_group_tells.at_ X G fun _ _ _ _ _ _ us hl => match us, hl with | [_, _, _, _, _], _ => rfl), (d_of_stands.at_ X G fun _ _ _ _ _ _ us hl => match us, hl with | [_, _, _, _, _], _ => rfl), (d_reason_stands.at_ X G fun _ _ _ _ _ _ us hl => match us, hl with | [_, _, _, _, _], _ => rfl), (d_stands.at_ X G fun _ _ _ _ _ _ us hl => match us, hl with | [_, _, _, _], _ => rfl), (d_l_said.at_ X G fun _ _ _ _ _ _ us hl => match us, hl with | [_], _ => rfl), (d_l_found.at_ X G fun _ _ _ _ _ _ us hl => match us, hl with | [_, _, _, _], _ => rfl), (d_law.at_ X G fun _ _ _ _ _ _ us hl => match us, hl with | [_], _ => rfl)⟩
 exact d_law.law X G hfa (fun _ _ _ _ _ _ s v => .of_eq rfl) fun fd F base _ _ => law_ok t F
theorem dq {r : Run} {Γ : Ga} {st : S} {w : W} (h : r Γ st = .ok w st) : am (ba r) ao Γ st = .ok (.rt w) st := by
 rw [ay, xy, h]; rfl
theorem Qdy {re : Run} {Γc : Ga} {st : S} (f : W->W) : ∀ (items acc : List W), (∀ x ∈ items, re (some x :: Γc) st = .ok (f x) st)->compGo (af (.bl true)) re Γc items acc st = .ok (acc ++ items.map f) st
 | [], acc, _ => by simp [compGo]
 | x :: xs, acc, h => by
  show ((af (.bl true) (some x :: Γc) st).calm.bind fun b st1 => match b with
   | .bl true => (re (some x :: Γc) st1).calm.bind fun y st2 => compGo (af (.bl true)) re Γc xs (acc ++ [y]) st2
   | .bl false => compGo (af (.bl true)) re Γc xs acc st1
   | _ => .stuck) = _
  show ((re (some x :: Γc) st).calm.bind fun y st2 => compGo (af (.bl true)) re Γc xs (acc ++ [y]) st2) = _
  rw [h x QlU, rq, ad, Qdy f xs (acc ++ [f x]) fun y hy => h y (QlZ _ hy)]
  simp
theorem xi {src : Src} {cap : List Nat} {re : Run} {Γ : Ga} {st : S} {items : List W} (f : W->W) (hs : src Γ st = .ok items st) (hl : items.length < sizeLine) (h : ∀ x ∈ items, re (some x :: cw cap Γ) st = .ok (f x) st) :
  bx false src cap (af (.bl true)) re Γ st = .ok (.lst (items.map f)) st := by
 unfold bx
 rw [hs, ad, Qmo hl, Qdy f items [] h, ad, List.nil_append]
 exact kq _ (by rw [QlY]; exact Nat.le_of_lt hl)
theorem QaT {re : Run} {Γc : Ga} {st : S} (P : W->Prop) : ∀ (items acc : List W), (∀ x ∈ items, ∃ y, P y/\re (some x :: Γc) st = .ok y st)->∃ ys : List W, ys.length = items.length/\(∀ y ∈ ys, P y)/\compGo (af (.bl true)) re Γc items acc st = .ok (acc ++ ys) st
 | [], acc, _ => ⟨[], rfl, (fun y h => by cases h), by simp [compGo]⟩
 | x :: xs, acc, h => by
  obtain ⟨y, hy, e⟩ := h x QlU
  obtain ⟨ys, h1, h2, h3⟩ := QaT P xs (acc ++ [y]) fun z hz => h z (QlZ _ hz)
  refine ⟨y :: ys, by rw [Qmg, Qmg, h1], fun z hz => ?_, ?_⟩
  ·rcases List.mem_cons.mp hz with rfl | hz
   ·exact hy
   ·exact h2 z hz
  ·show ((re (some x :: Γc) st).calm.bind fun y st2 => compGo (af (.bl true)) re Γc xs (acc ++ [y]) st2) = _
   rw [e, rq, ad, h3]
   simp
theorem comp_ex {src : Src} {cap : List Nat} {re : Run} {Γ : Ga} {st : S} {items : List W} (P : W->Prop) (hs : src Γ st = .ok items st) (hl : items.length<=1000) (h : ∀ x ∈ items, ∃ y, P y/\re (some x :: cw cap Γ) st = .ok y st) :
  ∃ ys : List W, ys.length = items.length/\(∀ y ∈ ys, P y)/\bx false src cap (af (.bl true)) re Γ st = .ok (.lst ys) st := by
 obtain ⟨ys, h1, h2, h3⟩ := QaT P items [] h
 refine ⟨ys, h1, h2, ?_⟩
 unfold bx
 rw [hs, ad, Qmo (Qmm hl (by decide)), h3, ad, List.nil_append]
 exact kq _ (by rw [h1]; exact ig hl)
theorem xl (st : S) (a b : MO) : (st.new a).put st.nxt b = st.new b := by
 unfold S.put S.new
 congr 1
 funext m
 by_cases h : m = st.nxt <;> simp [h]
theorem io (st : S) (a : MO) : (st.new a).mu st.nxt = some a := Qmo rfl
theorem je (st : S) (a : MO) : ∀ n, n < st.nxt->(st.new a).mu n = st.mu n := fun n h => Qmp (Qme h)
theorem QaL {n : Nat} {w : W} (h : w ∈ fu 0 n) : ∃ k : Nat, k < n/\w = .int k := by
 unfold fu at h
 obtain ⟨i, hi, rfl⟩ := List.mem_map.mp h
 exact ⟨i, List.mem_range.mp hi, by rw [Int.zero_add]⟩
theorem wc (n : Nat) : (fu 0 n).length = n := by unfold fu; rw [QlY, List.length_range]
theorem Qje (zs : List Str) : jw (zs.map W.str) = some zs := by
 induction zs with
 | nil => rfl
 | cons z zs ih => show (jw (zs.map W.str)).map (z :: ·) = _; rw [ih]; rfl
theorem pe (i : Int) (k : Int) (h : 0 < k) : 0<=i % k/\i % k < k := ⟨Int.emod_nonneg i (by omega), Int.emod_lt_of_pos i h⟩
theorem cp_mk (cs : List Nat) : cp ⟨cs.toArray⟩ = cs := by unfold cp; simp
theorem len_mk (cs : List Nat) : (⟨cs.toArray⟩ : Str).length = cs.length := by rw [<-yb, cp_mk]
theorem QiQ (st : S) (ws : List W) : eo (st.new (.lst ws)) (.ref st.nxt) = some ws := by
 show MO.items ((st.new (.lst ws)).mu st.nxt) = _
 rw [io]; rfl
theorem QeP (k : ar) (ks : List ar) : oi k ks = true ↔ k ∈ ks := by
 induction ks with
 | nil => simp [oi]
 | cons j ks ih => simp [oi]; exact ⟨fun h => h.imp Eq.symm id, fun h => h.imp Eq.symm id⟩
theorem QaZ {ks : List ar} {vs : List W} {k : ar} {v : W} (h : k ∉ ks) : dl ks vs k v = (ks ++ [k], vs ++ [v]) := by
 unfold dl
 rw [Qmp (fun z => h ((QeP k ks).mp z))]
theorem cut1 (x : W) (xs : List W) : gp (x :: xs) (some 1) none = xs := by
 unfold gp
 rw [show (some (1 : Int)) = some ((1 : Nat) : Int) from rfl, HT.sIx_nat, HT.sIx_none, Qmg, Nat.min_eq_left (show 1<=xs.length + 1 by omega), List.drop_succ_cons, List.drop_zero]
 exact List.take_of_length_le (by omega)
section
variable {op : OpN} {Γ : Ga} {st s' : S} {a b c d : Run} {x y z u w' : W}
theorem ph (ha : a Γ st = .ok x st) (h : op [x] st = .ok w' s') : runN (ae a al) (ax op) Γ st = .ok w' s' := by
 rw [ft, bd, ha, ad, bn, ad, ad, wt, h]; rfl
theorem iz (ha : a Γ st = .ok x st) (hb : b Γ st = .ok y st) (h : op [x, y] st = .ok w' s') : runN (ae a (ae b al)) (ax op) Γ st = .ok w' s' := by
 rw [ft, bd, ha, ad, bd, hb, ad, bn, ad, ad, ad, wt, h]; rfl
theorem sv (ha : a Γ st = .ok x st) (hb : b Γ st = .ok y st) (hc : c Γ st = .ok z st) (h : op [x, y, z] st = .ok w' s') : runN (ae a (ae b (ae c al))) (ax op) Γ st = .ok w' s' := by
 rw [ft, bd, ha, ad, bd, hb, ad, bd, hc, ad, bn, ad, ad, ad, ad, wt, h]; rfl
theorem callN4 (ha : a Γ st = .ok x st) (hb : b Γ st = .ok y st) (hc : c Γ st = .ok z st) (hd : d Γ st = .ok u st) (h : op [x, y, z, u] st = .ok w' s') : runN (ae a (ae b (ae c (ae d al)))) (ax op) Γ st = .ok w' s' := by
 rw [ft, bd, ha, ad, bd, hb, ad, bd, hc, ad, bd, hd, ad, bn, ad, ad, ad, ad, ad, wt, h]; rfl
theorem pb (h : a Γ st = .ok x s') : am (ba a) ao Γ st = .ok (.rt x) s' := by
 rw [ay, xy, h]; rfl
end
theorem Qbc (ro ri rv : Run) (Γ : Ga) (st : S) : ju ro ri rv Γ st = (rv Γ st).bind fun v st1 => (ro Γ st1).bind fun o st2 => (ri Γ st2).bind fun i st3 => (jj o i v st3).bind fun _ st4 => .ok (.nx Γ) st4 := Qmq rfl rfl
inductive Dat : Nat->W->Prop
 | bl (n : Nat) (b : Bool) : Dat n (.bl b)
 | int (n : Nat) (i : Int) : Dat n (.int i)
 | str (n : Nat) (x : Str) : Dat n (.str x)
 | tup {n : Nat} {xs : List W} : (∀ x ∈ xs, Dat n x)->Dat (n + 1) (.tup xs)
 | lst {n : Nat} {xs : List W} : (∀ x ∈ xs, Dat n x)->Dat (n + 1) (.lst xs)
theorem mn {f : W->Option W} : ∀ {ws : List W}, (∀ w ∈ ws, f w = some w)->frzs f ws = some ws
 | [], _ => rfl
 | w :: ws, h => by
  show (match f w, frzs f ws with | some y, some ys => some (y :: ys) | _, _ => none) = _
  rw [h w QlU, mn fun x hx => h x (QlZ _ hx)]
theorem Dat.frz {n : Nat} {w : W} (h : Dat n w) (N : Nat) (mu : Nat->Option MO) : ∀ m, n < m->DL.frz N mu m w = some w := by
 induction h with
 | bl n b => intro m hm; cases m with | zero => omega | succ m => rfl
 | int n i => intro m hm; cases m with | zero => omega | succ m => rfl
 | str n x => intro m hm; cases m with | zero => omega | succ m => rfl
 | @tup n xs _ ih =>
  intro m hm
  cases m with
  | zero => omega
  | succ m =>
   show (frzs (DL.frz N mu m) xs).map W.tup = _
   rw [mn fun x hx => ih x hx m (by omega)]; rfl
 | @lst n xs _ ih =>
  intro m hm
  cases m with
  | zero => omega
  | succ m =>
   show (frzs (DL.frz N mu m) xs).map W.lst = _
   rw [mn fun x hx => ih x hx m (by omega)]; rfl
theorem Qbb {f : W->W->Option Bool} : ∀ {ws : List W}, (∀ w ∈ ws, f w w = some true)->dh f ws ws = some true
 | [], _ => by unfold dh; rfl
 | w :: ws, h => by
  unfold dh
  rw [h w QlU, Qbb fun x hx => h x (QlZ _ hx)]; rfl
theorem Dat.eq {n : Nat} {w : W} (h : Dat n w) : ∀ m, n < m->eqD m w w = some true := by
 induction h with
 | bl n b =>
  intro m hm
  cases m with
  | zero => omega
  | succ m => show some (b == b) = _; simp
 | int n i =>
  intro m hm
  cases m with
  | zero => omega
  | succ m => show some (i == i) = _; simp
 | str n x =>
  intro m hm
  cases m with
  | zero => omega
  | succ m => show some (x == x) = _; simp
 | @tup n xs _ ih =>
  intro m hm
  cases m with
  | zero => omega
  | succ m =>
   show (dh (eqD m) xs xs).map (fun r => r && xs.length == xs.length) = _
   rw [Qbb fun x hx => ih x hx m (by omega)]; simp
 | @lst n xs _ ih =>
  intro m hm
  cases m with
  | zero => omega
  | succ m =>
   show (if xs.length = xs.length then dh (eqD m) xs xs else some false) = _
   rw [Qmo rfl, Qbb fun x hx => ih x hx m (by omega)]
theorem Dat.mono {n : Nat} {w : W} (h : Dat n w) : ∀ m, n<=m->Dat m w := by
 induction h with
 | bl n b => intro m _; exact .bl m b
 | int n i => intro m _; exact .int m i
 | str n x => intro m _; exact .str m x
 | tup _ ih =>
  intro m hm
  cases m with
  | zero => omega
  | succ m => exact .tup fun x hx => ih x hx m (by omega)
 | lst _ ih =>
  intro m hm
  cases m with
  | zero => omega
  | succ m => exact .lst fun x hx => ih x hx m (by omega)
section
variable {Γ : Ga} {s st : S}
theorem QbY (k y : Str) (r : List W) : ah (ah (aa 0) (af (W.int 0)) ap) (af (W.str y)) cf (some (.tup (.str k :: r)) :: Γ) s = .ok (.bl (k == y)) s := by
 rw [az, az, bh, ad, au, ad, lq, ad, au, ad, Qao]
theorem listT {gs : List W} (h : gs.length<=1000) : kj false [.tup gs] s = .ok (.lst gs) s := kq gs (ig h)
theorem listL {gs : List W} (h : gs.length<=1000) : kj false [.lst gs] s = .ok (.lst gs) s := kq gs (ig h)
theorem dv {a : Run} {op : OpN} {x : W} (ha : a Γ s = .ok x s) : runN (ae a al) op Γ s = op [x] s := by
 rw [ft, bd, ha, ad, bn, ad, ad]
theorem ml {r : Run} {xs : List W} (h : r Γ s = .ok (.lst xs) s) : bv r Γ s = .ok xs s := by
 unfold bv; rw [h]; rfl
theorem src_tup {r : Run} {xs : List W} (h : r Γ s = .ok (.tup xs) s) : bv r Γ s = .ok xs s := by
 unfold bv; rw [h]; rfl
end
theorem wb (i : Nat) (body : av) (x : W) (xs : List W) (Γ Γ' : Ga) (s s' : S) (h : body (Γ.set i (some x)) s = .ok (.nx Γ') s') : fe i body (x :: xs) Γ s = fe i body xs Γ' s' := by
 show ((body (Γ.set i (some x)) s).bind fun fl st' => match fl with
  | .nx Γ' => fe i body xs Γ' st'
  | .ct Γ' => fe i body xs Γ' st'
  | .bk Γ' => .ok (.nx Γ') st'
  | .rt w => .ok (.rt w) st') = _
 rw [h]; rfl
section
variable {Γ : Ga} {s : S} {a b : Run} {i j : Int}
theorem tq (ha : a Γ s = .ok (.int i) s) (hb : b Γ s = .ok (.int j) s) : ah a b ce Γ s = .ok (.int (i + j)) s := by rw [az, ha, ad, hb, ad, Qbx]
theorem i_mulL (ha : a Γ s = .ok (.int i) s) (hb : b Γ s = .ok (.int j) s) (h0 : -1000000<=i) (h1 : i<=1000000) : ah a b df Γ s = .ok (.int (i * j)) s := by rw [az, ha, ad, hb, ad, ev_mulL _ _ h0 h1]
theorem QbL (ha : a Γ s = .ok (.int i) s) (hb : b Γ s = .ok (.int j) s) (h0 : -1000000<=j) (h1 : j<=1000000) : ah a b df Γ s = .ok (.int (i * j)) s := by rw [az, ha, ad, hb, ad, ev_mulR _ _ h0 h1]
theorem Qca (ha : a Γ s = .ok (.int i) s) (h0 : 0 < j) (h1 : j < 1073741824) : ah a (af (W.int j)) kz Γ s = .ok (.int (i / j)) s := by rw [az, ha, ad, au, ad, ev_divI _ _ h0 h1]
theorem i_mod (ha : a Γ s = .ok (.int i) s) (hb : b Γ s = .ok (.int j) s) (h0 : 0 < j) : ah a b dz Γ s = .ok (.int (i % j)) s := by rw [az, ha, ad, hb, ad, ev_modI _ _ h0]
theorem list1 {x : W} (ha : a Γ s = .ok x s) : runN (ae a al) (opL false) Γ s = .ok (.lst [x]) s := (dv ha).trans (kq [x] (show 1<=sizeLine by decide))
theorem QbX {xs ys : List W} (ha : a Γ s = .ok (.lst xs) s) (hb : b Γ s = .ok (.lst ys) s) (h : xs.length + ys.length<=1000) : ah a b ce Γ s = .ok (.lst (xs ++ ys)) s := by
 rw [az, ha, ad, hb, ad]
 exact Qmo (ig h)
theorem rng1 {n : Int} (ha : a Γ s = .ok (.int n) s) (h0 : -1000<=n) (h1 : n<=1000) : jd a Γ s = .ok (fu 0 n.toNat) s := ev_rng1 _ _ ha (by omega) (by omega)
end
theorem cell_ok (ns : List Int) (k : Nat) (st : S) (hn : ns.length<=63) : fk [.lst (ns.map W.int), .int (k : Nat)] st = .ok (.int (ns.getD k 0)) st := by
 unfold fk
 rw [lm]
 unfold QaX
 have e1 : qz false (aa 0) (aa 1) (ah (aa 1) (af (W.int 1)) ce) (some (.lst (ns.map W.int)) :: some (.int k) :: List.replicate (2 - 2) none) st = .ok (.lst (((ns.drop k).take 1).map W.int)) st := by
  unfold qz
  rw [bh, ad, bq, ad]
  show ((ah (aa 1) (af (W.int 1)) ce _ st).bind _) = _
  rw [az, bq, ad, au, ad, Qbx, ad]
  show lw false (some (k : Int)) (some ((k : Int) + 1)) (.lst (ns.map W.int)) st = _
  have ec : gp (ns.map W.int) (some (k : Int)) (some ((k : Int) + 1)) = ((ns.drop k).take 1).map W.int := by
   unfold gp
   rw [show ((k : Int) + 1) = ((k + 1 : Nat) : Int) by omega, HT.sIx_nat, HT.sIx_nat, QlY, <-List.map_drop, <-List.map_take]
   congr 1
   by_cases h : k < ns.length
   ·rw [Nat.min_eq_left (Nat.le_of_lt h), Nat.min_eq_left h, show k + 1 - k = 1 by omega]
   ·rw [List.drop_of_length_le (by omega), List.drop_of_length_le (by omega)]; simp
  show ln (gp (ns.map W.int) (some (k : Int)) (some ((k : Int) + 1))) st = _
  rw [ec]
  exact Qmo (by rw [QlY, List.length_take]; exact ig (by omega))
 have e2 : ah (ah (qz false (aa 0) (aa 1) (ah (aa 1) (af (W.int 1)) ce)) (runN (ae (af (W.int 0)) al) (opL false)) ce) (af (W.int 0)) ap (some (.lst (ns.map W.int)) :: some (.int k) :: List.replicate (2 - 2) none) st = .ok (.int (ns.getD k 0)) st := by
  rw [az, QbX e1 (list1 (au _)) (by rw [QlY, List.length_take, Qmi]; omega), ad, au, ad]
  refine Qbu _ 0 _ (nr _ 0 _ ?_)
  by_cases h : k < ns.length
  ·rw [Qml h, List.take_succ_cons, List.take_zero, Qms, List.cons_append, List.getElem?_cons_zero, List.getD_eq_getElem?_getD, QlR h]; rfl
  ·rw [List.drop_of_length_le (by omega), List.getD_eq_getElem?_getD, List.getElem?_eq_none (show ns.length<=k by omega)]; rfl
 rw [dq e2]; rfl
def OneC (w : W) : Prop := ∃ c : Nat, w = .str ⟨#[c]⟩
theorem Qdv : ∀ (ys : List W), (∀ y ∈ ys, OneC y)->∃ cs : List Nat, ys = cs.map (fun c => W.str ⟨#[c]⟩)
 | [], _ => ⟨[], rfl⟩
 | y :: ys, h => by
  obtain ⟨c, rfl⟩ := h y QlU
  obtain ⟨cs, h1⟩ := Qdv ys fun z hz => h z (QlZ _ hz)
  exact ⟨c :: cs, by rw [h1]; rfl⟩
theorem Qkz (cs : List Nat) : (((cs.map fun c => (⟨#[c]⟩ : Str)).map (·.length)).sum) = cs.length := by
 induction cs with
 | nil => rfl
 | cons c cs ih => rw [Qms, Qms, List.sum_cons, ih, Qmg]; show 1 + _ = _; omega
theorem QdY : ∀ cs : List Nat, (cs.map fun c => [c]).flatten = cs
 | [] => rfl
 | c :: cs => by rw [Qms, List.flatten_cons, QdY cs]; rfl
theorem QhN (cs : List Nat) (st : S) (h : cs.length<=1000) : pc (.str "") [.lst (cs.map fun c => W.str ⟨#[c]⟩)] st = .ok (.str ⟨cs.toArray⟩) st := by
 have e1 : jw (cs.map fun c => W.str ⟨#[c]⟩) = some (cs.map fun c => (⟨#[c]⟩ : Str)) := by
  have := Qje (cs.map fun c => (⟨#[c]⟩ : Str))
  rw [List.map_map] at this
  exact this
 have e2 : Txt.join "" (cs.map fun c => (⟨#[c]⟩ : Str)) = ⟨cs.toArray⟩ := by
  apply cp_ext
  rw [QlG, List.map_map]
  show ((cs.map fun c => [c])).flatten = cs.toArray.toList
  rw [List.toList_toArray]
  exact QdY cs
 show (match jw (cs.map fun c => W.str ⟨#[c]⟩) with
  | some (ys : List Str) => if (("" : Str).length<=16/\(ys.map (fun (y : Str) => y.length)).sum + ys.length<=1048576) then R.ok (W.str (Txt.join "" ys)) st else .stuck
  | none => .stuck) = _
 rw [e1]
 show (if (("" : Str).length<=16/\((cs.map fun c => (⟨#[c]⟩ : Str)).map (·.length)).sum + (cs.map fun c => (⟨#[c]⟩ : Str)).length<=1048576) then R.ok (W.str (Txt.join "" (cs.map fun c => (⟨#[c]⟩ : Str)))) st else .stuck) = _
 rw [Qmo ⟨by decide, by rw [Qkz, QlY]; omega⟩, e2]
theorem Qgn {z : Str} (hz : z.length<=1000) {i : Int} (h0 : 0<=i) (h1 : i < (z.length : Nat)) (st : S) : ∃ c : Nat, ap (.str z) (.int i) st = .ok (.str ⟨#[c]⟩) st := by
 obtain ⟨c, hc, _⟩ := Qci z.cps.toList i h0 (by rw [show z.cps.toList.length = z.length from yb z]; exact h1)
 exact ⟨c, ev_idxS z i c (ig hz) hc⟩
section
variable {Γ : Ga} {st : S} {a b : Run} {x y : Str} {k : Int}
theorem Qdc (ha : a Γ st = .ok (.str x) st) (hb : b Γ st = .ok (.str y) st) (hl : x.length + y.length<=1000) : ah a b ce Γ st = .ok (.str (x ++ y)) st := by
 rw [az, ha, ad, hb, ad]
 exact ev_addS x y (ig hl)
theorem Qjl (ha : a Γ st = .ok (.str x) st) (hb : b Γ st = .ok (.int k) st) (hl : x.length<=1000) : xj false a b Γ st = .ok (.str (Txt.slice x none (some k))) st := by
 rw [ev_slNS, ha, ad, hb, ad]
 exact Qmo (ig hl)
theorem Qjk (ha : a Γ st = .ok (.str x) st) (hb : b Γ st = .ok (.int k) st) (hl : x.length<=1000) : im false a b Γ st = .ok (.str (Txt.slice x (some k) none)) st := by
 rw [xn, ha, ad, hb, ad]
 exact Qmo (ig hl)
end
theorem Qbp (x y : Str) : (x ++ y).length = x.length + y.length := by rw [<-yb, QbR, Qma, yb, yb]
theorem word_ok (s k : Int) (st : S) : ∃ z : Str, z.length<=20/\qm [.int s, .int k] st = .ok (.str z) st := by
 obtain ⟨m0, m1⟩ := pe s 8 (by decide)
 obtain ⟨ys, ly, hy, hc⟩ := comp_ex (cap := [0]) (src := jd (ah (aa 0) (af (W.int 8)) dz)) (re := ah (af (W.str "abcdefghijklmnopqrstuvwxyz")) (ah (ah (ah (aa 1) (af (W.int 3)) kz) (ah (af (W.int 5)) (aa 0) df) ce) (af (W.int 26)) dz) ap)
  (Γ := [some (.int s), some (.int k), none, none]) (st := st) (items := fu 0 (s % 8).toNat) OneC (rng1 (i_mod (bh _) (au _) (by decide)) (by omega) (by omega)) (by rw [wc]; omega) (fun x hx => by
   obtain ⟨j, hj, rfl⟩ := QaL hx
   obtain ⟨n0, n1⟩ := pe (s / 3 + 5 * (j : Int)) 26 (by decide)
   obtain ⟨c, hc⟩ := Qgn (z := "abcdefghijklmnopqrstuvwxyz") (by decide +kernel) n0 (by rw [show ("abcdefghijklmnopqrstuvwxyz" : Str).length = 26 by decide +kernel]; exact n1) st
   refine ⟨_, ⟨c, rfl⟩, ?_⟩
   show ah _ _ ap [some (.int (j : Nat)), some (.int s)] st = _
   rw [az, au, ad, i_mod (tq (Qca (bq _ _) (by decide) (by decide)) (i_mulL (au _) (bh _) (by decide) (by decide))) (au _) (by decide), ad]
   exact hc)
 obtain ⟨cs, rfl⟩ := Qdv ys hy
 rw [QlY, wc] at ly
 have l7 : (⟨cs.toArray⟩ : Str).length<=7 := by rw [len_mk]; omega
 generalize ez : (⟨cs.toArray⟩ : Str) = tail at l7
 have e1 : ci "str" (af (W.str "")) (ae (bx false (jd (ah (aa 0) (af (W.int 8)) dz)) [0] (af (.bl true)) (ah (af (W.str "abcdefghijklmnopqrstuvwxyz")) (ah (ah (ah (aa 1) (af (W.int 3)) kz) (ah (af (W.int 5)) (aa 0) df) ce) (af (W.int 26)) dz) ap)) al) pc [some (.int s), some (.int k), none, none] st = .ok (.str tail) st := by
  unfold ci
  rw [au, ad, Qmo (show jg st (.str "") = some "str" from rfl), bd, hc, ad, bn, ad, ad, QhN cs st (by omega), ez]
 have e2 : ah (ah (aa 0) (af (W.int 78)) kz) (ah (runN (ae (aa 2) al) cu) (af (W.int 1)) ce) dz [some (.int s), some (.int k), some (.str tail), none] st = .ok (.int (s / 78 % ((tail.length : Nat) + 1))) st :=
  i_mod (Qca (bh _) (by decide) (by decide)) (tq ((dv (ev_v2 _ _ _)).trans (ev_lenS _ (ig (by omega)))) (au _)) (by omega)
 generalize s / 78 % ((tail.length : Nat) + 1) = p at e2
 obtain ⟨n0, n1⟩ := pe (k + s / 624) 9 (by decide)
 obtain ⟨c, hc9⟩ := Qgn (z := "dgjkqrvxz") (by decide +kernel) n0 (by rw [show ("dgjkqrvxz" : Str).length = 9 by decide +kernel]; exact n1) st
 have l1 := Txt.slice_le tail none (some p)
 have l2 := Txt.slice_le tail (some p) none
 have lc : (⟨#[c]⟩ : Str).length = 1 := rfl
 have e3 : ah (af (W.str "dgjkqrvxz")) (ah (ah (aa 1) (ah (aa 0) (af (W.int 624)) kz) ce) (af (W.int 9)) dz) ap [some (.int s), some (.int k), some (.str tail), some (.int p)] st = .ok (.str ⟨#[c]⟩) st := by
  rw [az, au, ad, i_mod (tq (bq _ _) (Qca (bh _) (by decide) (by decide))) (au _) (by decide), ad]
  exact hc9
 have e4 := Qdc (Qdc (Qjl (x := tail) (k := p) (a := aa 2) (b := aa 3) (Γ := [some (.int s), some (.int k), some (.str tail), some (.int p)]) (st := st) (ev_v2 _ _ _) (ev_v3 _ _ _ _) (by omega)) e3 (by rw [lc]; omega)) (Qjk (x := tail) (k := p) (a := aa 2) (b := aa 3) (ev_v2 _ _ _) (ev_v3 _ _ _ _) (by omega)) (by rw [Qbp, lc]; omega)
 refine ⟨Txt.slice tail none (some p) ++ ⟨#[c]⟩ ++ Txt.slice tail (some p) none, ?_, ?_⟩
 rotate_left
 ·unfold qm
  rw [lm]
  unfold QaW
  rw [show List.replicate (4 - 2) (none : Option W) = [none, none] from rfl, ay, e_set, e1, ad, ks2, ad, bg, ay, e_set, e2, ad, ks3, ad, bg, dq e4]; rfl
 ·rw [Qbp, Qbp, lc]; omega
abbrev KS (s : Str) : ar := .inl (.inr s)
theorem free_X (st : S) : gr [.str "X"] st = .ok (.bl true) st := by kernel_rfl
theorem free_Y (st : S) : gr [.str "Y"] st = .ok (.bl true) st := by kernel_rfl
theorem free_Z (st : S) : gr [.str "Z"] st = .ok (.bl true) st := by kernel_rfl
theorem free_W (st : S) : gr [.str "W"] st = .ok (.bl true) st := by kernel_rfl
theorem ok_K {ks : List ar} (h : ks.all isK = true) (k : Key) : okD ks (.inl k) = true := by
 unfold okD
 rw [Qmv] at h ⊢
 intro j hj
 rw [h j hj]; rfl
theorem QaU {ks : List ar} {vs : List W} {k : ar} (h : k ∉ ks) : ck ks vs k = none := by
 induction ks generalizing vs with
 | nil => unfold ck; rfl
 | cons j ks ih =>
  cases vs with
  | nil => rfl
  | cons v vs =>
   show (if j = k then some v else ck ks vs k) = none
   rw [Qmp (fun z => h (by rw [z]; exact QlU)), ih fun z => h (QlZ _ z)]
theorem QkC {st : S} {ks : List ar} {vs : List W} {k : Str} {v : W} (hk : ks.all isK = true) (hl : ks.length<=100) (hn : KS k ∉ ks) :
  fm (.ref st.nxt) [.str k, v] (st.new (.dct ks vs)) = .ok v (st.new (.dct (ks ++ [KS k]) (vs ++ [v]))) := by
 unfold fm
 dsimp only
 rw [io]
 show (if okD ks (KS k) = true/\ks.length < sizeLine then (match ck ks vs (KS k) with
   | some v => R.ok v (st.new (.dct ks vs))
   | none => R.ok v ((st.new (.dct ks vs)).put st.nxt (.dct (dl ks vs (KS k) v).1 (dl ks vs (KS k) v).2))) else R.stuck) = _
 rw [Qmo ⟨ok_K hk _, Qmm hl (by decide)⟩, QaU hn, QaZ hn]
 show R.ok v ((st.new (.dct ks vs)).put st.nxt (.dct (ks ++ [KS k]) (vs ++ [v]))) = _
 rw [xl]
theorem QjR (st : S) (ks : List ar) (vs : List W) : jg (st.new (.dct ks vs)) (.ref st.nxt) = some "dict" := by
 show MO.kind ((st.new (.dct ks vs)).mu st.nxt) = _
 rw [io]; rfl
theorem QjU {st : S} {ks : List ar} {vs : List W} (h : ∀ x ∈ vs, Dat 8 x) : keep st (st.new (.dct ks vs)) (.ref st.nxt) = .ok (.dct ks vs) st := by
 refine xh (je st _) ?_
 show (if st.nxt < st.nxt then some (W.ref st.nxt) else (match (st.new (.dct ks vs)).mu st.nxt with
   | some (.lst ys) => (frzs (frz st.nxt (st.new (.dct ks vs)).mu 11) ys).map W.lst
   | some (.dct ks ys) => (frzs (frz st.nxt (st.new (.dct _ vs)).mu 11) ys).map (W.dct ks)
   | none => none)) = _
 rw [Qmp (by omega), io]
 show (frzs (frz st.nxt (st.new (.dct ks vs)).mu 11) vs).map (W.dct ks) = _
 rw [mn fun x hx => (h x hx).frz _ _ 11 (by omega)]; rfl
noncomputable def Qay : av := (am (be 6 (sx (runN (ae (aa 4) al) (ax gr)) (ci "dict" (aa 3) (ae (aa 4) (ae (aa 5) al)) fm) (aa 4)))
 (am (sIf (ah (aa 6) (aa 5) dk)
  (am (ba (af W.non))
 ao)
  ao)
 ao))
theorem QeX {a b c x : Option W} {st : S} {ks : List ar} {vs : List W} {s : Str} {i : Int} (hs : ∀ st, gr [.str s] st = .ok (.bl true) st) (hk : ks.all isK = true) (hl : ks.length<=100) (hn : KS s ∉ ks) :
  Qay [a, b, c, some (.ref st.nxt), some (.str s), some (.int i), x] (st.new (.dct ks vs)) = .ok (.nx [a, b, c, some (.ref st.nxt), some (.str s), some (.int i), some (.int i)]) (st.new (.dct (ks ++ [KS s]) (vs ++ [.int i]))) := by
 unfold Qay
 have h1 : sx (runN (ae (aa 4) al) (ax gr)) (ci "dict" (aa 3) (ae (aa 4) (ae (aa 5) al)) fm) (aa 4) [a, b, c, some (.ref st.nxt), some (.str s), some (.int i), x] (st.new (.dct ks vs)) = .ok (.int i) (st.new (.dct (ks ++ [KS s]) (vs ++ [.int i]))) := by
  rw [Qly, ph (ib _ _ _ _ _) (hs _), ad, bz, Qmo rfl]
  unfold ci
  rw [ev_v3, ad, Qmo (QjR st ks vs)]
  simp only [bd, ib, jn, ad, bn]
  exact QkC hk hl hn
 rw [ay, ev_s6, h1, ad, ad, bg, ay, dg, az, nz, ad, jn, ad, Qan, ad, bz, Qmp (by simp), de, ad, bg, de]
theorem ql {i j : Nat} {body : av} {x : W × W} {xs : List (W × W)} {Γ Γ' : Ga} {s s' : S} (h : body ((Γ.set i (some x.1)).set j (some x.2)) s = .ok (.nx Γ') s') : dw i j body (x :: xs) Γ s = dw i j body xs Γ' s' := by
 show ((body ((Γ.set i (some x.1)).set j (some x.2)) s).bind fun fl st' => match fl with
  | .nx Γ' => dw i j body xs Γ' st'
  | .ct Γ' => dw i j body xs Γ' st'
  | .bk Γ' => .ok (.nx Γ') st'
  | .rt w => .ok (.rt w) st') = _
 rw [h]; rfl
theorem Qdt {n s t : Str} {i j : Int} {ks : List ar} {vs : List W} (hs : ∀ st, gr [.str s] st = .ok (.bl true) st) (ht : ∀ st, gr [.str t] st = .ok (.bl true) st) (hk : ks.all isK = true) (hl : ks.length<=50) (h1 : KS s ∉ ks) (h2 : KS t ∉ ks) (hst : s ≠ t) (hd : ∀ v ∈ vs, Dat 8 v) (st : S) :
  mf [.tup [.str n, .str s, .str t], .tup [.str n, .int i, .int j], .dct ks vs] st = .ok (.dct (ks ++ [KS s] ++ [KS t]) (vs ++ [.int i] ++ [.int j])) st := by
 unfold mf
 rw [QbN]
 unfold QaO
 have hc : gf (ah (ah (aa 0) (af (W.int 0)) ap) (ah (aa 1) (af (W.int 0)) ap) dk) (ah (runN (ae (aa 0) al) cu) (runN (ae (aa 1) al) cu) dk) (some (.tup [.str n, .str s, .str t]) :: some (.tup [.str n, .int i, .int j]) :: some (.dct ks vs) :: List.replicate (7 - 3) none) st = .ok (.bl false) st := by
  rw [oa, az, az, bh, ad, au, ad, lq, ad, az, bq, ad, au, ad, lq, ad, QbO, ad, bz, Qmp (by simp), az, dv (bh _), mq, ad, dv (bq _ _), mq, ad, Qan]
  rfl
 have hdc : runN (ae (aa 2) al) (xk true) (some (.tup [.str n, .str s, .str t]) :: some (.tup [.str n, .int i, .int j]) :: some (.dct ks vs) :: List.replicate (7 - 3) none) st = .ok (.ref st.nxt) (st.new (.dct ks vs)) := by
  rw [dv (ev_v2 _ _ _)]
  show (if (ks.all isK) = true then (if true then R.ok (W.ref st.nxt) (st.new (.dct ks vs)) else .ok (.dct ks vs) st) else .stuck) = _
  rw [Qmo hk]; rfl
 rw [ay, dg, hc, ad, bz, Qmp QlQ, de, ad, bg, ay, show (7 : Nat) - 3 = 4 from rfl, Qbt, Qcd]
 rw [show (7 : Nat) - 3 = 4 from rfl, Qbt] at hdc
 rw [hdc, ad, ad, bg, ay]
 have hz : nt 4 5 (ae (im false (aa 0) (af (W.int 1))) (ae (im false (aa 1) (af (W.int 1))) al)) Qay [some (.tup [.str n, .str s, .str t]), some (.tup [.str n, .int i, .int j]), some (.dct ks vs), some (.ref st.nxt), none, none, none] (st.new (.dct ks vs)) = .ok (.nx [some (.tup [.str n, .str s, .str t]), some (.tup [.str n, .int i, .int j]), some (.dct ks vs), some (.ref st.nxt), some (.str t), some (.int j), some (.int j)]) (st.new (.dct (ks ++ [KS s] ++ [KS t]) (vs ++ [.int i] ++ [.int j]))) := by
  have hA : (ae (im false (aa 0) (af (W.int 1))) (ae (im false (aa 1) (af (W.int 1))) al)) [some (.tup [.str n, .str s, .str t]), some (.tup [.str n, .int i, .int j]), some (.dct ks vs), some (.ref st.nxt), none, none, none] (st.new (.dct ks vs)) = .ok [.tup [.str s, .str t], .tup [.int i, .int j]] (st.new (.dct ks vs)) := by
   rw [bd, xn, bh, ad, au, ad, Qae, QbM, cut1, ad, bd, xn, bq, ad, au, ad, Qae, QbM, cut1, ad, bn, ad, ad]
  have hB : pz [.tup [.str s, .str t], .tup [.int i, .int j]] (st.new (.dct ks vs)) = .ok [(.str s, .int i), (.str t, .int j)] (st.new (.dct ks vs)) := rfl
  unfold nt
  rw [hA, ad, hB, ad]
  have e1 := QeX (a := some (.tup [.str n, .str s, .str t])) (b := some (.tup [.str n, .int i, .int j])) (c := some (.dct ks vs)) (x := none) (st := st) (vs := vs) (i := i) hs hk (by omega) h1
  have e2 := QeX (a := some (.tup [.str n, .str s, .str t])) (b := some (.tup [.str n, .int i, .int j])) (c := some (.dct ks vs)) (x := some (.int i)) (st := st) (ks := ks ++ [KS s]) (vs := vs ++ [.int i]) (i := j) ht (by rw [List.all_append, hk]; rfl) (by rw [Qma, Qmi]; omega) (by
   intro z
   rcases List.mem_append.mp z with z | z
   ·exact h2 z
   ·have := List.mem_singleton.mp z
    cases this
    exact hst rfl)
  rw [ql e1, ql e2]
  rfl
 unfold Qay at hz
 rw [hz, ad, bg, pb (ev_v3 _ _ _ _), so]
 refine QjU fun x hx => ?_
 rcases List.mem_append.mp hx with hx | hx
 ·rcases List.mem_append.mp hx with hx | hx
  ·exact hd x hx
  ·rw [List.mem_singleton.mp hx]; exact .int _ _
 ·rw [List.mem_singleton.mp hx]; exact .int _ _
inductive Dt : Nat->W->Prop
 | of {n : Nat} {w : W} : Dat n w->Dt n w
 | tup {n : Nat} {xs : List W} : (∀ x ∈ xs, Dt n x)->Dt (n + 1) (.tup xs)
 | lst {n : Nat} {xs : List W} : (∀ x ∈ xs, Dt n x)->Dt (n + 1) (.lst xs)
 | dct {n : Nat} {ks : List ar} {xs : List W} : (∀ x ∈ xs, Dt n x)->Dt (n + 1) (.dct ks xs)
theorem Dt.frz {n : Nat} {w : W} (h : Dt n w) (N : Nat) (mu : Nat->Option MO) : ∀ m, n < m->DL.frz N mu m w = some w := by
 induction h with
 | of h => intro m hm; exact h.frz N mu m hm
 | @tup n xs _ ih =>
  intro m hm
  cases m with
  | zero => omega
  | succ m => show (frzs (DL.frz N mu m) xs).map W.tup = _; rw [mn fun x hx => ih x hx m (by omega)]; rfl
 | @lst n xs _ ih =>
  intro m hm
  cases m with
  | zero => omega
  | succ m => show (frzs (DL.frz N mu m) xs).map W.lst = _; rw [mn fun x hx => ih x hx m (by omega)]; rfl
 | @dct n ks xs _ ih =>
  intro m hm
  cases m with
  | zero => omega
  | succ m => show (frzs (DL.frz N mu m) xs).map (W.dct ks) = _; rw [mn fun x hx => ih x hx m (by omega)]; rfl
theorem QeJ {st s' : S} {n : Nat} {xs : List W} (ho : ∀ m, m < st.nxt->s'.mu m = st.mu m) (hn : st.nxt<=n) (hm : s'.mu n = some (.lst xs)) (h : ∀ x ∈ xs, Dt 8 x) : keep st s' (.ref n) = .ok (.lst xs) st := by
 refine xh ho ?_
 show (if n < st.nxt then some (W.ref n) else (match s'.mu n with
   | some (.lst ys) => (frzs (frz st.nxt s'.mu 11) ys).map W.lst
   | some (.dct ks ys) => (frzs (frz st.nxt s'.mu 11) ys).map (W.dct ks)
   | none => none)) = _
 rw [Qmp (by omega), hm]
 show (frzs (frz st.nxt s'.mu 11) xs).map W.lst = _
 rw [mn fun x hx => (h x hx).frz _ _ 11 (by omega)]; rfl
theorem Qak {st s' : S} {w : W} (ho : ∀ m, m < st.nxt->s'.mu m = st.mu m) (h : Dt 8 w) : keep st s' w = .ok w st := xh ho (h.frz _ _ 12 (by omega))
theorem ev_M (T : String) (ro : Run) (rr : bw) (op : OpM) (Γ : Ga) (st : S) : ci T ro rr op Γ st = (ro Γ st).bind fun w st1 => if jg st1 w = some T then (rr Γ st1).bind fun ws st2 => op w ws st2 else .stuck := Qmq rfl rfl
def fw (ks : List ar) (vs : List W) (z : Str) : W := (ck ks vs (KS z)).getD (.str z)
theorem get_run {ks : List ar} {vs : List W} (hk : ks.all isK = true) (z : Str) (st : S) : ci "dict" (aa 1) (ae (aa 0) (ae (aa 0) al)) jf [some (.str z), some (.dct ks vs)] st = .ok (fw ks vs z) st := by
 unfold ci
 rw [bq, ad, Qmo (show jg st (.dct ks vs) = some "dict" from rfl)]
 simp only [bd, bh, ad, bn]
 show (if okD ks (KS z) = true then R.ok ((ck ks vs (KS z)).getD (.str z)) st else R.stuck) = _
 rw [Qmo (ok_K hk _)]; rfl
theorem zi {xs : List W} {st : S} (h : xs.length<=sizeLine) : ki [.lst xs] st = .ok (.tup xs) st := sk xs h
theorem QaR {n : Str} {ts : List Str} {ks : List ar} {vs : List W} (hk : ks.all isK = true) (hl : ts.length<=100) (st : S) :
  jq [.tup (.str n :: ts.map W.str), .dct ks vs] st = .ok (.tup (.str n :: ts.map (fw ks vs))) st := by
 unfold jq
 rw [lm]
 unfold QaY
 have hz : (ts.map W.str).length < sizeLine := by rw [QlY]; exact Qmm hl (by decide)
 have hc : bx false (bv (im false (aa 0) (af (W.int 1)))) [1] (af (.bl true)) (ci "dict" (aa 1) (ae (aa 0) (ae (aa 0) al)) jf) (some (.tup (.str n :: ts.map W.str)) :: some (.dct ks vs) :: List.replicate (2 - 2) none) st = .ok (.lst ((ts.map W.str).map fun w => match w with | .str z => fw ks vs z | w => w)) st := by
  refine xi _ (src_tup (by rw [xn, bh, ad, au, ad, Qae, QbM, cut1])) hz fun x hx => ?_
  obtain ⟨z, _, rfl⟩ := List.mem_map.mp hx
  exact get_run hk z st
 rw [List.map_map] at hc
 refine (congrArg (jl 0 st) (dq (w := .tup (.str n :: ts.map (fw ks vs))) ?_)).trans (jy _ _ _)
 rw [az]
 have h1 : runN (ae (ah (aa 0) (af (W.int 0)) ap) al) bp (some (.tup (.str n :: ts.map W.str)) :: some (.dct ks vs) :: List.replicate (2 - 2) none) st = .ok (.tup [.str n]) st := by
  rw [dv (x := .str n) (by rw [az, bh, ad, au, ad, lq])]
  exact sk _ (show 1<=sizeLine by decide)
 rw [h1, ad, dv hc, zi (by rw [QlY]; exact Nat.le_of_lt (Qmm hl (by decide))), ad]
 show (if [W.str n] ≠ []/\[W.str n].length + (ts.map (fw ks vs)).length<=sizeLine then R.ok (W.tup ([W.str n] ++ ts.map (fw ks vs))) st else R.stuck) = _
 rw [Qmo ⟨by simp, ig (by rw [Qmi, QlY]; omega)⟩]; rfl
theorem QfU (w : W) (st : S) : me [w, .lst []] st = .ok (.tup []) st := by kernel_rfl
theorem Qed {rt re : Run} {Γc : Ga} {st : S} : ∀ (items acc : List W), (∀ x ∈ items, rt (some x :: Γc) st = .ok (.bl false) st)->compGo rt re Γc items acc st = .ok acc st
 | [], acc, _ => rfl
 | x :: xs, acc, h => by
  show ((rt (some x :: Γc) st).calm.bind fun b st1 => match b with
   | .bl true => (re (some x :: Γc) st1).calm.bind fun y st2 => compGo rt re Γc xs (acc ++ [y]) st2
   | .bl false => compGo rt re Γc xs acc st1
   | _ => .stuck) = _
  rw [h x QlU, rq, ad]
  exact Qed xs acc fun y hy => h y (QlZ _ hy)
theorem in_dct {ks : List ar} {vs : List W} (hk : ks.all isK = true) (z : Str) (st : S) : dn (.str z) (.dct ks vs) st = .ok (.bl (ck ks vs (KS z)).isSome) st := by
 have e : lp st (.str z) (.dct ks vs) = some (ck ks vs (KS z)).isSome := by
  show (if okD ks (KS z) = true then some (ck ks vs (KS z)).isSome else none) = _
  rw [Qmo (ok_K hk _)]
 unfold dn
 rw [e]
theorem Qiz {n s t : Str} {ks : List ar} {vs : List W} (hs : ∀ st, gr [.str s] st = .ok (.bl true) st) (ht : ∀ st, gr [.str t] st = .ok (.bl true) st) (hk : ks.all isK = true) (h1 : KS s ∉ ks) (h2 : KS t ∉ ks) (st : S) :
  yr [.tup [.str n, .str s, .str t], .dct ks vs] st = .ok (.lst []) st := by
 unfold yr
 rw [lm]
 unfold QaC
 refine (congrArg (jl 0 st) (dq (w := .lst []) ?_)).trans (jy _ _ _)
 unfold bx
 have hr : rg (af (W.int 1)) (runN (ae (aa 0) al) cu) (some (.tup [.str n, .str s, .str t]) :: some (.dct ks vs) :: List.replicate (2 - 2) none) st = .ok [.int 1, .int 2] st := by
  unfold rg
  rw [au, ad, dv (bh _), mq, ad]
  kernel_rfl
 rw [hr, ad, Qmo (show ([W.int 1, W.int 2] : List W).length < sizeLine from show 2 < sizeLine by decide)]
 have hc : cw [1, 0] (some (.tup [.str n, .str s, .str t]) :: some (.dct ks vs) :: List.replicate (2 - 2) none) = [some (.dct ks vs), some (.tup [.str n, .str s, .str t])] := rfl
 rw [hc, Qed, ad]
 ·rfl
 ·intro x hx
  have one : ∀ (z : Str) (i : Int), (∀ st, gr [.str z] st = .ok (.bl true) st)->KS z ∉ ks->ap (.tup [.str n, .str s, .str t]) (.int i) st = .ok (.str z) st ->
    gf (km (runN (ae (ah (aa 2) (aa 0) ap) al) (ax gr))) (ah (ah (aa 2) (aa 0) ap) (aa 1) dn) [some (.int i), some (.dct ks vs), some (.tup [.str n, .str s, .str t])] st = .ok (.bl false) st := by
   intro z i hz hn hi
   have ha : ah (aa 2) (aa 0) ap [some (.int i), some (.dct ks vs), some (.tup [.str n, .str s, .str t])] st = .ok (.str z) st := by rw [az, ev_v2, ad, bh, ad, hi]
   rw [oa, Qam, ph ha (hz st), ad, Qad, ad, bz, Qmp (by simp), az, ha, ad, bq, ad, in_dct hk, QaU hn]; rfl
  rcases List.mem_cons.mp hx with rfl | hx
  ·exact one s 1 hs h1 (lf _ _ _)
  ·have := List.mem_singleton.mp hx
   subst this
   exact one t 2 ht h2 (yg _ _ _ _)
def DL1 (st : S) (done : List W) (s : S) : Prop := (∀ m, m < st.nxt->s.mu m = st.mu m)/\st.nxt < s.nxt /\
 ((done = []/\s.mu st.nxt = some (.dct [] []))\/∃ l, st.nxt < l/\l < s.nxt/\s.mu st.nxt = some (.dct [.inr []] [.ref l])/\s.mu l = some (.lst done))
theorem QeQ {st s : S} {done : List W} {Γ : Ga} {rd rk rx : Run} {x : W} (h : DL1 st done s) (hd : ∀ s, rd Γ s = .ok (.ref st.nxt) s) (hk : ∀ s, rk Γ s = .ok (.tup []) s) (hx : ∀ s, rx Γ s = .ok x s) (hl : done.length<=10000) :
  ∃ s', ci "list" (ci "dict" rd (ae rk (ae (runN al (opL true)) al)) fm) (ae rx al) iy Γ s = .ok .non s'/\DL1 st (done ++ [x]) s' := by
 obtain ⟨ho, hn, hc⟩ := h
 have hkd : jg s (.ref st.nxt) = some "dict" := by
  show MO.kind (s.mu st.nxt) = _
  rcases hc with ⟨_, e⟩ | ⟨l, _, _, e, _⟩ <;> rw [e] <;> rfl
 have hnl : runN al (opL true) Γ s = .ok (.ref s.nxt) (s.new (.lst [])) := rfl
 have hin : ∀ (w : W) (s2 : S), fm (.ref st.nxt) [.tup [], .ref s.nxt] (s.new (.lst [])) = .ok w s2->ci "dict" rd (ae rk (ae (runN al (opL true)) al)) fm Γ s = .ok w s2 := fun w s2 e => by
  unfold ci
  rw [hd, ad, Qmo hkd]
  simp only [bd, hk, ad, hnl, bn]
  exact e
 have hout : ∀ (l : Nat) (s2 : S) (ys : List W), fm (.ref st.nxt) [.tup [], .ref s.nxt] (s.new (.lst [])) = .ok (.ref l) s2->s2.mu l = some (.lst ys)->ys.length<=10000 ->
   ci "list" (ci "dict" rd (ae rk (ae (runN al (opL true)) al)) fm) (ae rx al) iy Γ s = .ok .non (s2.put l (.lst (ys ++ [x]))) := fun l s2 ys e em hy => by
  rw [ev_M, hin _ _ e, ad]
  have hkl : jg s2 (.ref l) = some "list" := by show MO.kind (s2.mu l) = _; rw [em]; rfl
  rw [Qmo hkl, bd, hx, ad, bn, ad, ad]
  unfold iy
  dsimp only
  rw [em]
  show (if ys.length < sizeLine then _ else _) = _
  rw [Qmo (Qmm hy (by decide))]
 have e0 : (s.new (.lst [])).mu st.nxt = s.mu st.nxt := je s _ _ hn
 rcases hc with ⟨e1, e⟩ | ⟨l, hl1, hl2, e, em⟩
 ·subst e1
  have es : fm (.ref st.nxt) [.tup [], .ref s.nxt] (s.new (.lst [])) = .ok (.ref s.nxt) ((s.new (.lst [])).put st.nxt (.dct [.inr []] [.ref s.nxt])) := by
   unfold fm
   dsimp only
   rw [e0, e]
   rfl
  have em : ((s.new (.lst [])).put st.nxt (.dct [.inr []] [.ref s.nxt])).mu s.nxt = some (.lst []) := by
   show (if s.nxt = st.nxt then _ else (s.new (.lst [])).mu s.nxt) = _
   rw [Qmp (by omega), io]
  refine ⟨_, hout _ _ _ es em (by simp), fun m hm => ?_, ?_, .inr ⟨s.nxt, hn, Nat.lt_succ_self _, ?_, ?_⟩⟩
  ·show (if m = s.nxt then _ else if m = st.nxt then _ else if m = s.nxt then _ else s.mu m) = _
   rw [Qmp (by omega), Qmp (by omega), Qmp (by omega)]
   exact ho m hm
  ·exact Nat.lt_succ_of_lt hn
  ·show (if st.nxt = s.nxt then _ else if st.nxt = st.nxt then _ else _) = _
   rw [Qmp (by omega), Qmo rfl]
  ·show (if s.nxt = s.nxt then _ else _) = _
   rw [Qmo rfl]
 ·have es : fm (.ref st.nxt) [.tup [], .ref s.nxt] (s.new (.lst [])) = .ok (.ref l) (s.new (.lst [])) := by
   unfold fm
   dsimp only
   rw [e0, e]
   rfl
  have em' : (s.new (.lst [])).mu l = some (.lst done) := (je s _ _ hl2).trans em
  refine ⟨_, hout _ _ _ es em' hl, fun m hm => ?_, ?_, .inr ⟨l, hl1, Nat.lt_succ_of_lt hl2, ?_, ?_⟩⟩
  ·show (if m = l then _ else if m = s.nxt then _ else s.mu m) = _
   rw [Qmp (by omega), Qmp (by omega)]
   exact ho m hm
  ·exact Nat.lt_succ_of_lt hn
  ·show (if st.nxt = l then _ else if st.nxt = s.nxt then _ else s.mu st.nxt) = _
   rw [Qmp (by omega), Qmp (by omega), e]
  ·show (if l = l then _ else _) = _
   rw [Qmo rfl]
theorem QeR {st s : S} {done : List W} (h : DL1 st done s) (h0 : done ≠ []) (hd : ∀ x ∈ done, Dt 7 x) : keep st s (.ref st.nxt) = .ok (.dct [.inr []] [.lst done]) st := by
 obtain ⟨ho, hn, ⟨e, _⟩ | ⟨l, hl1, hl2, e, em⟩⟩ := h
 ·exact absurd e h0
 refine xh ho ?_
 show (if st.nxt < st.nxt then some (W.ref st.nxt) else (match s.mu st.nxt with
   | some (.lst ys) => (frzs (frz st.nxt s.mu 11) ys).map W.lst
   | some (.dct ks ys) => (frzs (frz st.nxt s.mu 11) ys).map (W.dct ks)
   | none => none)) = _
 rw [Qmp (by omega), e]
 have el : frz st.nxt s.mu 11 (.ref l) = some (.lst done) := by
  show (if l < st.nxt then some (W.ref l) else (match s.mu l with
   | some (.lst ys) => (frzs (frz st.nxt s.mu 10) ys).map W.lst
   | some (.dct ks ys) => (frzs (frz st.nxt s.mu 10) ys).map (W.dct ks)
   | none => none)) = _
  rw [Qmp (by omega), em]
  show (frzs (frz st.nxt s.mu 10) done).map W.lst = _
  rw [mn fun x hx => (hd x hx).frz _ _ 10 (by omega)]; rfl
 show (match frz st.nxt s.mu 11 (.ref l), frzs (frz st.nxt s.mu 11) [] with | some y, some ys => some (y :: ys) | _, _ => none).map (W.dct [.inr []]) = _
 rw [el]; rfl
theorem QdZ (st : S) : DL1 st [] (st.new (.dct [] [])) := ⟨je st _, Nat.lt_succ_self _, .inl ⟨rfl, io st _⟩⟩
theorem QeG {i : Nat} {body : av} (P : List W->Ga->S->Prop) : ∀ (items done : List W) (Γ : Ga) (s : S), P done Γ s->(∀ done x Γ s, x ∈ items->P done Γ s->done.length<=5000->∃ Γ' s', body (Γ.set i (some x)) s = .ok (.nx Γ') s'/\P (done ++ [x]) Γ' s')->done.length + items.length<=5000 ->
  ∃ Γ' s', fe i body items Γ s = .ok (.nx Γ') s'/\P (done ++ items) Γ' s'
 | [], done, Γ, s, h, _, _ => ⟨Γ, s, rfl, by rw [List.append_nil]; exact h⟩
 | x :: xs, done, Γ, s, h, st, hl => by
  rw [Qmg] at hl
  obtain ⟨Γ1, s1, e1, h1⟩ := st done x Γ s QlU h (by omega)
  obtain ⟨Γ2, s2, e2, h2⟩ := QeG P xs (done ++ [x]) Γ1 s1 h1 (fun d y Γ s hy => st d y Γ s (QlZ _ hy)) (by rw [Qma, Qmi]; omega)
  refine ⟨Γ2, s2, ?_, by rw [List.append_assoc] at h2; exact h2⟩
  rw [wb i body x xs Γ Γ1 s s1 e1]; exact e2
def fact (n : Str) (p : Int × Int) : W := .tup [.str n, .int p.1, .int p.2]
theorem zt (n : Str) (p : Int × Int) (k : Nat) : Dat (k + 1) (fact n p) := .tup fun x hx => by
 rcases List.mem_cons.mp hx with rfl | hx
 ·exact .str _ _
 rcases List.mem_cons.mp hx with rfl | hx
 ·exact .int _ _
 ·rw [List.mem_singleton.mp hx]; exact .int _ _
theorem fbv_ok {F : List W} (h0 : F ≠ []) (hl : F.length<=1000) (h3 : ∀ x ∈ F, ∃ a b c, x = .tup [a, b, c]) (hd : ∀ x ∈ F, Dt 7 x) (st : S) : ug [.lst F, .int 2, .lst []] st = .ok (.dct [.inr []] [.lst F]) st := by
 unfold ug
 rw [QbN, show (5 : Nat) - 3 = 2 from rfl, rn]
 unfold QaB
 have hD : ∀ Γ, kn Γ st = .ok (.ref st.nxt) (st.new (.dct [] [])) := fun _ => rfl
 rw [ay, Qcd, hD, ad, ad, bg, ay, su, ml (bh _), ad]
 obtain ⟨Γ', s', e, y, eΓ, hP⟩ := QeG (i := 4) (body := (am (sIf (ah (runN (ae (aa 4) al) cu) (ah (af (W.int 1)) (aa 1) ce) cf)
  (am (kt (ci "list" (ci "dict" (aa 3) (ae (runN (ae (aa 4) (ae (aa 2) al)) (ax me)) (ae (runN al (opL true)) al)) fm) (ae (aa 4) al) iy))
 ao)
  ao)
 ao)) (fun done Γ s => ∃ y, Γ = [some (.lst F), some (.int 2), some (.lst []), some (.ref st.nxt), y]/\DL1 st done s) F [] [some (.lst F), some (.int 2), some (.lst []), some (.ref st.nxt), none] (st.new (.dct [] [])) ⟨none, rfl, QdZ st⟩ (by
  rintro done x Γ s hx ⟨y, rfl, hD⟩ hdl
  obtain ⟨a, b, c, rfl⟩ := h3 x hx
  have hc : ∀ s, ah (runN (ae (aa 4) al) cu) (ah (af (W.int 1)) (aa 1) ce) cf [some (.lst F), some (.int 2), some (.lst []), some (.ref st.nxt), some (.tup [a, b, c])] s = .ok (.bl true) s := fun s => by
   rw [az, dv (ib _ _ _ _ _), mq, ad, az, au, ad, bq, ad, Qbx, ad, Qgv]; rfl
  obtain ⟨s', e, h'⟩ := QeQ (Γ := [some (.lst F), some (.int 2), some (.lst []), some (.ref st.nxt), some (.tup [a, b, c])]) (rd := aa 3) (rk := runN (ae (aa 4) (ae (aa 2) al)) (ax me)) (rx := aa 4) hD (fun _ => rfl) (fun s => iz (ib _ _ _ _ _) (ev_v2 _ _ _) (QfU _ s)) (fun _ => rfl) (by omega)
  refine ⟨[some (.lst F), some (.int 2), some (.lst []), some (.ref st.nxt), some (.tup [a, b, c])], s', ?_, _, rfl, h'⟩
  show am _ _ [some (.lst F), some (.int 2), some (.lst []), some (.ref st.nxt), some (.tup [a, b, c])] s = _
  rw [ay, dg, hc, ad, bz, Qmo rfl, ay, Qbw, e, ad, ad, bg, de, ad, bg, de]) (by rw [List.length_nil]; omega)
 rw [e, eΓ, ad, bg, pb (ev_v3 _ _ _ _), so]
 exact QeR (by simpa using hP) h0 hd
theorem QiY {st : S} {Γ : Ga} {xs : List W} {ro re : Run} {w : W} (ho : ro Γ (st.new (.lst xs)) = .ok (.ref st.nxt) (st.new (.lst xs))) (he : re Γ (st.new (.lst xs)) = .ok w (st.new (.lst xs))) (hl : xs.length<=10000) :
  ci "list" ro (ae re al) iy Γ (st.new (.lst xs)) = .ok .non (st.new (.lst (xs ++ [w]))) := by
 have hk : jg (st.new (.lst xs)) (.ref st.nxt) = some "list" := by
  show MO.kind ((st.new (.lst xs)).mu st.nxt) = _
  rw [io]; rfl
 unfold ci
 rw [ho, ad, Qmo hk, bd, he, ad, bn, ad, ad]
 unfold iy
 dsimp only
 rw [io]
 show (if xs.length < sizeLine then _ else _) = _
 rw [Qmo (Qmm hl (by decide)), xl]
theorem len_new {st : S} {xs : List W} : cu [.ref st.nxt] (st.new (.lst xs)) = .ok (.int xs.length) (st.new (.lst xs)) := by
 unfold cu
 dsimp only
 rw [QiQ]
noncomputable def inB : av := (am (be 8 (runN (ae (aa 0) (ae (aa 7) (ae (aa 6) al))) (ax mf)))
 (am (sIf (ah (aa 8) (af W.non) lj)
  (am (kt (ci "list" (aa 5) (ae (aa 8) al) iy))
 ao)
  ao)
 ao))
noncomputable def lv : av := (am (lg 7 (bv (ci "dict" (aa 4) (ae (runN (ae (runN (ae (aa 0) (ae (aa 6) al)) (ax jq)) (ae (aa 3) al)) (ax me)) (ae (runN al (opL false)) al)) jf)) inB)
 (am (sIf (ah (runN (ae (aa 5) al) cu) (af ow) kc)
  (am (sd "TooMany" (ae (af (W.str "a body has too many fills")) al))
 ao)
  ao)
 ao))
section
variable {n s t : Str} {ks : List ar} {P : List (Int × Int)}
abbrev pat (n s t : Str) : W := .tup [.str n, .str s, .str t]
def ext1 (p : Int × Int) (vs : List W) : List W := vs ++ [.int p.1] ++ [.int p.2]
def ks2 (ks : List ar) (s t : Str) : List ar := ks ++ [KS s] ++ [KS t]
structure Fr (ks : List ar) (s t : Str) : Prop where
 hs : ∀ st, gr [.str s] st = .ok (.bl true) st
 ht : ∀ st, gr [.str t] st = .ok (.bl true) st
 hk : ks.all isK = true
 hl : ks.length<=50
 h1 : KS s ∉ ks
 h2 : KS t ∉ ks
 ne : s ≠ t
theorem QeL (fr : Fr ks s t) {x1 x2 : W} {vs : List W} (hd : ∀ v ∈ vs, Dat 8 v) (st : S) (y7 y8 : Option W) : ∀ (Q : List (Int × Int)) (acc : List W) (y7 y8 : Option W), acc.length + Q.length<=10000 ->
  ∃ z7 z8, fe 7 inB (Q.map (fact n)) [some (pat n s t), some x1, some x2, some (.lst []), some (.dct [.inr []] [.lst (P.map (fact n))]), some (.ref st.nxt), some (.dct ks vs), y7, y8] (st.new (.lst acc))
   = .ok (.nx [some (pat n s t), some x1, some x2, some (.lst []), some (.dct [.inr []] [.lst (P.map (fact n))]), some (.ref st.nxt), some (.dct ks vs), z7, z8]) (st.new (.lst (acc ++ Q.map fun p => .dct (ks2 ks s t) (ext1 p vs))))
 | [], acc, y7, y8, _ => ⟨y7, y8, by simp [fe]⟩
 | q :: Q, acc, y7, y8, hl => by
  rw [Qmg] at hl
  obtain ⟨z7, z8, e⟩ := QeL fr hd st none none Q (acc ++ [.dct (ks2 ks s t) (ext1 q vs)]) (some (fact n q)) (some (.dct (ks2 ks s t) (ext1 q vs))) (by rw [Qma, Qmi]; omega)
  refine ⟨z7, z8, ?_⟩
  rw [Qms, wb 7 inB _ _ _ [some (pat n s t), some x1, some x2, some (.lst []), some (.dct [.inr []] [.lst (P.map (fact n))]), some (.ref st.nxt), some (.dct ks vs), some (fact n q), some (.dct (ks2 ks s t) (ext1 q vs))] _ (st.new (.lst (acc ++ [.dct (ks2 ks s t) (ext1 q vs)]))), e]
  ·simp
  ·show inB [some (pat n s t), some x1, some x2, some (.lst []), some (.dct [.inr []] [.lst (P.map (fact n))]), some (.ref st.nxt), some (.dct ks vs), some (fact n q), y8] (st.new (.lst acc)) = _
   unfold inB
   have hm : mf [pat n s t, fact n q, .dct ks vs] (st.new (.lst acc)) = .ok (.dct (ks2 ks s t) (ext1 q vs)) (st.new (.lst acc)) := Qdt (n := n) (i := q.1) (j := q.2) (vs := vs) fr.hs fr.ht fr.hk fr.hl fr.h1 fr.h2 fr.ne hd (st.new (.lst acc))
   rw [ay, ev_s8, sv (bh _) (ev_v7 _ _ _ _ _ _ _ _) (nz _ _ _ _ _ _ _) hm, ad, ad, bg, ay, dg]
   have hi : ah (aa 8) (af W.non) lj [some (pat n s t), some x1, some x2, some (.lst []), some (.dct [.inr []] [.lst (P.map (fact n))]), some (.ref st.nxt), some (.dct ks vs), some (fact n q), some (.dct (ks2 ks s t) (ext1 q vs))] (st.new (.lst acc)) = .ok (.bl true) (st.new (.lst acc)) := rfl
   rw [hi, ad, bz, Qmo rfl, ay, Qbw, QiY (jn _ _ _ _ _ _) (ev_v8 _ _ _ _ _ _ _ _ _) (by omega), ad, ad, bg, de, ad, bg, de]
theorem out_ok (fr : Fr ks s t) {x1 x2 : W} {vs : List W} (hd : ∀ v ∈ vs, Dat 8 v) (hP : P.length<=1000) (st : S) (acc : List W) (hl : acc.length<=2000) (y6 y7 y8 : Option W) :
  ∃ z7 z8, lv [some (pat n s t), some x1, some x2, some (.lst []), some (.dct [.inr []] [.lst (P.map (fact n))]), some (.ref st.nxt), some (.dct ks vs), y7, y8] (st.new (.lst acc))
   = if acc.length + P.length<=2000 then .ok (.nx [some (pat n s t), some x1, some x2, some (.lst []), some (.dct [.inr []] [.lst (P.map (fact n))]), some (.ref st.nxt), some (.dct ks vs), z7, z8]) (st.new (.lst (acc ++ P.map fun p => .dct (ks2 ks s t) (ext1 p vs))))
    else .ex (.str "TooMany") (st.new (.lst (acc ++ P.map fun p => .dct (ks2 ks s t) (ext1 p vs)))) := by
 obtain ⟨z7, z8, e⟩ := QeL (n := n) (P := P) (x1 := x1) (x2 := x2) fr hd st none none P acc y7 y8 (by omega)
 refine ⟨z7, z8, ?_⟩
 unfold lv
 have hsrc : bv (ci "dict" (aa 4) (ae (runN (ae (runN (ae (aa 0) (ae (aa 6) al)) (ax jq)) (ae (aa 3) al)) (ax me)) (ae (runN al (opL false)) al)) jf) [some (pat n s t), some x1, some x2, some (.lst []), some (.dct [.inr []] [.lst (P.map (fact n))]), some (.ref st.nxt), some (.dct ks vs), y7, y8] (st.new (.lst acc)) = .ok (P.map (fact n)) (st.new (.lst acc)) := by
  refine ml ?_
  have hf := QaR (n := n) (ts := [s, t]) (ks := ks) (vs := vs) fr.hk (show 2<=100 by decide) (st.new (.lst acc))
  have hv : runN (ae (runN (ae (aa 0) (ae (aa 6) al)) (ax jq)) (ae (aa 3) al)) (ax me) [some (pat n s t), some x1, some x2, some (.lst []), some (.dct [.inr []] [.lst (P.map (fact n))]), some (.ref st.nxt), some (.dct ks vs), y7, y8] (st.new (.lst acc)) = .ok (.tup []) (st.new (.lst acc)) :=
   iz (iz (bh _) (nz _ _ _ _ _ _ _) hf) (ev_v3 _ _ _ _) (QfU _ _)
  have hn : runN al (opL false) [some (pat n s t), some x1, some x2, some (.lst []), some (.dct [.inr []] [.lst (P.map (fact n))]), some (.ref st.nxt), some (.dct ks vs), y7, y8] (st.new (.lst acc)) = .ok (.lst []) (st.new (.lst acc)) := rfl
  rw [ev_M, ib, ad, Qmo (show jg (st.new (.lst acc)) (.dct [.inr []] [.lst (P.map (fact n))]) = some "dict" from rfl), bd, hv, ad, bd, hn, ad, bn, ad, ad, ad]
  rfl
 rw [ay, su, hsrc, ad, e, ad, bg, ay, dg]
 have hg : ah (runN (ae (aa 5) al) cu) (af ow) kc [some (pat n s t), some x1, some x2, some (.lst []), some (.dct [.inr []] [.lst (P.map (fact n))]), some (.ref st.nxt), some (.dct ks vs), z7, z8] (st.new (.lst (acc ++ P.map fun p => .dct (ks2 ks s t) (ext1 p vs)))) = .ok (.bl (decide (2000 < acc.length + P.length))) (st.new (.lst (acc ++ P.map fun p => .dct (ks2 ks s t) (ext1 p vs)))) := by
  rw [az, dv (jn _ _ _ _ _ _), len_new, ad, au, ad]
  unfold ow
  rw [QbP, Qma, QlY]
  congr 2
  rw [decide_eq_decide]
  omega
 rw [hg, ad, bz]
 by_cases hz : acc.length + P.length<=2000
 ·rw [Qmo hz, Qmp (by simp; omega), de, ad, bg, de]
 ·rw [Qmp hz, Qmo (by simp; omega), ay, Qlz, bd, au, ad, bn, ad, ad, Qmo (show [W.str "a body has too many fills"].length<=sizeLine from show 1<=sizeLine by decide)]
  rfl
theorem outer_ok (fr : Fr ks s t) {x1 x2 : W} (hP : P.length<=1000) (st : S) : ∀ (VS : List (List W)) (acc : List W) (y6 y7 y8 : Option W), (∀ vs ∈ VS, ∀ v ∈ vs, Dat 8 v)->acc.length<=2000 ->
  (acc.length + VS.length * P.length<=2000/\∃ z6 z7 z8, fe 6 lv (VS.map (W.dct ks)) [some (pat n s t), some x1, some x2, some (.lst []), some (.dct [.inr []] [.lst (P.map (fact n))]), some (.ref st.nxt), y6, y7, y8] (st.new (.lst acc))
   = .ok (.nx [some (pat n s t), some x1, some x2, some (.lst []), some (.dct [.inr []] [.lst (P.map (fact n))]), some (.ref st.nxt), z6, z7, z8]) (st.new (.lst (acc ++ (VS.flatMap fun vs => P.map fun p => ext1 p vs).map (W.dct (ks2 ks s t))))))
 \/(2000 < acc.length + VS.length * P.length/\∃ acc', fe 6 lv (VS.map (W.dct ks)) [some (pat n s t), some x1, some x2, some (.lst []), some (.dct [.inr []] [.lst (P.map (fact n))]), some (.ref st.nxt), y6, y7, y8] (st.new (.lst acc)) = .ex (.str "TooMany") (st.new (.lst acc')))
 | [], acc, y6, y7, y8, _, hl => .inl ⟨by simpa using hl, y6, y7, y8, by simp [fe]⟩
 | vs :: VS, acc, y6, y7, y8, hv, hl => by
  obtain ⟨z7, z8, e⟩ := out_ok (n := n) (P := P) (x1 := x1) (x2 := x2) fr (hv vs QlU) hP st acc hl none y7 y8
  have hb : fe 6 lv ((vs :: VS).map (W.dct ks)) [some (pat n s t), some x1, some x2, some (.lst []), some (.dct [.inr []] [.lst (P.map (fact n))]), some (.ref st.nxt), y6, y7, y8] (st.new (.lst acc)) = ((lv [some (pat n s t), some x1, some x2, some (.lst []), some (.dct [.inr []] [.lst (P.map (fact n))]), some (.ref st.nxt), some (.dct ks vs), y7, y8] (st.new (.lst acc))).bind fun fl st' => match fl with
   | .nx Γ' => fe 6 lv (VS.map (W.dct ks)) Γ' st'
   | .ct Γ' => fe 6 lv (VS.map (W.dct ks)) Γ' st'
   | .bk Γ' => .ok (.nx Γ') st'
   | .rt w => .ok (.rt w) st') := rfl
  rw [hb, e, Qmg, Nat.succ_mul]
  by_cases hz : acc.length + P.length<=2000
  ·rw [Qmo hz, ad]
   have hl' : (acc ++ P.map fun p => W.dct (ks2 ks s t) (ext1 p vs)).length = acc.length + P.length := by rw [Qma, QlY]
   rcases outer_ok fr (x1 := x1) (x2 := x2) hP st VS (acc ++ P.map fun p => .dct (ks2 ks s t) (ext1 p vs)) (some (.dct ks vs)) z7 z8 (fun u hu => hv u (QlZ _ hu)) (by rw [hl']; exact hz) with ⟨h1, w6, w7, w8, h2⟩ | ⟨h1, acc', h2⟩
   ·rw [hl'] at h1
    refine .inl ⟨by omega, w6, w7, w8, ?_⟩
    refine h2.trans ?_
    rw [List.append_assoc, List.flatMap_cons, List.map_append, List.map_map]
    rfl
   ·rw [hl'] at h1
    exact .inr ⟨by omega, acc', h2⟩
  ·rw [Qmp hz, ii]
   exact .inr ⟨by omega, _, rfl⟩
def kd (st : S) (h : W) (n : Str) (F : List W) : Prop := ∃ m, h = .ref m/\m < st.nxt/\st.mu m = some (.dct [KS n] [.lst F])
theorem Qls {st : S} {h : W} {F : List W} {ra : Run} {Γ : Ga} {rh : Run} (hh : kd st h n F) (hr : rh Γ st = .ok h st) (ha : ra Γ st = .ok (.str n) st) : ci "dict" rh (ae ra (ae (runN al (opL false)) al)) jf Γ st = .ok (.lst F) st := by
 obtain ⟨m, rfl, _, e⟩ := hh
 have hk : jg st (.ref m) = some "dict" := by show MO.kind (st.mu m) = _; rw [e]; rfl
 have hn : runN al (opL false) Γ st = .ok (.lst []) st := rfl
 rw [ev_M, hr, ad, Qmo hk, bd, ha, ad, bd, hn, ad, bn, ad, ad, ad]
 unfold jf
 have ed : ip st (.ref m) = some ([KS n], [.lst F]) := by
  show (match st.mu m with | some (.dct ks ws) => some (ks, ws) | _ => none) = _
  rw [e]
 rw [ed]
 show (if okD [KS n] (KS n) = true then R.ok ((ck [KS n] [.lst F] (KS n)).getD (.lst [])) st else R.stuck) = _
 rw [Qmo (show okD [KS n] (KS n) = true from rfl)]
 show R.ok ((if KS n = KS n then some (W.lst F) else none).getD (.lst [])) st = _
 rw [Qmo rfl]; rfl
theorem Qgr (fr : Fr ks s t) {h : W} {st : S} (hh : kd st h n (P.map (fact n))) (hP0 : P ≠ []) (hP : P.length<=1000) {VS : List (List W)} (hV0 : VS ≠ []) (hv : ∀ vs ∈ VS, ∀ v ∈ vs, Dat 0 v) (hl : VS.length<=5000) :
  oq [pat n s t, .lst (VS.map (W.dct ks)), h] st = if VS.length * P.length<=2000 then .ok (.lst ((VS.flatMap fun vs => P.map fun p => ext1 p vs).map (W.dct (ks2 ks s t)))) st else .ex (.str "TooMany") st := by
 have e0 : oq [pat n s t, .lst (VS.map (W.dct ks)), h] st = du 1 st (yx (some (pat n s t) :: some (.lst (VS.map (W.dct ks))) :: some h :: List.replicate (9 - 3) none) st) := rfl
 rw [e0, show (9 : Nat) - 3 = 6 from rfl, ev_rep6]
 unfold yx
 cases VS with
 | nil => exact absurd rfl hV0
 | cons vs0 VS =>
  have hc : ah (runN (ae (aa 1) al) cu) (af (W.int 0)) cf [some (pat n s t), some (.lst ((vs0 :: VS).map (W.dct ks))), some h, none, none, none, none, none, none] st = .ok (.bl false) st := by
   rw [az, dv (bq _ _), QfJ, ad, au, ad, Qgv]
   congr 2
  have h1 : ah (aa 1) (af (W.int 0)) ap [some (pat n s t), some (.lst ((vs0 :: VS).map (W.dct ks))), some h, none, none, none, none, none, none] st = .ok (.dct ks vs0) st := by
   rw [az, bq, ad, au, ad]
   exact Qbu _ 0 _ (nr _ 0 _ rfl)
  rw [ay, dg, hc, ad, bz, Qmp QlQ, de, ad, bg, ay, Qcd, iz (bh _) h1 (Qiz (n := n) fr.hs fr.ht fr.hk fr.h1 fr.h2 st), ad, ad, bg, ay, yi]
  have h2 : ah (runN (ae (aa 0) al) cu) (af (W.int 1)) yf [some (pat n s t), some (.lst ((vs0 :: VS).map (W.dct ks))), some h, some (.lst []), none, none, none, none, none] st = .ok (.int 2) st := by
   rw [az, dv (bh _), mq, ad, au, ad, ev_subI]; rfl
  have hF : ug [.lst (P.map (fact n)), .int 2, .lst []] st = .ok (.dct [.inr []] [.lst (P.map (fact n))]) st := fbv_ok (by simpa using hP0) (by rw [QlY]; exact hP) (fun x hx => by
   obtain ⟨p, _, rfl⟩ := List.mem_map.mp hx
   exact ⟨_, _, _, rfl⟩) (fun x hx => by
   obtain ⟨p, _, rfl⟩ := List.mem_map.mp hx
   exact .of (zt n p 6)) st
  rw [sv (Qls hh (ev_v2 _ _ _) (by rw [az, bh, ad, au, ad, lq])) h2 (ev_v3 _ _ _ _) hF, ad, ad, bg, ay, Qcc]
  have h3 : runN al (opL true) [some (pat n s t), some (.lst ((vs0 :: VS).map (W.dct ks))), some h, some (.lst []), some (.dct [.inr []] [.lst (P.map (fact n))]), none, none, none, none] st = .ok (.ref st.nxt) (st.new (.lst [])) := rfl
  rw [h3, ad, ad, bg, ay, su, ml (bq _ _), ad]
  rcases outer_ok (n := n) fr (x1 := .lst ((vs0 :: VS).map (W.dct ks))) (x2 := h) hP st (vs0 :: VS) [] none none none (fun u hu v hv' => (hv u hu v hv').mono 8 (by omega)) (by simp) with ⟨g1, z6, z7, z8, g2⟩ | ⟨g1, acc', g2⟩
  ·unfold lv inB at g2
   rw [g2, ad, bg, pb (jn _ _ _ _ _ _), rm, Qmo (by simpa using g1)]
   refine QeJ (je st _) (QlX _) (io st _) fun x hx => ?_
   obtain ⟨us, hu, rfl⟩ := List.mem_map.mp hx
   obtain ⟨vs, hvs, hu⟩ := List.mem_flatMap.mp hu
   obtain ⟨p, _, rfl⟩ := List.mem_map.mp hu
   refine .dct fun v hv' => .of ?_
   unfold ext1 at hv'
   rcases List.mem_append.mp hv' with hv' | hv'
   ·rcases List.mem_append.mp hv' with hv' | hv'
    ·exact (hv vs hvs v hv').mono 7 (by omega)
    ·rw [List.mem_singleton.mp hv']; exact .int _ _
   ·rw [List.mem_singleton.mp hv']; exact .int _ _
  ·unfold lv inB at g2
   rw [g2, ii, Qbv, Qmp (by simp at g1 ⊢; omega)]
   exact zj (je st _)
end
theorem Dt.up {n : Nat} {w : W} (h : Dt n w) : Dt (n + 1) w := by
 induction h with
 | of h => exact .of (h.mono _ (Nat.le_succ _))
 | tup _ ih => exact .tup ih
 | lst _ ih => exact .lst ih
 | dct _ ih => exact .dct ih
theorem Qaj {a b : Str} (h : KS a = KS b) : a = b := by cases h; rfl
theorem fr1 : Fr [] "X" "Y" := ⟨free_X, free_Y, rfl, by decide, by simp, by simp, by decide +kernel⟩
theorem fr2 : Fr [KS "X", KS "Y"] "Z" "W" := ⟨free_Z, free_W, rfl, by decide, (fun z => by
  rcases List.mem_cons.mp z with z | z
  ·exact absurd (Qaj z) (by decide +kernel)
  ·exact absurd (Qaj (List.mem_singleton.mp z)) (by decide +kernel)), (fun z => by
  rcases List.mem_cons.mp z with z | z
  ·exact absurd (Qaj z) (by decide +kernel)
  ·exact absurd (Qaj (List.mem_singleton.mp z)) (by decide +kernel)), by decide +kernel⟩
theorem notin1 (L : W) (st : S) : rj (.tup []) (.dct [.inr []] [L]) st = .ok (.bl false) st := by kernel_rfl
theorem idx1 (L : W) (st : S) : ap (.dct [.inr []] [L]) (.tup []) st = .ok L st := by kernel_rfl
abbrev br (w : W) : W := .tup [.str "has", w]
theorem Qbq {x : W} {Γ : Ga} (st : S) : ah (ah (aa 0) (af (W.int 0)) ap) (af (W.str "has")) cf (some (br x) :: Γ) st = .ok (.bl true) st := by
 rw [QbY]; rfl
theorem Qgj {w F h v : W} {st s' : S} (e : oq [w, F, h] st = .ok v s') : li [br w, F, h] st = .ok v s' := by
 have e0 : li [br w, F, h] st = du 0 st (qg [some (br w), some F, some h] st) := rfl
 rw [e0]
 unfold qg
 rw [ay, dg, Qbq, ad, bz, Qmo rfl, ay, xy, ft]
 have h1 : ah (aa 0) (af (W.int 1)) ap [some (br w), some F, some h] st = .ok w st := by rw [az, bh, ad, au, ad, lf]
 rw [bd, h1, ad, bd, bq, ad, bd, ev_v2, ad, bn, ad, ad, ad, ad, e]; rfl
theorem part_x {w F h c : W} {st s' : S} (e : oq [w, F, h] st = .ex c s') : li [br w, F, h] st = .ex c s' := by
 have e0 : li [br w, F, h] st = du 0 st (qg [some (br w), some F, some h] st) := rfl
 rw [e0]
 unfold qg
 rw [ay, dg, Qbq, ad, bz, Qmo rfl, ay, xy, ft]
 have h1 : ah (aa 0) (af (W.int 1)) ap [some (br w), some F, some h] st = .ok w st := by rw [az, bh, ad, au, ad, lf]
 rw [bd, h1, ad, bd, bq, ad, bd, ev_v2, ad, bn, ad, ad, ad, ad, e]; rfl
theorem valW_in {ks : List ar} {vs : List W} {k : ar} {w : W} (h : ck ks vs k = some w) : w ∈ vs := by
 induction ks generalizing vs with
 | nil => unfold ck at h; cases h
 | cons j ks ih =>
  cases vs with
  | nil => unfold ck at h; cases h
  | cons v vs =>
   have h : (if j = k then some v else ck ks vs k) = some w := h
   by_cases e : j = k
   ·rw [Qmo e] at h; cases h; exact QlU
   ·rw [Qmp e] at h; exact QlZ _ (ih h)
theorem fw_dat {ks : List ar} {vs : List W} (h : ∀ v ∈ vs, Dat 0 v) (z : Str) : Dat 0 (fw ks vs z) := by
 unfold fw
 cases e : ck ks vs (KS z) with
 | none => exact .str _ _
 | some w => exact h w (valW_in e)
theorem QhO {n : Str} {ts : List Str} {ks : List ar} {vs : List W} (hk : ks.all isK = true) (hl : ts.length<=100) (st : S) : qj [br (.tup (.str n :: ts.map W.str)), .dct ks vs] st = .ok (br (.tup (.str n :: ts.map (fw ks vs)))) st := by
 unfold qj
 rw [lm]
 unfold QaI
 have h0 : ah (aa 0) (af (W.int 0)) ap (some (br (.tup (.str n :: ts.map W.str))) :: some (.dct ks vs) :: List.replicate (2 - 2) none) st = .ok (.str "has") st := by rw [az, bh, ad, au, ad, lq]
 have h1 : ah (aa 0) (af (W.int 1)) ap (some (br (.tup (.str n :: ts.map W.str))) :: some (.dct ks vs) :: List.replicate (2 - 2) none) st = .ok (.tup (.str n :: ts.map W.str)) st := by rw [az, bh, ad, au, ad, lf]
 have hi : mw oo (.str "has") st = .ok (.bl true) st := by kernel_rfl
 rw [ay, dg, QfF, h0, ad, hi, ad, bz, Qmo rfl]
 have hr : runN (ae (ah (aa 0) (af (W.int 0)) ap) (ae (runN (ae (ah (aa 0) (af (W.int 1)) ap) (ae (aa 1) al)) (ax jq)) al)) bp (some (br (.tup (.str n :: ts.map W.str))) :: some (.dct ks vs) :: List.replicate (2 - 2) none) st = .ok (br (.tup (.str n :: ts.map (fw ks vs)))) st := by
  rw [ft, bd, h0, ad, bd, iz h1 (bq _ _) (QaR hk hl st), ad, bn, ad, ad, ad]
  exact sk _ (show 2<=sizeLine by decide)
 rw [dq hr, ad, jr, jy]
abbrev dc (n : Str) : W := .tup [br (pat n "X" "Y"), br (pat n "Z" "W")]
theorem Qbe {src : Src} {cap : List Nat} {re : Run} {Γ : Ga} {st : S} {items : List W} (P : W->Prop) (hs : src Γ st = .ok items st) (hl : items.length<=10000) (h : ∀ x ∈ items, ∃ y, P y/\re (some x :: cw cap Γ) st = .ok y st) :
  ∃ ys : List W, ys.length = items.length/\(∀ y ∈ ys, P y)/\bx false src cap (af (.bl true)) re Γ st = .ok (.lst ys) st := by
 obtain ⟨ys, h1, h2, h3⟩ := QaT P items [] h
 refine ⟨ys, h1, h2, ?_⟩
 unfold bx
 rw [hs, ad, Qmo (Qmm hl (by decide)), h3, ad, List.nil_append]
 exact kq _ (by rw [h1]; exact Nat.le_of_lt (Qmm hl (by decide)))
theorem hasf_dt {n : Str} {ts : List Str} {ks : List ar} {vs : List W} (h : ∀ v ∈ vs, Dat 0 v) : Dat 2 (br (.tup (.str n :: ts.map (fw ks vs)))) := .tup fun x hx => by
 rcases List.mem_cons.mp hx with rfl | hx
 ·exact .str _ _
 ·rw [List.mem_singleton.mp hx]
  refine .tup fun y hy => ?_
  rcases List.mem_cons.mp hy with rfl | hy
  ·exact .str _ _
  ·obtain ⟨z, _, rfl⟩ := List.mem_map.mp hy
   exact fw_dat h z
theorem Qhw {n : Str} {ks : List ar} {vs : List W} (hk : ks.all isK = true) (hv : ∀ v ∈ vs, Dat 0 v) (st : S) : ∃ g, Dt 4 g/\uz [dc n, .dct ks vs] st = .ok g st := by
 unfold uz
 rw [lm]
 unfold QaF
 obtain ⟨ys, h1, h2, h3⟩ := Qbe (src := bv (aa 0)) (cap := [1]) (re := runN (ae (aa 0) (ae (aa 1) al)) (ax qj)) (Γ := some (dc n) :: some (.dct ks vs) :: List.replicate (2 - 2) none) (st := st) (fun y => Dat 2 y) (src_tup (bh _)) (show 2<=10000 by decide) (fun x hx => by
  have one : ∀ s t : Str, ∃ y, Dat 2 y/\runN (ae (aa 0) (ae (aa 1) al)) (ax qj) (some (br (pat n s t)) :: cw [1] (some (dc n) :: some (.dct ks vs) :: List.replicate (2 - 2) none)) st = .ok y st := fun s t =>
   ⟨_, hasf_dt (n := n) (ts := [s, t]) (ks := ks) hv, iz (bh _) (bq _ _) (QhO (n := n) (ts := [s, t]) hk (show 2<=100 by decide) st)⟩
  rcases List.mem_cons.mp hx with rfl | hx
  ·exact one _ _
  ·rw [List.mem_singleton.mp hx]; exact one _ _)
 refine ⟨.tup ys, .of (.tup fun y hy => (h2 y hy).mono 3 (by omega)), ?_⟩
 rw [dq (w := .tup ys), jy]
 rw [dv h3]
 exact zi (by rw [h1]; exact show 2<=sizeLine by decide)
abbrev K2 : List ar := [KS "X", KS "Y"]
def vs1 (P : List (Int × Int)) : List (List W) := P.map fun p => ext1 p []
def vs2 (P : List (Int × Int)) : List (List W) := (vs1 P).flatMap fun vs => P.map fun p => ext1 p vs
theorem Qbs {p : Int × Int} {vs : List W} (h : ∀ v ∈ vs, Dat 0 v) : ∀ v ∈ ext1 p vs, Dat 0 v := fun v hv => by
 unfold ext1 at hv
 rcases List.mem_append.mp hv with hv | hv
 ·rcases List.mem_append.mp hv with hv | hv
  ·exact h v hv
  ·rw [List.mem_singleton.mp hv]; exact .int _ _
 ·rw [List.mem_singleton.mp hv]; exact .int _ _
theorem Qfk (P : List (Int × Int)) : ∀ vs ∈ vs1 P, ∀ v ∈ vs, Dat 0 v := fun vs h => by
 obtain ⟨p, _, rfl⟩ := List.mem_map.mp h
 exact Qbs fun v hv => by cases hv
theorem Qfj (P : List (Int × Int)) : ∀ vs ∈ vs2 P, ∀ v ∈ vs, Dat 0 v := fun vs h => by
 obtain ⟨us, hu, h⟩ := List.mem_flatMap.mp h
 obtain ⟨p, _, rfl⟩ := List.mem_map.mp h
 exact Qbs (Qfk P us hu)
theorem Qfi (P : List (Int × Int)) : (vs2 P).length = P.length * P.length := by
 unfold vs2
 rw [List.length_flatMap]
 have : ((vs1 P).map fun a => (P.map fun p => ext1 p a).length) = (vs1 P).map fun _ => P.length := List.map_congr_left fun a _ => by rw [QlY]
 rw [this, List.map_const', List.sum_replicate_nat]
 unfold vs1
 rw [QlY]
section
variable {n : Str} {P : List (Int × Int)} {h : W} {st : S}
theorem two_ok (hh : kd st h n (P.map (fact n))) (hP0 : P ≠ []) (hP : P.length<=1000) : ∃ z, fe 3 (am (be 2 (runN (ae (aa 3) (ae (aa 2) (ae (aa 1) al))) li)) ao) [br (pat n "X" "Y"), br (pat n "Z" "W")] [some (dc n), some h, some (.lst [.dct [] []]), none] st
  = if P.length * P.length<=2000 then .ok (.nx [some (dc n), some h, some (.lst ((vs2 P).map (W.dct (ks2 K2 "Z" "W")))), some z]) st else .ex (.str "TooMany") st := by
 have a1 := Qgr (n := n) (P := P) (VS := [[]]) fr1 hh hP0 hP (by simp) (fun vs hv v hv' => by rw [List.mem_singleton.mp hv] at hv'; cases hv') (by simp)
 rw [Qmo (by simp; omega)] at a1
 have a1 : oq [pat n "X" "Y", .lst [.dct [] []], h] st = .ok (.lst ((vs1 P).map (W.dct K2))) st := by
  rw [show ([W.dct [] []] : List W) = [[]].map (W.dct []) from rfl, a1]
  unfold vs1
  simp [ks2]
 have hz : (vs1 P).length = P.length := by unfold vs1; rw [QlY]
 have a2 := Qgr (n := n) (P := P) (VS := vs1 P) fr2 hh hP0 hP (fun z => hP0 (by unfold vs1 at z; simpa using z)) (Qfk P) (by rw [hz]; omega)
 rw [hz] at a2
 refine ⟨br (pat n "Z" "W"), ?_⟩
 have step : ∀ (w : W) (L : W) (y : Option W), am (be 2 (runN (ae (aa 3) (ae (aa 2) (ae (aa 1) al))) li)) ao [some (dc n), some h, some L, some w] st = (li [w, L, h] st).bind fun v s => .ok (.nx [some (dc n), some h, some v, some w]) s := fun w L y => by
  rw [ay, pr, ft, bd, ev_v3, ad, bd, ev_v2, ad, bd, bq, ad, bn, ad, ad, ad, ad]
  cases li [w, L, h] st with
  | ok v s => rfl
  | ex c s => rfl
  | stuck => rfl
 rw [wb 3 _ _ _ _ [some (dc n), some h, some (.lst ((vs1 P).map (W.dct K2))), some (br (pat n "X" "Y"))] st st]
 ·show ((am _ ao [some (dc n), some h, some (.lst ((vs1 P).map (W.dct K2))), some (br (pat n "Z" "W"))] st).bind _) = _
  rw [step _ _ none]
  by_cases hq : P.length * P.length<=2000
  ·rw [Qmo hq] at a2 ⊢
   rw [Qgj a2, ad, ad]
   rfl
  ·rw [Qmp hq] at a2 ⊢
   rw [part_x a2, ii, ii]
 ·show am _ ao [some (dc n), some h, some (.lst [.dct [] []]), some (br (pat n "X" "Y"))] st = _
  rw [step _ _ none, Qgj a1, ad]
theorem ok4 : (ks2 K2 "Z" "W").all isK = true := by kernel_rfl
theorem fills_ok (hh : kd st h n (P.map (fact n))) (hP0 : P ≠ []) (hP : P.length<=1000) :
  (P.length * P.length<=2000/\∃ L, L.length = P.length * P.length/\(∀ y ∈ L, ∃ f g, y = .tup [f, g]/\Dt 5 f/\Dt 5 g)/\ni [dc n, h] st = .ok (.lst L) st)\/(2000 < P.length * P.length/\ni [dc n, h] st = .ex (.str "TooMany") st) := by
 have e0 : ni [dc n, h] st = du 0 st (zf [some (dc n), some h, none, none] st) := by
  unfold ni
  rw [QfH, show (4 : Nat) - 2 = 2 from rfl, rn]
 rw [e0]
 unfold zf
 have h1 : runN (ae se al) (opL false) [some (dc n), some h, none, none] st = .ok (.lst [.dct [] []]) st := rfl
 rw [ay, pr, h1, ad, ad, bg, ay, su, src_tup (bh _), ad]
 obtain ⟨z, e⟩ := two_ok hh hP0 hP
 rw [e]
 by_cases hq : P.length * P.length<=2000
 ·rw [Qmo hq, ad, bg]
  obtain ⟨ys, g1, g2, g3⟩ := Qbe (src := bv (aa 2)) (cap := [0]) (re := runN (ae (aa 0) (ae (runN (ae (aa 1) (ae (aa 0) al)) (ax uz)) al)) bp) (Γ := [some (dc n), some h, some (.lst ((vs2 P).map (W.dct (ks2 K2 "Z" "W")))), some z]) (st := st) (fun y => ∃ f g, y = .tup [f, g]/\Dt 5 f/\Dt 5 g) (ml (ev_v2 _ _ _)) (by rw [QlY, Qfi]; omega) (fun x hx => by
   obtain ⟨vs, hvs, rfl⟩ := List.mem_map.mp hx
   obtain ⟨g, hg, eg⟩ := Qhw (n := n) (ks := ks2 K2 "Z" "W") (vs := vs) ok4 (Qfj P vs hvs) st
   refine ⟨.tup [.dct (ks2 K2 "Z" "W") vs, g], ⟨_, _, rfl, .dct fun v hv => .of ((Qfj P vs hvs v hv).mono 4 (by omega)), ?_⟩, ?_⟩
   ·exact hg.up
   ·rw [show cw [0] [some (dc n), some h, some (.lst ((vs2 P).map (W.dct (ks2 K2 "Z" "W")))), some z] = [some (dc n)] from rfl, ft, bd, bh, ad, bd, iz (bq _ _) (bh _) eg, ad, bn, ad, ad, ad]
    exact sk _ (show 2<=sizeLine by decide))
  refine .inl ⟨hq, ys, by rw [g1, QlY, Qfi], g2, ?_⟩
  rw [dq g3, ms]
 ·rw [Qmp hq, ii, QbQ]
  exact .inr ⟨by omega, rfl⟩
end
theorem QdQ {i j : Nat} {body : av} (P : List (W × W)->Ga->S->Prop) : ∀ (items done : List (W × W)) (Γ : Ga) (s : S), P done Γ s->(∀ done x Γ s, x ∈ items->P done Γ s->done.length<=5000->∃ Γ' s', body ((Γ.set i (some x.1)).set j (some x.2)) s = .ok (.nx Γ') s'/\P (done ++ [x]) Γ' s')->done.length + items.length<=5000 ->
  ∃ Γ' s', dw i j body items Γ s = .ok (.nx Γ') s'/\P (done ++ items) Γ' s'
 | [], done, Γ, s, h, _, _ => ⟨Γ, s, rfl, by rw [List.append_nil]; exact h⟩
 | x :: xs, done, Γ, s, h, st, hl => by
  rw [Qmg] at hl
  obtain ⟨Γ1, s1, e1, h1⟩ := st done x Γ s QlU h (by omega)
  obtain ⟨Γ2, s2, e2, h2⟩ := QdQ P xs (done ++ [x]) Γ1 s1 h1 (fun d y Γ s hy => st d y Γ s (QlZ _ hy)) (by rw [Qma, Qmi]; omega)
  refine ⟨Γ2, s2, ?_, by rw [List.append_assoc] at h2; exact h2⟩
  rw [ql e1]; exact e2
theorem kd.new {st : S} {h : W} {n : Str} {F : List W} (hh : kd st h n F) (o : MO) : kd (st.new o) h n F := by
 obtain ⟨m, e, hm, q⟩ := hh
 exact ⟨m, e, Nat.lt_succ_of_lt hm, (je st o m hm).trans q⟩
theorem QeC : ∀ {L : List W}, (∀ y ∈ L, ∃ f g, y = .tup [f, g]/\Dt 5 f/\Dt 5 g)->∃ ps : List (W × W), mr L = some ps/\L = ps.map (fun p => .tup [p.1, p.2])/\∀ p ∈ ps, Dt 5 p.1/\Dt 5 p.2
 | [], _ => ⟨[], rfl, rfl, fun p h => by cases h⟩
 | y :: L, h => by
  obtain ⟨f, g, rfl, hf, hg⟩ := h y QlU
  obtain ⟨ps, e1, e2, e3⟩ := QeC fun z hz => h z (QlZ _ hz)
  refine ⟨(f, g) :: ps, ?_, by rw [Qms, <-e2], fun p hp => ?_⟩
  ·show (mr L).map ((f, g) :: ·) = _
   rw [e1]; rfl
  ·rcases List.mem_cons.mp hp with rfl | hp
   ·exact ⟨hf, hg⟩
   ·exact e3 p hp
theorem exB (c : W) (s : S) {Γ : Ga} {st : S} {r : Run} (h : r Γ st = .ex c s) : am (ba r) ao Γ st = .ex c s := by
 rw [ay, xy, h]; rfl
abbrev fc (n n1 k v : Str) : W := .tup [.str "gather", .tup [.str n1, .str "N"], .str k, .str "N", .str v, .tup [], dc n]
abbrev ku (n n1 : Str) : W := .tup [.str "rule", .tup [.str n1, .str "Z"], dc n]
theorem rule0_5 {n n1 k v : Str} {Γ : Ga} {st : S} : ah (aa 0) (af (W.int 5)) ap (some (fc n n1 k v) :: Γ) st = .ok (.tup []) st := by
 rw [az, bh, ad, au, ad]
 exact rp _ 5 _ (nr _ 5 _ rfl)
theorem rule0_6 {n n1 k v : Str} {Γ : Ga} {st : S} : ah (aa 0) (af (W.int 6)) ap (some (fc n n1 k v) :: Γ) st = .ok (dc n) st := by
 rw [az, bh, ad, au, ad]
 exact rp _ 6 _ (nr _ 6 _ rfl)
section
variable {n n1 k v : Str} {P : List (Int × Int)} {h : W} {st : S}
theorem groups_ok (hh : kd st h n (P.map (fact n))) (hP0 : P ≠ []) (hP : P.length<=1000) :
  (P.length * P.length<=2000/\∃ ps : List (W × W), ps.length = P.length * P.length/\ng [fc n n1 k v, h] st = .ok (.dct [.inr []] [.lst (ps.map fun p => .tup [p.1, p.2])]) st)\/(2000 < P.length * P.length/\ng [fc n n1 k v, h] st = .ex (.str "TooMany") st) := by
 have e0 : ng [fc n n1 k v, h] st = du 1 st (zc [some (fc n n1 k v), some h, none, none, none, none] st) := by
  unfold ng
  rw [QfH, show (6 : Nat) - 2 = 4 from rfl, Qbt]
 rw [e0]
 unfold zc
 have hD : ∀ Γ, kn Γ st = .ok (.ref st.nxt) (st.new (.dct [] [])) := fun _ => rfl
 rw [ay, pr, hD, ad, ad, bg, ay]
 have hi : ∀ r : R W, ni [dc n, h] (st.new (.dct [] [])) = r->runN (ae (ah (aa 0) (af (W.int 6)) ap) (ae (aa 1) al)) ni [some (fc n n1 k v), some h, some (.ref st.nxt), none, none, none] (st.new (.dct [] [])) = r := fun r e => by
  rw [ft, bd, rule0_6, ad, bd, bq, ad, bn, ad, ad, ad, e]
 rcases fills_ok (hh.new (.dct [] [])) hP0 hP with ⟨hq, L, hL, hy, e⟩ | ⟨hq, e⟩
 ·obtain ⟨ps, p1, p2, p3⟩ := QeC hy
  have hpl : ps.length = P.length * P.length := by rw [<-hL, p2, QlY]
  refine .inl ⟨hq, ps, hpl, ?_⟩
  unfold nu
  rw [hi _ e, ad]
  have e1 : mv (.lst L) = some ps := p1
  rw [e1]
  show ((dw 3 4 _ ps _ _).bind _ |> du 1 st) = _
  obtain ⟨Γ', s', el, y3, y4, y5, eΓ, hQ⟩ := QdQ (i := 3) (j := 4) (body := (am (be 5 (runN (ae (bx false (bv (ah (aa 0) (af (W.int 5)) ap)) [3] (af (.bl true)) (ah (aa 1) (aa 0) ap)) al) ki))
 (am (kt (ci "list" (ci "dict" (aa 2) (ae (aa 5) (ae (runN al (opL true)) al)) fm) (ae (runN (ae (aa 3) (ae (aa 4) al)) bp) al) iy))
 ao))) (fun done Γ s => ∃ y3 y4 y5, Γ = [some (fc n n1 k v), some h, some (.ref st.nxt), y3, y4, y5]/\DL1 st (done.map fun p => .tup [p.1, p.2]) s) ps [] [some (fc n n1 k v), some h, some (.ref st.nxt), none, none, none] (st.new (.dct [] [])) ⟨none, none, none, rfl, QdZ st⟩ (by
   rintro done ⟨f, g⟩ Γ s hx ⟨y3, y4, y5, rfl, hD⟩ hdl
   have hk : runN (ae (bx false (bv (ah (aa 0) (af (W.int 5)) ap)) [3] (af (.bl true)) (ah (aa 1) (aa 0) ap)) al) ki [some (fc n n1 k v), some h, some (.ref st.nxt), some f, some g, y5] s = .ok (.tup []) s := by
    have hc : bx false (bv (ah (aa 0) (af (W.int 5)) ap)) [3] (af (.bl true)) (ah (aa 1) (aa 0) ap) [some (fc n n1 k v), some h, some (.ref st.nxt), some f, some g, y5] s = .ok (.lst []) s :=
     xi (items := []) id (src_tup rule0_5) (show 0 < sizeLine by decide) (fun x hx => by cases hx)
    rw [dv hc]
    exact zi (show 0<=sizeLine by decide)
   obtain ⟨s', e, h'⟩ := QeQ (Γ := [some (fc n n1 k v), some h, some (.ref st.nxt), some f, some g, some (.tup [])]) (rd := aa 2) (rk := aa 5) (rx := runN (ae (aa 3) (ae (aa 4) al)) bp) (x := .tup [f, g]) hD (fun _ => rfl) (fun _ => rfl) (fun s => by
    rw [ft, bd, ev_v3, ad, bd, ib, ad, bn, ad, ad, ad]
    exact sk _ (show 2<=sizeLine by decide)) (by rw [QlY]; omega)
   refine ⟨[some (fc n n1 k v), some h, some (.ref st.nxt), some f, some g, some (.tup [])], s', ?_, _, _, _, rfl, by rw [List.map_append]; exact h'⟩
   show am _ _ [some (fc n n1 k v), some h, some (.ref st.nxt), some f, some g, y5] s = _
   rw [ay, Qcc, hk, ad, ad, bg, ay, Qbw, e, ad, ad, bg, de]) (by rw [List.length_nil]; omega)
  rw [el, eΓ, ad, bg, pb (ev_v2 _ _ _)]
  show du 1 st _ = _
  rw [rm]
  refine QeR (by simpa using hQ) (fun z => ?_) (fun x hx => ?_)
  ·have : ps.length = 0 := by rw [<-QlY (f := fun p : W × W => W.tup [p.1, p.2]), z]; rfl
   have h0 : 0 < P.length := List.length_pos_iff.mpr hP0
   have := Nat.mul_pos h0 h0
   omega
  ·obtain ⟨p, hp, rfl⟩ := List.mem_map.mp hx
   refine Dt.up (.tup fun y hy => ?_)
   rcases List.mem_cons.mp hy with rfl | hy
   ·exact (p3 p hp).1
   ·rw [List.mem_singleton.mp hy]; exact (p3 p hp).2
 ·refine .inr ⟨hq, ?_⟩
  unfold nu
  rw [hi _ e, ii, ii, Qbv]
  exact zj (je st _)
theorem Qdb {st : S} {Γc : Ga} : ∀ (ps : List (W × W)) (acc : List W), jt (af (.bl true)) (aa 1) Γc ps acc st = .ok (acc ++ ps.map (·.2)) st
 | [], acc => by simp [jt]
 | p :: ps, acc => by
  show jt (af (.bl true)) (aa 1) Γc ps (acc ++ [p.2]) st = _
  rw [Qdb ps]; simp
theorem Qfs (ps : List (W × W)) : mv (.lst (ps.map fun p => .tup [p.1, p.2])) = some ps := by
 show mr (ps.map fun p => .tup [p.1, p.2]) = some ps
 induction ps with
 | nil => rfl
 | cons p ps ih =>
  show (mr (ps.map fun p => .tup [p.1, p.2])).map ((p.1, p.2) :: ·) = _
  rw [ih]; rfl
theorem gog_ok {ps : List (W × W)} (hl : ps.length<=5000) (st : S) : yo [.lst (ps.map fun p => .tup [p.1, p.2])] st = .ok (.tup (ps.map (·.2))) st := by
 unfold yo
 rw [xz]
 unfold Qaz
 have hc : qt false (aa 0) [] (af (.bl true)) (aa 1) (some (.lst (ps.map fun p => .tup [p.1, p.2])) :: List.replicate (1 - 1) none) st = .ok (.lst (ps.map (·.2))) st := by
  unfold qt
  rw [bh, ad, Qfs]
  show (if ps.length < sizeLine then (jt (af (.bl true)) (aa 1) _ ps [] st).bind (opL false) else .stuck) = _
  rw [Qmo (Qmm hl (by decide)), Qdb, ad, List.nil_append]
  exact kq _ (by rw [QlY]; exact Nat.le_of_lt (Qmm hl (by decide)))
 rw [dq (w := .tup (ps.map (·.2))), jy]
 rw [dv hc]
 exact zi (by rw [QlY]; exact Nat.le_of_lt (Qmm hl (by decide)))
theorem Qkv {ps : List (W × W)} {r f : W} (h0 : 0 < ps.length) (hl : ps.length<=5000) (st : S) : uw [r, .dct [.inr []] [.lst (ps.map fun p => .tup [p.1, p.2])], f, .tup [], .tup []] st = .ok (.bl false) st := by
 have e0 : uw [r, .dct [.inr []] [.lst (ps.map fun p => .tup [p.1, p.2])], f, .tup [], .tup []] st = jl 0 st (yy [some r, some (.dct [.inr []] [.lst (ps.map fun p => .tup [p.1, p.2])]), some f, some (.tup []), some (.tup []), none, none] st) := by
  unfold uw di
  rw [Qmo (show ([r, .dct [.inr []] [.lst (ps.map fun p => .tup [p.1, p.2])], f, .tup [], .tup []] : List W).length = 5 from rfl)]
  rfl
 rw [e0]
 unfold yy
 rw [ay, dg, az, ev_v3, ad, bq, ad, notin1, ad, bz, Qmp QlQ, de, ad, bg, ay, Qcc, az, bq, ad, ev_v3, ad, idx1, ad, ad, bg, ay, ev_s6, ph (jn _ _ _ _ _ _) (gog_ok hl st), ad, ad, bg, ay, dg]
 have hc : ah (runN (ae (aa 6) al) cu) (runN (ae (aa 4) al) cu) dk [some r, some (.dct [.inr []] [.lst (ps.map fun p => .tup [p.1, p.2])]), some f, some (.tup []), some (.tup []), some (.lst (ps.map fun p => .tup [p.1, p.2])), some (.tup (ps.map (·.2)))] st = .ok (.bl true) st := by
  rw [az, dv (nz _ _ _ _ _ _ _), mq, ad, dv (ib _ _ _ _ _), mq, ad, Qan]
  congr 2
  rw [QlY, List.length_nil]
  simp
  intro z
  rw [z] at h0
  exact absurd h0 (by decide)
 rw [oa, hc, ad, bz, Qmo rfl, ad, bz, Qmo rfl, dq (au _), ad, jr, jy]
theorem QfG (nl fz : Nat) (run : av) (a b c d e : W) : gm 5 nl fz run [a, b, c, d, e] st = du fz st (run (some a :: some b :: some c :: some d :: some e :: List.replicate (nl - 5) none) st) := Qmq rfl rfl
theorem of_ok {f : W} (hh : kd st h n (P.map (fact n))) (hP0 : P ≠ []) (hP : P.length<=1000) : ou [f, fc n n1 k v, .tup [], .tup [], h] st = if P.length * P.length<=2000 then .ok (.bl false) st else .ex (.str "TooMany") st := by
 have e0 : ou [f, fc n n1 k v, .tup [], .tup [], h] st = du 0 st (zb [some f, some (fc n n1 k v), some (.tup []), some (.tup []), some h] st) := by
  unfold ou
  rw [QfG, show (5 : Nat) - 5 = 0 from rfl, Qag]
 rw [e0]
 unfold zb
 have hi : ir (fc n n1 k v) .non st = .ok (.bl false) st := rfl
 rw [ay, dg, az, bq, ad, au, ad, hi, ad, bz, Qmp QlQ, de, ad, bg]
 have hg : ∀ r : R W, ng [fc n n1 k v, h] st = r->runN (ae (aa 1) (ae (aa 4) al)) ng [some f, some (fc n n1 k v), some (.tup []), some (.tup []), some h] st = r := fun r e => by
  rw [ft, bd, bq, ad, bd, ib, ad, bn, ad, ad, ad, e]
 rcases groups_ok (n1 := n1) (k := k) (v := v) hh hP0 hP with ⟨hq, ps, hpl, e⟩ | ⟨hq, e⟩
 ·rw [Qmo hq, dq (w := .bl false), ms]
  have h0 : 0 < P.length := List.length_pos_iff.mpr hP0
  have h1 := Nat.mul_pos h0 h0
  have ht := Qkv (r := fc n n1 k v) (f := f) (ps := ps) (by omega) (by omega) st
  rw [ft, bd, bq, ad, bd, hg _ e, ad, bd, bh, ad, bd, ev_v2, ad, bd, ev_v3, ad, bn, ad, ad, ad, ad, ad, ad, wt, ht]; rfl
 ·rw [Qmp (by omega), exB (.str "TooMany") st, QbQ]
  rw [ft, bd, bq, ad, bd, hg _ e, ii, ii, ii]
end
def kf (n : Str) (p : Int × Int) : ar := .inr [.inr n, .inl p.1, .inl p.2]
theorem Qgp {n : Str} {p q : Int × Int} (h : kf n p = kf n q) : p = q := by
 unfold kf at h
 have h1 := Sum.inr.inj h
 simp only [List.cons.injEq, Sum.inl.injEq, and_true, true_and] at h1
 exact Prod.ext h1.1 h1.2
theorem QfK (n : Str) (p q : Int × Int) : eqD 12 (fact n q) (fact n p) = some (decide (q = p)) := by
 have e : eqD 12 (fact n q) (fact n p) = some (((n == n) && ((q.1 == p.1) && ((q.2 == p.2) && true))) && ((3 : Nat) == 3)) := rfl
 rw [e]
 congr 1
 obtain ⟨a, b⟩ := p
 obtain ⟨c, d⟩ := q
 by_cases h1 : c = a
 ·by_cases h2 : d = b
  ·simp [h1, h2]
  ·simp [h1, h2]
 ·simp [h1]
theorem QeN (n : Str) (p : Int × Int) : ∀ Q : List (Int × Int), inD (fact n p) (Q.map (fact n)) = some (decide (p ∈ Q))
 | [] => by simp [inD]
 | q :: Q => by
  rw [Qms]
  unfold inD
  rw [QfK, QeN n p Q]
  show some (decide (q = p) || decide (p ∈ Q)) = _
  congr 1
  rw [Bool.eq_iff_iff, Bool.or_eq_true, decide_eq_true_eq, decide_eq_true_eq, decide_eq_true_eq, List.mem_cons]
  exact ⟨fun h => h.imp Eq.symm id, fun h => h.imp Eq.symm id⟩
theorem in_lst (n : Str) (p : Int × Int) (Q : List (Int × Int)) (st : S) : dn (fact n p) (.lst (Q.map (fact n))) st = .ok (.bl (decide (p ∈ Q))) st := by
 have e : lp st (fact n p) (.lst (Q.map (fact n))) = none := rfl
 have e2 : inW st (fact n p) (.lst (Q.map (fact n))) = some (decide (p ∈ Q)) := QeN n p Q
 unfold dn
 rw [e]
 show Qas _ _ _ = _
 unfold Qas
 rw [e2]
abbrev kA (n : Str) (A : List (Int × Int)) : List ar := A.map (kf n)
abbrev vA (A : List (Int × Int)) : List W := A.map fun _ => .bl true
theorem okT (n : Str) (A : List (Int × Int)) (t : List Key) : okD (kA n A) (.inr t) = true := by
 unfold okD
 rw [Qmv]
 intro j hj
 obtain ⟨p, _, rfl⟩ := List.mem_map.mp hj
 rfl
theorem Qgo {n : Str} {A : List (Int × Int)} {p : Int × Int} : kf n p ∈ kA n A ↔ p ∈ A := by
 constructor
 ·intro h
  obtain ⟨q, hq, e⟩ := List.mem_map.mp h
  rw [<-Qgp e]; exact hq
 ·exact fun h => List.mem_map.mpr ⟨p, h, rfl⟩
theorem valT (n : Str) (p : Int × Int) : ∀ A : List (Int × Int), (ck (kA n A) (vA A) (kf n p)).isSome = decide (p ∈ A)
 | [] => by unfold ck; simp
 | q :: A => by
  show (if kf n q = kf n p then some (W.bl true) else ck (kA n A) (vA A) (kf n p)).isSome = _
  by_cases h : q = p
  ·subst h; rw [Qmo rfl]; simp
  ·rw [Qmp (fun z => h (Qgp z)), valT n p A, Bool.eq_iff_iff]
   simp [show ¬ p = q from fun z => h z.symm]
theorem QaM (st : S) (ks : List ar) (vs : List W) : ip (st.new (.dct ks vs)) (.ref st.nxt) = some (ks, vs) := by
 show (match (st.new (.dct ks vs)).mu st.nxt with | some (.dct ks ws) => some (ks, ws) | _ => none) = _
 rw [io]
theorem QeM {w : W} {t : List Key} (hw : fi w = some (.inr t)) (n : Str) (A : List (Int × Int)) (st : S) : dn w (.ref st.nxt) (st.new (.dct (kA n A) (vA A))) = .ok (.bl (ck (kA n A) (vA A) (.inr t)).isSome) (st.new (.dct (kA n A) (vA A))) := by
 have e : lp (st.new (.dct (kA n A) (vA A))) w (.ref st.nxt) = some (ck (kA n A) (vA A) (.inr t)).isSome := by
  unfold lp
  rw [hw, QaM]
  show (if okD (kA n A) (.inr t) = true then some (ck (kA n A) (vA A) (.inr t)).isSome else none) = _
  rw [Qmo (okT n A t)]
 unfold dn
 rw [e]
theorem QdT (n : Str) (p : Int × Int) (A : List (Int × Int)) (st : S) : dn (fact n p) (.ref st.nxt) (st.new (.dct (kA n A) (vA A))) = .ok (.bl (decide (p ∈ A))) (st.new (.dct (kA n A) (vA A))) := by
 rw [QeM (t := [.inr n, .inl p.1, .inl p.2]) rfl, <-valT n p A]; rfl
theorem QdU (n n1 : Str) (i : Int) (A : List (Int × Int)) (st : S) : dn (.tup [.str n1, .int i]) (.ref st.nxt) (st.new (.dct (kA n A) (vA A))) = .ok (.bl false) (st.new (.dct (kA n A) (vA A))) := by
 rw [QeM (t := [.inr n1, .inl i]) rfl, QaU]
 ·rfl
 ·intro h
  obtain ⟨q, _, e⟩ := List.mem_map.mp h
  unfold kf at e
  have := congrArg List.length (Sum.inr.inj e)
  simp at this
def gq (A : List (Int × Int)) (p : Int × Int) : List (Int × Int) := if p ∈ A then A else A ++ [p]
theorem QdN (k : ar) (n : Str) : ∀ A : List (Int × Int), sy k (.bl true) (kA n A) (vA A) = vA A
 | [] => rfl
 | q :: A => by
  show (if kf n q = k then W.bl true else W.bl true) :: sy k (.bl true) (kA n A) (vA A) = W.bl true :: vA A
  rw [QdN k n A]
  split <;> rfl
theorem QdM (n : Str) (p : Int × Int) (A : List (Int × Int)) (hl : A.length<=1000) (st : S) : jj (.ref st.nxt) (fact n p) (.bl true) (st.new (.dct (kA n A) (vA A))) = .ok () (st.new (.dct (kA n (gq A p)) (vA (gq A p)))) := by
 have e0 : jj (.ref st.nxt) (fact n p) (.bl true) (st.new (.dct (kA n A) (vA A))) = xr st.nxt (fact n p) (.bl true) (st.new (.dct (kA n A) (vA A))) ((st.new (.dct (kA n A) (vA A))).mu st.nxt) (fi (fact n p)) := rfl
 rw [e0, io, show fi (fact n p) = some (kf n p) from rfl]
 show (if okD (kA n A) (kf n p) = true/\(kA n A).length < sizeLine then R.ok () ((st.new (.dct (kA n A) (vA A))).put st.nxt (.dct (dl (kA n A) (vA A) (kf n p) (.bl true)).1 (dl (kA n A) (vA A) (kf n p) (.bl true)).2)) else R.stuck) = _
 rw [Qmo ⟨okT n A _, by rw [QlY]; exact Qmm hl (by decide)⟩, xl]
 unfold gq
 by_cases h : p ∈ A
 ·rw [Qmo h]
  unfold dl
  rw [Qmo ((QeP _ _).mpr (Qgo.mpr h))]
  show R.ok () (st.new (.dct (kA n A) (sy (kf n p) (.bl true) (kA n A) (vA A)))) = _
  rw [QdN]
 ·rw [Qmp h, QaZ (fun z => h (Qgo.mp z))]
  simp only [List.map_append, Qms, List.map_nil]
theorem Qdu (n : Str) (A : List (Int × Int)) (hl : A.length<=1000) (st : S) : kj false [.ref st.nxt] (st.new (.dct (kA n A) (vA A))) = .ok (.lst (A.map (fact n))) (st.new (.dct (kA n A) (vA A))) := by
 unfold kj
 dsimp only
 rw [QaM]
 show (if ((kA n A).all fun k => !isK k) = true then opL false ((kA n A).map fun k => uc (tOf k)) (st.new (.dct (kA n A) (vA A))) else R.stuck) = _
 have h1 : ((kA n A).all fun k => !isK k) = true := by
  rw [Qmv]
  intro j hj
  obtain ⟨p, _, rfl⟩ := List.mem_map.mp hj
  rfl
 have h2 : ((kA n A).map fun k => uc (tOf k)) = A.map (fact n) := by
  rw [List.map_map]
  exact List.map_congr_left fun p _ => rfl
 rw [Qmo h1, h2]
 exact kq _ (by rw [QlY]; exact ig hl)
theorem cmp0 {k y : Str} {r : List W} {Γ : Ga} {st : S} (h : (k == y) = false) : ah (ah (aa 0) (af (W.int 0)) ap) (af (W.str y)) cf (some (.tup (.str k :: r)) :: Γ) st = .ok (.bl false) st := by rw [QbY, h]
theorem cmp0t {k : Str} {r : List W} {Γ : Ga} {st : S} : ah (ah (aa 0) (af (W.int 0)) ap) (af (W.str k)) cf (some (.tup (.str k :: r)) :: Γ) st = .ok (.bl true) st := by rw [QbY]; simp
abbrev told : W := .tup [.str "told"]
theorem Qlt (st : S) : qi [told] st = .ok (.lst []) st := by
 unfold qi
 rw [xz, show (3 : Nat) - 1 = 2 from rfl, rn]
 unfold yz
 have h1 : runN al (opL true) [some told, none, none] st = .ok (.ref st.nxt) (st.new (.lst [])) := rfl
 rw [ay, dg, cmp0 (by decide +kernel), ad, bz, Qmp QlQ, de, ad, bg, ay, ev_s1, h1, ad, ad, bg, ay, dg, cmp0 (by decide +kernel), ad, bz, Qmp QlQ, de, ad, bg, pb (bq _ _), so]
 exact QeJ (je st _) (QlX _) (io st _) fun x hx => by cases hx
abbrev byR (gs : List W) : W := .tup [.str "by", .int 1, .tup gs]
theorem gin_by {gs : List W} (hl : gs.length<=1000) (hd : ∀ g ∈ gs, Dt 7 g) (st : S) : qi [byR gs] st = .ok (.lst gs) st := by
 unfold qi
 rw [xz, show (3 : Nat) - 1 = 2 from rfl, rn]
 unfold yz
 have h2 : ah (aa 0) (af (W.int 2)) ap [some (byR gs), none, none] st = .ok (.tup gs) st := by rw [az, bh, ad, au, ad, yg]
 have h1 : runN (ae (ah (aa 0) (af (W.int 2)) ap) al) (kj false) [some (byR gs), none, none] st = .ok (.lst gs) st := by rw [dv h2, listT hl]
 rw [ay, dg, cmp0t, ad, bz, Qmo rfl, dq h1, ad, jr, so]
 exact Qak (fun _ _ => rfl) (.lst hd)
theorem Qlu (st : S) : qd [told, .str "has"] st = .ok (.lst []) st := by
 unfold qd
 rw [lm, show (4 : Nat) - 2 = 2 from rfl, rn]
 unfold yp
 have hD : ∀ Γ, kn Γ st = .ok (.ref st.nxt) (st.new (.dct (kA "" []) (vA []))) := fun _ => rfl
 rw [ay, pr, hD, ad, ad, bg, ay, su, ml (ph (bh _) (Qlt _)), ad]
 show jl 1 st ((R.ok (Fl.nx _) _).bind _) = _
 rw [ad, bg, pb ((dv (ev_v2 _ _ _)).trans (Qdu "" [] (by decide) st)), so]
 exact Qak (je st _) (.lst fun x hx => by cases hx)
theorem QiD (st : S) : kg [told] st = .ok (.lst []) st := by
 unfold kg
 rw [xz]
 unfold ze
 rw [dq (iz (bh _) (au _) (Qlu st)), jy]
noncomputable def fogB : av := (am (sIf (ah (ah (aa 3) (af (W.int 0)) ap) (aa 1) cf)
  (am (ju (aa 2) (ah (aa 3) (af (W.int 1)) ap) (af (W.bl true)))
 ao)
  ao)
 ao)
theorem QfE (n : Str) (p : Int × Int) (A : List (Int × Int)) (hl : A.length<=1000) (st : S) (r : W) : fogB [some r, some (.str "has"), some (.ref st.nxt), some (br (fact n p))] (st.new (.dct (kA n A) (vA A))) = .ok (.nx [some r, some (.str "has"), some (.ref st.nxt), some (br (fact n p))]) (st.new (.dct (kA n (gq A p)) (vA (gq A p)))) := by
 unfold fogB
 have h0 : ∀ s, ah (ah (aa 3) (af (W.int 0)) ap) (aa 1) cf [some r, some (.str "has"), some (.ref st.nxt), some (br (fact n p))] s = .ok (.bl true) s := fun s => by
  rw [az, az, ev_v3, ad, au, ad, lq, ad, bq, ad, Qao]; simp
 have h1 : ∀ s, ah (aa 3) (af (W.int 1)) ap [some r, some (.str "has"), some (.ref st.nxt), some (br (fact n p))] s = .ok (fact n p) s := fun s => by
  rw [az, ev_v3, ad, au, ad, lf]
 rw [ay, dg, h0, ad, bz, Qmo rfl, ay, Qbc, au, ad, ev_v2, ad, h1, ad, QdM n p A hl, ad, ad, bg, de, ad, bg, de]
abbrev gs2 (n : Str) (p q : Int × Int) : List W := [br (fact n p), br (fact n q)]
theorem QeO (n : Str) (p : Int × Int) (k : Nat) : Dat (k + 2) (br (fact n p)) := .tup fun x hx => by
 rcases List.mem_cons.mp hx with rfl | hx
 ·exact .str _ _
 ·rw [List.mem_singleton.mp hx]; exact zt n p k
theorem QfY (A : List (Int × Int)) (p : Int × Int) : (gq A p).length<=A.length + 1 := by
 unfold gq
 split
 ·omega
 ·rw [Qma, Qmi]; exact QlX _
theorem QkG (n : Str) (p q : Int × Int) (st : S) : kg [byR (gs2 n p q)] st = .ok (.lst ((gq [p] q).map (fact n))) st := by
 have hg : ∀ g ∈ gs2 n p q, Dt 7 g := fun g hg => by
  rcases List.mem_cons.mp hg with rfl | hg
  ·exact .of (QeO n p 5)
  ·rw [List.mem_singleton.mp hg]; exact .of (QeO n q 5)
 have hf : qd [byR (gs2 n p q), .str "has"] st = .ok (.lst ((gq [p] q).map (fact n))) st := by
  unfold qd
  rw [lm, show (4 : Nat) - 2 = 2 from rfl, rn]
  unfold yp
  have hD : ∀ Γ, kn Γ st = .ok (.ref st.nxt) (st.new (.dct (kA n []) (vA []))) := fun _ => rfl
  rw [ay, pr, hD, ad, ad, bg, ay, su, ml (ph (bh _) (gin_by (gs := gs2 n p q) (show 2<=1000 by decide) hg _)), ad]
  have e1 := QfE n p [] (by decide) st (byR (gs2 n p q))
  have e2 := QfE n q (gq [] p) (show 1<=1000 by decide) st (byR (gs2 n p q))
  unfold fogB at e1 e2
  rw [wb 3 _ _ _ _ _ _ _ e1, wb 3 _ _ _ _ _ _ _ e2]
  show jl 1 st ((R.ok (Fl.nx _) _).bind _) = _
  have hl : (gq (gq [] p) q).length<=1000 := by
   have := QfY (gq [] p) q
   rw [show (gq [] p).length = 1 from rfl] at this
   omega
  rw [ad, bg, pb ((dv (ev_v2 _ _ _)).trans (Qdu n _ hl st)), so]
  refine Qak (je st _) (.lst fun x hx => ?_)
  obtain ⟨r, _, rfl⟩ := List.mem_map.mp hx
  exact .of (zt n r 6)
 unfold kg
 rw [xz]
 unfold ze
 rw [dq (iz (bh _) (au _) hf), jy]
theorem add_mem {p q x : Int × Int} : x ∈ gq [p] q ↔ x = p\/x = q := by
 unfold gq
 split
 ·rename_i h
  rw [List.mem_singleton] at h ⊢
  rw [h]; simp
 ·simp
theorem Qgu {s t n : Str} {p : Int × Int} {ks : List ar} {vs : List W} (fr : Fr ks s t) (hd : ∀ v ∈ vs, Dat 8 v) (st : S) : qe [br (pat n s t), br (fact n p), .dct ks vs] st = .ok (.dct (ks2 ks s t) (ext1 p vs)) st := by
 unfold qe
 rw [QbN, show (3 : Nat) - 3 = 0 from rfl, Qag]
 unfold QaD
 have h0 : ah (aa 0) (af (W.int 0)) ap [some (br (pat n s t)), some (br (fact n p)), some (.dct ks vs)] st = .ok (.str "has") st := by rw [az, bh, ad, au, ad, lq]
 have h1 : ah (aa 1) (af (W.int 0)) ap [some (br (pat n s t)), some (br (fact n p)), some (.dct ks vs)] st = .ok (.str "has") st := by rw [az, bq, ad, au, ad, lq]
 have h2 : ah (aa 0) (af (W.int 1)) ap [some (br (pat n s t)), some (br (fact n p)), some (.dct ks vs)] st = .ok (pat n s t) st := by rw [az, bh, ad, au, ad, lf]
 have h3 : ah (aa 1) (af (W.int 1)) ap [some (br (pat n s t)), some (br (fact n p)), some (.dct ks vs)] st = .ok (fact n p) st := by rw [az, bq, ad, au, ad, lf]
 have hi : mw oo (.str "has") st = .ok (.bl true) st := by kernel_rfl
 have hm : mf [pat n s t, fact n p, .dct ks vs] st = .ok (.dct (ks2 ks s t) (ext1 p vs)) st := Qdt (n := n) (i := p.1) (j := p.2) (vs := vs) fr.hs fr.ht fr.hk fr.hl fr.h1 fr.h2 fr.ne hd st
 rw [ay, dg, az, h0, ad, h1, ad, QbO, ad, bz, Qmp (by simp), de, ad, bg, ay, dg, QfF, h0, ad, hi, ad, bz, Qmo rfl, dq (sv h2 h3 (ev_v2 _ _ _) hm), ad, jr, jy]
abbrev yh (p q : Int × Int) : W := .dct (ks2 K2 "Z" "W") (ext1 q (ext1 p []))
theorem fbgs_ok (n : Str) (p q : Int × Int) (st : S) : yq [dc n, .tup (gs2 n p q)] st = .ok (yh p q) st := by
 unfold yq
 rw [lm, show (5 : Nat) - 2 = 3 from rfl, ev_rep3]
 unfold QaA
 have hl : ah (runN (ae (aa 0) al) cu) (runN (ae (aa 1) al) cu) dk [some (dc n), some (.tup (gs2 n p q)), none, none, none] st = .ok (.bl false) st := by
  rw [az, dv (bh _), mq, ad, dv (bq _ _), mq, ad, Qan]; rfl
 have hD : ∀ Γ, se Γ st = .ok (.dct [] []) st := fun _ => rfl
 rw [ay, dg, hl, ad, bz, Qmp QlQ, de, ad, bg, ay, pr, hD, ad, ad, bg, ay]
 have step : ∀ (w g f v : W), qe [w, g, f] st = .ok v st->isD v .non = some false->(am (be 2 (runN (ae (aa 3) (ae (aa 4) (ae (aa 2) al))) (ax qe)))
 (am (sIf (ah (aa 2) (af W.non) ir)
  (am (ba (af W.non))
 ao)
  ao)
 ao)) [some (dc n), some (.tup (gs2 n p q)), some f, some w, some g] st = .ok (.nx [some (dc n), some (.tup (gs2 n p q)), some v, some w, some g]) st := fun w g f v e hn => by
  have hi : ir v .non st = .ok (.bl false) st := by unfold ir; rw [hn]
  rw [ay, pr, sv (ev_v3 _ _ _ _) (ib _ _ _ _ _) (ev_v2 _ _ _) e, ad, ad, bg, ay, dg, az, ev_v2, ad, au, ad, hi, ad, bz, Qmp QlQ, de, ad, bg, de]
 have e1 := step (br (pat n "X" "Y")) (br (fact n p)) (.dct [] []) _ (Qgu (n := n) (p := p) fr1 (fun v hv => by cases hv) st) rfl
 have e2 := step (br (pat n "Z" "W")) (br (fact n q)) (.dct (ks2 [] "X" "Y") (ext1 p [])) _ (Qgu (n := n) (p := q) (ks := ks2 [] "X" "Y") fr2 (fun v hv => (Qbs (fun v hv => by cases hv) v hv).mono 8 (by omega)) st) rfl
 have hA : (ae (aa 0) (ae (aa 1) al)) [some (dc n), some (.tup (gs2 n p q)), some (.dct [] []), none, none] st = .ok [dc n, .tup (gs2 n p q)] st := by rw [bd, bh, ad, bd, bq, ad, bn, ad, ad]
 have hB : pz [dc n, .tup (gs2 n p q)] st = .ok [(br (pat n "X" "Y"), br (fact n p)), (br (pat n "Z" "W"), br (fact n q))] st := rfl
 unfold nt
 rw [hA, ad, hB, ad, ql e1, ql e2]
 show jl 0 st ((R.ok (Fl.nx _) st).bind _) = _
 rw [ad, bg, dq (ev_v2 _ _ _), jy]
 rfl
theorem so_ok (x h : W) (st : S) : ut [br x, h] st = .ok (.bl true) st := by
 unfold ut
 rw [lm, show (2 : Nat) - 2 = 0 from rfl, Qag]
 unfold QaE
 rw [ay, dg, Qbq, ad, bz, Qmo rfl, dq (au _), ad, jr, jy]
abbrev fact2 (n1 : Str) (i : Int) : W := .tup [.str n1, .int i]
theorem by_ok (n n1 : Str) (p q : Int × Int) (h : W) (st : S) : vg [fact2 n1 q.1, ku n n1, .tup (gs2 n p q), h] st = .ok (.bl true) st := by
 have e0 : vg [fact2 n1 q.1, ku n n1, .tup (gs2 n p q), h] st = jl 0 st (zd [some (fact2 n1 q.1), some (ku n n1), some (.tup (gs2 n p q)), some h, none] st) := by
  unfold vg di
  rw [Qmo (show ([fact2 n1 q.1, ku n n1, .tup (gs2 n p q), h] : List W).length = 4 from rfl)]
  rfl
 rw [e0]
 unfold zd
 have hi : ∀ f : Option W, ah (aa 1) (af W.non) ir [some (fact2 n1 q.1), some (ku n n1), some (.tup (gs2 n p q)), some h, f] st = .ok (.bl false) st := fun _ => by rw [az, bq, ad, au, ad]; rfl
 have h2 : ah (aa 1) (af (W.int 2)) ap [some (fact2 n1 q.1), some (ku n n1), some (.tup (gs2 n p q)), some h, none] st = .ok (dc n) st := by rw [az, bq, ad, au, ad, yg]
 rw [ay, dg, hi, ad, bz, Qmp QlQ, de, ad, bg, ay, yi, iz h2 (ev_v2 _ _ _) (fbgs_ok n p q st), ad, ad, bg, ay, dg]
 have h1 : ah (aa 1) (af (W.int 1)) ap [some (fact2 n1 q.1), some (ku n n1), some (.tup (gs2 n p q)), some h, some (yh p q)] st = .ok (.tup [.str n1, .str "Z"]) st := by rw [az, bq, ad, au, ad, lf]
 have hf : jq [.tup [.str n1, .str "Z"], yh p q] st = .ok (fact2 n1 q.1) st := by
  have e := QaR (n := n1) (ts := ["Z"]) (ks := ks2 K2 "Z" "W") (vs := ext1 q (ext1 p [])) ok4 (show 1<=100 by decide) st
  have ez : fw (ks2 K2 "Z" "W") (ext1 q (ext1 p [])) "Z" = .int q.1 := by kernel_rfl
  rw [Qms, Qms, ez] at e
  exact e
 have hn : dk (fact2 n1 q.1) (fact2 n1 q.1) st = .ok (.bl false) st := by
  have e : dk (fact2 n1 q.1) (fact2 n1 q.1) st = .ok (.bl (!(((n1 == n1) && ((q.1 == q.1) && true)) && ((2 : Nat) == 2)))) st := rfl
  rw [e]; simp
 have h3 : ah (aa 4) (af W.non) ir [some (fact2 n1 q.1), some (ku n n1), some (.tup (gs2 n p q)), some h, some (yh p q)] st = .ok (.bl false) st := by rw [az, ib, ad, au, ad]; rfl
 rw [oa, h3, ad, bz, Qmp QlQ, az, iz h1 (ib _ _ _ _ _) hf, ad, bh, ad, hn, ad, bz, Qmp QlQ, de, ad, bg]
 have hc : bx false (bv (aa 2)) [3] (af (.bl true)) (runN (ae (aa 0) (ae (aa 1) al)) (ax ut)) [some (fact2 n1 q.1), some (ku n n1), some (.tup (gs2 n p q)), some h, some (yh p q)] st = .ok (.lst ((gs2 n p q).map fun _ => W.bl true)) st :=
  xi (fun _ => W.bl true) (src_tup (ev_v2 _ _ _)) (show 2 < sizeLine by decide) (fun x hx => by
   rcases List.mem_cons.mp hx with rfl | hx
   ·exact iz (bh _) (bq _ _) (so_ok _ _ _)
   ·rw [List.mem_singleton.mp hx]; exact iz (bh _) (bq _ _) (so_ok _ _ _))
 rw [dq (w := .bl true), jy]
 rw [dv hc]; rfl
abbrev ofR : W := .tup [.str "of", .int 0, .tup [], .tup []]
theorem cmp1 {k y : Str} {r : List W} {a : Option W} {Γ : Ga} {st : S} : ah (ah (aa 1) (af (W.int 0)) ap) (af (W.str y)) cf (a :: some (.tup (.str k :: r)) :: Γ) st = .ok (.bl (k == y)) st := by
 rw [az, az, bq, ad, au, ad, lq, ad, au, ad, Qao]
section
variable {n n1 k v : Str} {P : List (Int × Int)} {h : W} {st : S}
abbrev rls (n n1 k v : Str) : W := .lst [fc n n1 k v, ku n n1]
theorem Qbk (f r R T : W) : ke [f, r, R, T, h] st = du 0 st (qf [some f, some r, some R, some T, some h] st) := by
 unfold ke
 rw [QfG, show (5 : Nat) - 5 = 0 from rfl, Qag]
theorem rs_told (p : Int × Int) (R : W) : ke [fact n p, told, R, .lst (P.map (fact n)), h] st = .ok (.bl (decide (p ∈ P))) st := by
 rw [Qbk]
 unfold qf
 rw [ay, dg, cmp1, show (("told" : Str) == "told") = true by decide +kernel, ad, bz, Qmo rfl, dq (w := .bl (decide (p ∈ P))), ad, jr, ms]
 rw [az, bh, ad, ev_v3, ad, in_lst]
theorem named0 : qh [rls n n1 k v, .int 0, .str "gather"] st = .ok (fc n n1 k v) st := by kernel_rfl
theorem named1 : qh [rls n n1 k v, .int 1, .str "rule"] st = .ok (ku n n1) st := by kernel_rfl
theorem rs_by (p q : Int × Int) (T : W) : ke [fact2 n1 q.1, byR (gs2 n p q), rls n n1 k v, T, h] st = .ok (.bl true) st := by
 rw [Qbk]
 unfold qf
 rw [ay, dg, cmp1, show (("by" : Str) == "told") = false by decide +kernel, ad, bz, Qmp QlQ, de, ad, bg, ay, dg, cmp1, show (("by" : Str) == "by") = true by decide +kernel, ad, bz, Qmo rfl]
 have h1 : ah (aa 1) (af (W.int 1)) ap [some (fact2 n1 q.1), some (byR (gs2 n p q)), some (rls n n1 k v), some T, some h] st = .ok (.int 1) st := by rw [az, bq, ad, au, ad, lf]
 have h2 : ah (aa 1) (af (W.int 2)) ap [some (fact2 n1 q.1), some (byR (gs2 n p q)), some (rls n n1 k v), some T, some h] st = .ok (.tup (gs2 n p q)) st := by rw [az, bq, ad, au, ad, yg]
 rw [dq (callN4 (bh _) (sv (ev_v2 _ _ _) h1 (au _) named1) h2 (ib _ _ _ _ _) (by_ok n n1 p q h st)), ad, jr, ms]
theorem rs_of (f T : W) (hh : kd st h n (P.map (fact n))) (hP0 : P ≠ []) (hP : P.length<=1000) : ke [f, ofR, rls n n1 k v, T, h] st = if P.length * P.length<=2000 then .ok (.bl false) st else .ex (.str "TooMany") st := by
 rw [Qbk]
 unfold qf
 rw [ay, dg, cmp1, show (("of" : Str) == "told") = false by decide +kernel, ad, bz, Qmp QlQ, de, ad, bg, ay, dg, cmp1, show (("of" : Str) == "by") = false by decide +kernel, ad, bz, Qmp QlQ, de, ad, bg]
 have h1 : ah (aa 1) (af (W.int 1)) ap [some f, some ofR, some (rls n n1 k v), some T, some h] st = .ok (.int 0) st := by rw [az, bq, ad, au, ad, lf]
 have h2 : ah (aa 1) (af (W.int 2)) ap [some f, some ofR, some (rls n n1 k v), some T, some h] st = .ok (.tup []) st := by rw [az, bq, ad, au, ad, yg]
 have h3 : ah (aa 1) (af (W.int 3)) ap [some f, some ofR, some (rls n n1 k v), some T, some h] st = .ok (.tup []) st := by
  rw [az, bq, ad, au, ad]
  exact rp _ 3 _ (nr _ 3 _ rfl)
 have hr : ∀ r : R W, ou [f, fc n n1 k v, .tup [], .tup [], h] st = r->runN (ae (aa 0) (ae (runN (ae (aa 2) (ae (ah (aa 1) (af (W.int 1)) ap) (ae (af (W.str "gather")) al))) (ax qh)) (ae (ah (aa 1) (af (W.int 2)) ap) (ae (ah (aa 1) (af (W.int 3)) ap) (ae (aa 4) al))))) ou [some f, some ofR, some (rls n n1 k v), some T, some h] st = r := fun r e => by
  rw [ft, bd, bh, ad, bd, sv (ev_v2 _ _ _) h1 (au _) named0, ad, bd, h2, ad, bd, h3, ad, bd, ib, ad, bn, ad, ad, ad, ad, ad, ad, e]
 have ho := of_ok (n1 := n1) (k := k) (v := v) (f := f) hh hP0 hP
 by_cases hq : P.length * P.length<=2000
 ·rw [Qmo hq] at ho ⊢
  rw [dq (hr _ ho), ms]
 ·rw [Qmp hq] at ho ⊢
  rw [exB _ _ (hr _ ho), QbQ]
end
theorem QeW {α : Type} (g : α->Bool) : ∀ xs : List α, mz (xs.map fun x => W.bl (g x)) = some (xs.map g)
 | [] => rfl
 | x :: xs => by
  show (mz (xs.map fun x => W.bl (g x))).map (g x :: ·) = _
  rw [QeW g xs]; rfl
noncomputable def stB : av := (am (sIf (gf (ah (aa 5) (aa 4) dn) (km (runN (ae (aa 5) (ae (aa 6) (ae (aa 1) (ae (aa 2) (ae (aa 3) al))))) ke)))
  (am (ba (af (W.bl false)))
 ao)
  ao)
 (am (sIf (km (runN (ae (bx false (bv (runN (ae (aa 6) al) (ax kg))) [4] (af (.bl true)) (ah (aa 0) (aa 1) dn)) al) nv))
  (am (ba (af (W.bl false)))
 ao)
  ao)
 (am (ju (aa 4) (aa 5) (af (W.bl true)))
 ao)))
theorem QbF {f r Ru T H a0 : W} {x : R W} {s : S} {m : Nat} (e : ke [f, r, Ru, T, H] s = x) : runN (ae (aa 5) (ae (aa 6) (ae (aa 1) (ae (aa 2) (ae (aa 3) al))))) ke [some a0, some Ru, some T, some H, some (.ref m), some f, some r] s = x := by
 rw [ft, bd, jn, ad, bd, nz, ad, bd, bq, ad, bd, ev_v2, ad, bd, ev_v3, ad, bn, ad, ad, ad, ad, ad, ad, e]
section
variable {n n1 k v : Str} {P A : List (Int × Int)} {h a0 Ru T f r : W} {st : S}
theorem Qfl {B : List (Int × Int)} (e1 : dn f (.ref st.nxt) (st.new (.dct (kA n A) (vA A))) = .ok (.bl false) (st.new (.dct (kA n A) (vA A)))) (e2 : ke [f, r, Ru, T, h] (st.new (.dct (kA n A) (vA A))) = .ok (.bl true) (st.new (.dct (kA n A) (vA A)))) (e3 : kg [r] (st.new (.dct (kA n A) (vA A))) = .ok (.lst (B.map (fact n))) (st.new (.dct (kA n A) (vA A)))) (hB : B.length<=1000) :
  stB [some a0, some Ru, some T, some h, some (.ref st.nxt), some f, some r] (st.new (.dct (kA n A) (vA A))) = if (B.map fun x => decide (x ∈ A)).all id = true then am (ju (aa 4) (aa 5) (af (W.bl true))) ao [some a0, some Ru, some T, some h, some (.ref st.nxt), some f, some r] (st.new (.dct (kA n A) (vA A))) else .ok (.rt (.bl false)) (st.new (.dct (kA n A) (vA A))) := by
 unfold stB
 rw [ay, dg, oa, az, jn, ad, ib, ad, e1, ad, bz, Qmp QlQ, Qam, QbF e2, ad, Qad, ad, bz, Qmp (by simp), de, ad, bg, ay, dg]
 have hc : bx false (bv (runN (ae (aa 6) al) (ax kg))) [4] (af (.bl true)) (ah (aa 0) (aa 1) dn) [some a0, some Ru, some T, some h, some (.ref st.nxt), some f, some r] (st.new (.dct (kA n A) (vA A))) = .ok (.lst (B.map fun x => W.bl (decide (x ∈ A)))) (st.new (.dct (kA n A) (vA A))) := by
  obtain ⟨ys, g⟩ : ∃ ys : List W, bx false (bv (runN (ae (aa 6) al) (ax kg))) [4] (af (.bl true)) (ah (aa 0) (aa 1) dn) [some a0, some Ru, some T, some h, some (.ref st.nxt), some f, some r] (st.new (.dct (kA n A) (vA A))) = .ok (.lst ys) (st.new (.dct (kA n A) (vA A)))/\ys = B.map fun x => W.bl (decide (x ∈ A)) := by
   have hs : bv (runN (ae (aa 6) al) (ax kg)) [some a0, some Ru, some T, some h, some (.ref st.nxt), some f, some r] (st.new (.dct (kA n A) (vA A))) = .ok (B.map (fact n)) (st.new (.dct (kA n A) (vA A))) := ml (ph (nz _ _ _ _ _ _ _) e3)
   refine ⟨_, ?_, rfl⟩
   unfold bx
   rw [hs, ad, Qmo (by rw [QlY]; exact Qmm hB (by decide))]
   have go : ∀ (C : List (Int × Int)) (acc : List W), compGo (af (.bl true)) (ah (aa 0) (aa 1) dn) (cw [4] [some a0, some Ru, some T, some h, some (.ref st.nxt), some f, some r]) (C.map (fact n)) acc (st.new (.dct (kA n A) (vA A))) = .ok (acc ++ C.map fun x => W.bl (decide (x ∈ A))) (st.new (.dct (kA n A) (vA A))) := by
    intro C
    induction C with
    | nil => intro acc; simp [compGo]
    | cons x C ih =>
     intro acc
     have hx : ah (aa 0) (aa 1) dn (some (fact n x) :: cw [4] [some a0, some Ru, some T, some h, some (.ref st.nxt), some f, some r]) (st.new (.dct (kA n A) (vA A))) = .ok (.bl (decide (x ∈ A))) (st.new (.dct (kA n A) (vA A))) := by
      show ah (aa 0) (aa 1) dn [some (fact n x), some (.ref st.nxt)] _ = _
      rw [az, bh, ad, bq, ad, QdT]
     rw [Qms]
     show ((ah (aa 0) (aa 1) dn (some (fact n x) :: cw [4] [some a0, some Ru, some T, some h, some (.ref st.nxt), some f, some r]) (st.new (.dct (kA n A) (vA A)))).calm.bind fun y st2 => compGo (af (.bl true)) (ah (aa 0) (aa 1) dn) _ (C.map (fact n)) (acc ++ [y]) st2) = _
     rw [hx, rq, ad, ih]
     simp
   rw [go B [], ad, List.nil_append]
   exact kq _ (by rw [QlY]; exact ig hB)
  rw [g.1, g.2]
 have ha : nv [.lst (B.map fun x => W.bl (decide (x ∈ A)))] (st.new (.dct (kA n A) (vA A))) = .ok (.bl ((B.map fun x => decide (x ∈ A)).all id)) (st.new (.dct (kA n A) (vA A))) := by
  show (match mz (B.map fun x => W.bl (decide (x ∈ A))) with | some bs => R.ok (W.bl (bs.all id)) (st.new (.dct (kA n A) (vA A))) | none => .stuck) = _
  rw [QeW]
 rw [Qam, dv hc, ha, ad, Qad, ad, bz]
 by_cases hq : (B.map fun x => decide (x ∈ A)).all id = true
 ·rw [Qmo hq, hq, Qmp (by simp), de, ad, bg]
 ·rw [Qmp hq, Qmo (by simpa using hq), dq (au _), ad, jr]
theorem st_told {p : Int × Int} (hp : p ∈ P) (hA : p ∉ A) (hl : A.length<=1000) : stB [some a0, some Ru, some (.lst (P.map (fact n))), some h, some (.ref st.nxt), some (fact n p), some told] (st.new (.dct (kA n A) (vA A))) = .ok (.nx [some a0, some Ru, some (.lst (P.map (fact n))), some h, some (.ref st.nxt), some (fact n p), some told]) (st.new (.dct (kA n (A ++ [p])) (vA (A ++ [p])))) := by
 have e2 := rs_told (n := n) (P := P) (h := h) (st := st.new (.dct (kA n A) (vA A))) p Ru
 rw [show decide (p ∈ P) = true from decide_eq_true hp] at e2
 have e1 := QdT n p A st
 rw [show decide (p ∈ A) = false from Qmw hA] at e1
 rw [Qfl (B := []) e1 e2 (QiD _) (by decide), Qmo (show ((([] : List (Int × Int)).map fun x => decide (x ∈ A)).all id) = true from rfl), ay, Qbc, au, ad, ib, ad, jn, ad, QdM n p A hl, ad, ad, bg, de]
 unfold gq
 rw [Qmp hA]
theorem Qbi (rest : List (W × W)) : ∀ (Q A : List (Int × Int)) (x5 x6 : Option W), (A ++ Q).Nodup->(∀ q ∈ Q, q ∈ P)->A.length + Q.length<=1000 ->
  ∃ y5 y6, dw 5 6 stB (Q.map (fun p => (fact n p, told)) ++ rest) [some a0, some Ru, some (.lst (P.map (fact n))), some h, some (.ref st.nxt), x5, x6] (st.new (.dct (kA n A) (vA A))) = dw 5 6 stB rest [some a0, some Ru, some (.lst (P.map (fact n))), some h, some (.ref st.nxt), y5, y6] (st.new (.dct (kA n (A ++ Q)) (vA (A ++ Q))))
 | [], A, x5, x6, _, _, _ => ⟨x5, x6, by rw [List.append_nil]; rfl⟩
 | q :: Q, A, x5, x6, hn, hs, hl => by
  rw [Qmg] at hl
  have hA : q ∉ A := fun z => by
   have := (List.nodup_append.mp hn).2.2 q z q QlU
   exact this rfl
  obtain ⟨y5, y6, e⟩ := Qbi rest Q (A ++ [q]) (some (fact n q)) (some told) (by rw [List.append_assoc]; exact hn) (fun x hx => hs x (QlZ _ hx)) (by rw [Qma, Qmi]; omega)
  refine ⟨y5, y6, ?_⟩
  rw [Qms, List.cons_append, ql (st_told (hs q QlU) hA (by omega)), e, List.append_assoc]
  rfl
theorem QaH (ps : List (W × W)) : ja [.lst (ps.map fun p => .tup [p.1, p.2]), Ru, T, h] st = du 1 st ((dw 5 6 stB ps [some (.lst (ps.map fun p => .tup [p.1, p.2])), some Ru, some T, some h, some (.ref st.nxt), none, none] (st.new (.dct (kA n []) (vA [])))).bind (kSeq (am (ba (ah (runN (ae (aa 0) al) cu) (af (W.int 0)) kc)) ao))) := by
 have e0 : ja [.lst (ps.map fun p => .tup [p.1, p.2]), Ru, T, h] st = du 1 st (zm [some (.lst (ps.map fun p => .tup [p.1, p.2])), some Ru, some T, some h, none, none, none] st) := by
  unfold ja gm
  rw [Qmo (show ([.lst (ps.map fun p => .tup [p.1, p.2]), Ru, T, h] : List W).length = 4 from rfl)]
  rfl
 rw [e0]
 unfold zm
 have hD : ∀ Γ, kn Γ st = .ok (.ref st.nxt) (st.new (.dct (kA n []) (vA []))) := fun _ => rfl
 rw [ay, yi, hD, ad, ad, bg, ay]
 unfold nu
 rw [bh, ad, Qfs]
 rfl
theorem QfA {ps : List (W × W)} (h0 : ps ≠ []) {s : S} {Γ : Ga} : am (ba (ah (runN (ae (aa 0) al) cu) (af (W.int 0)) kc)) ao (some (.lst (ps.map fun p => .tup [p.1, p.2])) :: Γ) s = .ok (.rt (.bl true)) s := by
 refine dq ?_
 rw [az, dv (bh _), QfJ, ad, au, ad, QbP, QlY]
 have : 0 < ps.length := List.length_pos_iff.mpr h0
 congr 2
 simp
 omega
theorem Qac {o : MO} {b : Bool} : keep st (st.new o) (.bl b) = .ok (.bl b) st := Qak (je st _) (.of (.bl _ _))
theorem Qic (hP0 : P ≠ []) (hP : P.length<=1000) (hn : P.Nodup) : ja [.lst ((P.map fun p => (fact n p, told)).map fun p => .tup [p.1, p.2]), Ru, .lst (P.map (fact n)), h] st = .ok (.bl true) st := by
 rw [QaH (n := n)]
 obtain ⟨y5, y6, e⟩ := Qbi (n := n) (P := P) (a0 := .lst ((P.map fun p => (fact n p, told)).map fun p => .tup [p.1, p.2])) (Ru := Ru) (h := h) (st := st) [] P [] none none (by simpa using hn) (fun q hq => hq) (by simpa using hP)
 rw [List.append_nil] at e
 rw [e]
 show du 1 st ((R.ok (Fl.nx _) _).bind _) = _
 rw [ad, bg, QfA (by simpa using hP0), rm, Qac]
theorem QdJ {p q : Int × Int} {A : List (Int × Int)} (hA : ∀ a ∈ A, a ∈ P) (hl : A.length<=100) (hn : A.Nodup) :
  ja [.lst ((A.map (fun p => (fact n p, told)) ++ [(fact2 n1 q.1, byR (gs2 n p q))]).map fun p => .tup [p.1, p.2]), rls n n1 k v, .lst (P.map (fact n)), h] st = .ok (.bl (decide (p ∈ A/\q ∈ A))) st := by
 rw [QaH (n := n)]
 obtain ⟨y5, y6, e⟩ := Qbi (n := n) (P := P) (a0 := .lst ((A.map (fun p => (fact n p, told)) ++ [(fact2 n1 q.1, byR (gs2 n p q))]).map fun p => .tup [p.1, p.2])) (Ru := rls n n1 k v) (h := h) (st := st) [(fact2 n1 q.1, byR (gs2 n p q))] A [] none none (by simpa using hn) hA (by simp; omega)
 rw [e, List.nil_append]
 have eb := Qfl (A := A) (B := gq [p] q) (a0 := .lst ((A.map (fun p => (fact n p, told)) ++ [(fact2 n1 q.1, byR (gs2 n p q))]).map fun p => .tup [p.1, p.2])) (Ru := rls n n1 k v) (T := .lst (P.map (fact n))) (h := h) (f := fact2 n1 q.1) (r := byR (gs2 n p q)) (QdU n n1 q.1 A st) (rs_by (n := n) (n1 := n1) (k := k) (v := v) p q _) (QkG n p q _) (by have := QfY [p] q; simp at this; omega)
 have hall : ((gq [p] q).map fun x => decide (x ∈ A)).all id = decide (p ∈ A/\q ∈ A) := by
  rw [Bool.eq_iff_iff, Qmv, decide_eq_true_eq]
  constructor
  ·intro g
   exact ⟨by simpa using g _ (List.mem_map.mpr ⟨p, add_mem.mpr (.inl rfl), rfl⟩), by simpa using g _ (List.mem_map.mpr ⟨q, add_mem.mpr (.inr rfl), rfl⟩)⟩
  ·rintro ⟨g1, g2⟩ b hb
   obtain ⟨x, hx, rfl⟩ := List.mem_map.mp hb
   rcases add_mem.mp hx with rfl | rfl
   ·simpa using g1
   ·simpa using g2
 rw [hall] at eb
 have hb : ∀ Γ s, dw 5 6 stB [(fact2 n1 q.1, byR (gs2 n p q))] Γ s = ((stB ((Γ.set 5 (some (fact2 n1 q.1))).set 6 (some (byR (gs2 n p q)))) s).bind fun fl st' => match fl with
   | .nx Γ' => .ok (.nx Γ') st'
   | .ct Γ' => .ok (.nx Γ') st'
   | .bk Γ' => .ok (.nx Γ') st'
   | .rt w => .ok (.rt w) st') := fun _ _ => rfl
 rw [hb]
 show du 1 st (((stB [some (.lst ((A.map (fun p => (fact n p, told)) ++ [(fact2 n1 q.1, byR (gs2 n p q))]).map fun p => .tup [p.1, p.2])), some (rls n n1 k v), some (.lst (P.map (fact n))), some h, some (.ref st.nxt), some (fact2 n1 q.1), some (byR (gs2 n p q))] (st.new (.dct (kA n A) (vA A)))).bind _).bind _) = _
 rw [eb]
 by_cases hq : p ∈ A/\q ∈ A
 ·rw [decide_eq_true hq, Qmo rfl, ay, Qbc, au, ad, ib, ad, jn, ad]
  have es : jj (.ref st.nxt) (fact2 n1 q.1) (.bl true) (st.new (.dct (kA n A) (vA A))) = .ok () (st.new (.dct (kA n A ++ [.inr [.inr n1, .inl q.1]]) (vA A ++ [.bl true]))) := by
   have e0 : jj (.ref st.nxt) (fact2 n1 q.1) (.bl true) (st.new (.dct (kA n A) (vA A))) = xr st.nxt (fact2 n1 q.1) (.bl true) (st.new (.dct (kA n A) (vA A))) ((st.new (.dct (kA n A) (vA A))).mu st.nxt) (fi (fact2 n1 q.1)) := rfl
   rw [e0, io, show fi (fact2 n1 q.1) = some (.inr [.inr n1, .inl q.1]) from rfl]
   show (if okD (kA n A) (.inr [.inr n1, .inl q.1]) = true/\(kA n A).length < sizeLine then R.ok () ((st.new (.dct (kA n A) (vA A))).put st.nxt (.dct (dl (kA n A) (vA A) (.inr [.inr n1, .inl q.1]) (.bl true)).1 (dl (kA n A) (vA A) (.inr [.inr n1, .inl q.1]) (.bl true)).2)) else R.stuck) = _
   rw [Qmo ⟨okT n A _, by rw [QlY]; exact Qmm hl (by decide)⟩, xl, QaZ]
   intro z
   obtain ⟨x, _, e⟩ := List.mem_map.mp z
   unfold kf at e
   have := congrArg List.length (Sum.inr.inj e)
   simp at this
  rw [es, ad, ad, bg, de, ad]
  show du 1 st ((R.ok (Fl.nx _) _).bind _) = _
  rw [ad, bg, QfA (by simp), rm, Qac]
 ·rw [Qmw hq, Qmp QlQ, ad]
  show du 1 st ((R.ok (Fl.rt _) _).bind _) = _
  rw [ad, jr, rm, Qac]
theorem Qjg {i : Int} (hh : kd st h n (P.map (fact n))) (hP0 : P ≠ []) (hP : P.length<=1000) : ja [.lst ([(fact2 n1 i, ofR)].map fun p => .tup [p.1, p.2]), rls n n1 k v, T, h] st = if P.length * P.length<=2000 then .ok (.bl false) st else .ex (.str "TooMany") st := by
 rw [QaH (n := n)]
 have hr := rs_of (n1 := n1) (k := k) (v := v) (fact2 n1 i) T (hh.new (.dct (kA n []) (vA []))) hP0 hP
 have hb : ∀ Γ s, dw 5 6 stB [(fact2 n1 i, ofR)] Γ s = ((stB ((Γ.set 5 (some (fact2 n1 i))).set 6 (some ofR)) s).bind fun fl st' => match fl with
   | .nx Γ' => .ok (.nx Γ') st'
   | .ct Γ' => .ok (.nx Γ') st'
   | .bk Γ' => .ok (.nx Γ') st'
   | .rt w => .ok (.rt w) st') := fun _ _ => rfl
 rw [hb]
 show du 1 st (((stB [some (.lst ([(fact2 n1 i, ofR)].map fun p => .tup [p.1, p.2])), some (rls n n1 k v), some T, some h, some (.ref st.nxt), some (fact2 n1 i), some ofR] (st.new (.dct (kA n []) (vA [])))).bind _).bind _) = _
 unfold stB
 rw [ay, dg, oa, az, jn, ad, ib, ad, QdU, ad, bz, Qmp QlQ, Qam]
 by_cases hq : P.length * P.length<=2000
 ·rw [Qmo hq] at hr ⊢
  rw [QbF hr, ad, Qad, ad, bz, Qmo (by rfl), dq (au _), ad, jr, ad]
  show du 1 st ((R.ok (Fl.rt _) _).bind _) = _
  rw [ad, jr, rm, Qac]
 ·rw [Qmp hq] at hr ⊢
  rw [QbF hr, ii, ii, ii, ii, ii, Qbv]
  exact zj (je st _)
theorem Qdx (w : W) : iw [w, Ru, T, h] st = du 0 st (wn [some w, some Ru, some T, some h, none, none] st) := by
 unfold iw gm
 rw [Qmo (show ([w, Ru, T, h] : List W).length = 4 from rfl)]
 rfl
theorem QdX {w : W} {x : R W} (e : ja [w, Ru, T, h] st = x) : runN (ae (aa 0) (ae (aa 1) (ae (aa 2) (ae (aa 3) al)))) ja [some w, some Ru, some T, some h, none, none] st = x := by
 rw [ft, bd, bh, ad, bd, bq, ad, bd, ev_v2, ad, bd, ev_v3, ad, bn, ad, ad, ad, ad, ad, e]
theorem Qaf {w : W} {b : Bool} (e : ja [w, Ru, T, h] st = .ok (.bl b) st) : iw [w, Ru, T, h] st = .ok (.str (if b then "stands" else "")) st := by
 rw [Qdx]
 unfold wn
 have et : oh 6 5 nh (am (be 4 (runN (ae (aa 0) (ae (aa 1) (ae (aa 2) (ae (aa 3) al)))) ja)) ao) (am (ba (runN (ae (aa 5) al) (ax qo))) ao) [some w, some Ru, some T, some h, none, none] st = .ok (.nx [some w, some Ru, some T, some h, some (.bl b), none]) st := by
  unfold oh
  rw [ay, yi, QdX e, ad, ad, bg, de]
 rw [ay, et, ad, bg]
 cases b with
 | true =>
  have hm : ah (ah (runN (ae (af (W.str "other")) (ae (af (W.str "stands")) al)) (opL false)) (runN (ae (ah (aa 4) (af (W.bl true)) ir) al) fo) ap) (runN (ae (ah (aa 4) (af (W.bl false)) lj) al) fo) df [some w, some Ru, some T, some h, some (.bl true), none] st = .ok (.str "stands") st := by kernel_rfl
  rw [dq hm, ms]; rfl
 | false =>
  have hm : ah (ah (runN (ae (af (W.str "other")) (ae (af (W.str "stands")) al)) (opL false)) (runN (ae (ah (aa 4) (af (W.bl true)) ir) al) fo) ap) (runN (ae (ah (aa 4) (af (W.bl false)) lj) al) fo) df [some w, some Ru, some T, some h, some (.bl false), none] st = .ok (.str "") st := by kernel_rfl
  rw [dq hm, ms]; rfl
theorem Qjt : qo [.exn "TooMany"] st = .ok (.str "many") st := by kernel_rfl
theorem found_x {w : W} (e : ja [w, Ru, T, h] st = .ex (.str "TooMany") st) : iw [w, Ru, T, h] st = .ok (.str "many") st := by
 rw [Qdx]
 unfold wn
 have hl : nh.lookup ("TooMany" : Str) = some true := by decide +kernel
 have et : oh 6 5 nh (am (be 4 (runN (ae (aa 0) (ae (aa 1) (ae (aa 2) (ae (aa 3) al)))) ja)) ao) (am (ba (runN (ae (aa 5) al) (ax qo))) ao) [some w, some Ru, some T, some h, none, none] st = .ok (.rt (.str "many")) st := by
  unfold oh
  rw [ay, yi, QdX e, ii, ii]
  dsimp only
  rw [hl]
  show Qav 5 (am (ba (runN (ae (aa 5) al) (ax qo))) ao [none, none, none, none, none, some (.exn "TooMany")] st) = _
  rw [dq (ph (jn _ _ _ _ _ _) Qjt)]
  rfl
 rw [ay, et, ad, jr, ms]
end
theorem jb {i : Nat} {r : Run} {rest : av} {Γ Γ' : Ga} {st s : S} {w : W} (e : r Γ st = .ok w s) (h : Γ.set i (some w) = Γ') : am (be i r) rest Γ st = rest Γ' s := by
 rw [ay, ev_set, e, ad, ad, bg, h]
theorem Qai {c : Run} {a rest : av} {Γ : Ga} {st s : S} (e : c Γ st = .ok (.bl false) s) : am (sIf c a ao) rest Γ st = rest Γ s := by
 rw [ay, dg, e, ad, bz, Qmp QlQ, de, ad, bg]
section
variable {Γ : Ga} {st : S} {a b : Run} {rr : bw} {x y : W} {xs : List W}
theorem rC (ha : a Γ st = .ok x st) (hr : rr Γ st = .ok xs st) : ae a rr Γ st = .ok (x :: xs) st := by rw [bd, ha, ad, hr, ad]
theorem rT (h : rr Γ st = .ok xs st) (hl : xs.length<=1000) : runN rr bp Γ st = .ok (.tup xs) st := by rw [ft, h, ad]; exact sk _ (ig hl)
theorem rL (h : rr Γ st = .ok xs st) (hl : xs.length<=1000) : runN rr (opL false) Γ st = .ok (.lst xs) st := by rw [ft, h, ad]; exact kq _ (ig hl)
theorem rV {i : Nat} {w : W} (h : Γ[i]? = some (some w)) : aa i Γ st = .ok w st := ev_var i w h
theorem rIx (ha : a Γ st = .ok (.lst xs) st) {i : Int} (hb : b Γ st = .ok (.int i) st) (h : atI xs i = some x) : ah a b ap Γ st = .ok x st := by rw [az, ha, ad, hb, ad]; exact Qbu _ _ _ h
end
def pp (a b : Int) (m : Nat) : List (Int × Int) := (List.range m).map fun (j : Nat) => ((j : Int) * a, (j : Int) + b)
theorem Qju (a b : Int) (m : Nat) : (pp a b m).Nodup := by
 unfold pp
 rw [List.Nodup, List.pairwise_map]
 refine List.Pairwise.imp ?_ (List.nodup_range (n := m))
 intro i j h e
 have e2 : (i : Int) + b = (j : Int) + b := congrArg Prod.snd e
 exact h (by omega)
theorem disp_ok {Γ : Ga} {st : S} {rk rv : Run} {n : Str} {w : W} (hk : ∀ s, rk Γ s = .ok (.str n) s) (hv : ∀ s, rv Γ s = .ok w s) : nk rk rv Γ st = .ok (.ref st.nxt) (st.new (.dct [KS n] [w])) := by
 unfold nk
 rw [hk, ad, hv, ad, io]
 show R.ok (W.ref st.nxt) ((st.new (.dct [] [])).put st.nxt (.dct [KS n] [w])) = _
 rw [xl]
theorem mul_b (x : Str) (b : Bool) (hx : x.length<=1000) (st : S) : df (.str x) (.int (if b then 1 else 0)) st = .ok (.str (if b then x else Str.empty)) st := by
 cases b with
 | true =>
  show (if x.length<=1000/\(0 : Int)<=1/\(1 : Int)<=1000 then R.ok (W.str (Txt.mul x 1)) st else R.stuck) = _
  rw [Qmo ⟨hx, by decide, by decide⟩]; rfl
 | false =>
  show (if x.length<=1000/\(0 : Int)<=0/\(0 : Int)<=1000 then R.ok (W.str (Txt.mul x 0)) st else R.stuck) = _
  rw [Qmo ⟨hx, by decide, by decide⟩]; rfl
theorem held_ne {n : Str} {P : List (Int × Int)} (st : S) (hP : P.length<=1000) : dk (.ref st.nxt) (.ref (st.new (.dct [KS n] [.lst (P.map (fact n))])).nxt) ((st.new (.dct [KS n] [.lst (P.map (fact n))])).new (.dct [KS n] [.lst (P.map (fact n))])) = .ok (.bl false) ((st.new (.dct [KS n] [.lst (P.map (fact n))])).new (.dct [KS n] [.lst (P.map (fact n))])) := by
 generalize hF : P.map (fact n) = F
 have hd : eqD 12 (.lst F) (.lst F) = some true := by
  refine Dat.eq (n := 2) (.lst fun x hx => ?_) 12 (by omega)
  rw [<-hF] at hx
  obtain ⟨p, _, rfl⟩ := List.mem_map.mp hx
  exact zt n p 0
 have d1 : ip ((st.new (.dct [KS n] [.lst F])).new (.dct [KS n] [.lst F])) (.ref st.nxt) = some ([KS n], [.lst F]) := by
  show (match ((st.new (.dct [KS n] [.lst F])).new (.dct [KS n] [.lst F])).mu st.nxt with | some (.dct ks ws) => some (ks, ws) | _ => none) = _
  rw [je _ _ _ (show st.nxt < (st.new (.dct [KS n] [.lst F])).nxt from Nat.lt_succ_self _), io]
 have d2 := QaM (st.new (.dct [KS n] [.lst F])) [KS n] [.lst F]
 have hv : kr [.inr n] [.lst F] [.inr n] [.lst F] = some true := by
  show (match lu [.inr n] [.lst F] (.inr n) with
   | none => some false
   | some w => (match eqD 12 (.lst F) w, kr [.inr n] [.lst F] [] [] with
    | some a, some b => some (a && b)
    | _, _ => none)) = _
  have : lu [.inr n] [.lst F] (.inr n) = some (.lst F) := Qmo rfl
  rw [this]
  show (match eqD 12 (.lst F) (.lst F), kr [.inr n] [.lst F] [] [] with
    | some a, some b => some (a && b)
    | _, _ => none) = _
  rw [hd]; rfl
 have he : pv ((st.new (.dct [KS n] [.lst F])).new (.dct [KS n] [.lst F])) (.ref st.nxt) (.ref (st.new (.dct [KS n] [.lst F])).nxt) = some true := by
  unfold pv
  rw [d1, d2]
  show (if (([KS n] : List ar).all isK && ([KS n] : List ar).all isK) = true then (kr [.inr n] [.lst F] [.inr n] [.lst F]).map fun r => (1 : Nat) == 1 && r else none) = _
  rw [Qmo (show (([KS n] : List ar).all isK && ([KS n] : List ar).all isK) = true from rfl), hv]; rfl
 have hw : eqW ((st.new (.dct [KS n] [.lst F])).new (.dct [KS n] [.lst F])) (.ref st.nxt) (.ref (st.new (.dct [KS n] [.lst F])).nxt) = some true := by
  unfold eqW
  rw [he]
 unfold dk
 rw [hw]; rfl
theorem Qkx {A : List (Int × Int)} {p q : Int × Int} (hn : A.Nodup) (h : ∀ x ∈ A, x = p\/x = q) (hp : p ∈ A) : ¬ (p ∈ A.drop 1/\q ∈ A.drop 1) := by
 cases A with
 | nil => cases hp
 | cons x A =>
  rw [List.drop_succ_cons, List.drop_zero]
  have hx := (List.nodup_cons.mp hn).1
  rcases h x QlU with rfl | rfl
  ·exact fun z => hx z.1
  ·exact fun z => hx z.2
theorem Qax {ns : List Int} (hn : ns.length<=63) {Γ : Ga} {st : S} {a : Run} (ha : a Γ st = .ok (.lst (ns.map W.int)) st) (k : Nat) : runN (ae a (ae (af (W.int (k : Nat))) al)) (ax fk) Γ st = .ok (.int (ns.getD k 0)) st :=
 iz ha (au _) (cell_ok ns k st hn)
theorem Qlj {ns : List Int} (hn : ns.length<=63) (st : S) (Γ : Ga) : ∃ n n1 : Str, bx false (jd (af (W.int 2))) [0] (af (.bl true)) (runN (ae (runN (ae (aa 1) (ae (af (W.int 0)) al)) (ax fk)) (ae (aa 0) al)) (ax qm)) (some (.lst (ns.map W.int)) :: Γ) st = .ok (.lst [.str n, .str n1]) st := by
 obtain ⟨ys, h1, h2, h3⟩ := Qbe (src := jd (af (W.int 2))) (cap := [0]) (re := runN (ae (runN (ae (aa 1) (ae (af (W.int 0)) al)) (ax fk)) (ae (aa 0) al)) (ax qm)) (Γ := some (.lst (ns.map W.int)) :: Γ) (st := st) (fun y => ∃ z : Str, y = .str z) (rng1 (au _) (by decide) (by decide)) (by rw [wc]; decide) (fun x hx => by
  obtain ⟨k, _, rfl⟩ := QaL hx
  obtain ⟨z, _, e⟩ := word_ok (ns.getD 0 0) k st
  refine ⟨.str z, ⟨z, rfl⟩, ?_⟩
  show runN _ _ [some (.int k), some (.lst (ns.map W.int))] st = _
  exact iz (Qax hn (bq _ _) 0) (bh _) e)
 rw [wc] at h1
 have h1 : ys.length = 2 := h1
 match ys, h1 with
 | [a, b], _ =>
  obtain ⟨n, rfl⟩ := h2 a QlU
  obtain ⟨n1, rfl⟩ := h2 b (QlZ _ QlU)
  exact ⟨n, n1, h3⟩
theorem pick4 {Γ : Ga} {st : S} {b : Run} {x y z u : Str} {i : Int} (hb : b Γ st = .ok (.int i) st) (h0 : 0<=i) (h1 : i < 4) : ∃ k : Str, ah (runN (ae (af (W.str x)) (ae (af (W.str y)) (ae (af (W.str z)) (ae (af (W.str u)) al)))) (opL false)) b ap Γ st = .ok (.str k) st := by
 obtain ⟨w, e, hw⟩ := Qci [W.str x, .str y, .str z, .str u] i h0 h1
 have hl : runN (ae (af (W.str x)) (ae (af (W.str y)) (ae (af (W.str z)) (ae (af (W.str u)) al)))) (opL false) Γ st = .ok (.lst [.str x, .str y, .str z, .str u]) st := rL (rC (au _) (rC (au _) (rC (au _) (rC (au _) bn)))) (show 4<=1000 by decide)
 have hs : ∃ k, w = .str k := by
  simp only [List.mem_cons, List.not_mem_nil, or_false] at hw
  rcases hw with rfl | rfl | rfl | rfl <;> exact ⟨_, rfl⟩
 obtain ⟨k, rfl⟩ := hs
 exact ⟨k, rIx hl hb e⟩
theorem QjX {ns : List Int} (hn : ns.length<=63) {n n1 : Str} {m : Int} (h0 : 0<=m) (h1 : m<=100) (st : S) (Γ : Ga) : bx false (jd (aa 2)) [1, 0] (af (.bl true)) (runN (ae (ah (aa 1) (af (W.int 0)) ap) (ae (ah (aa 0) (ah (af (W.int 1)) (ah (runN (ae (aa 2) (ae (af (W.int 2)) al)) (ax fk)) (af (W.int 9)) dz) ce) df) (ae (ah (aa 0) (ah (runN (ae (aa 2) (ae (af (W.int 3)) al)) (ax fk)) (af (W.int 999)) dz) ce) al))) bp) (some (.lst (ns.map W.int)) :: some (.lst [.str n, .str n1]) :: some (.int m) :: Γ) st
  = .ok (.lst ((pp (1 + ns.getD 2 0 % 9) (ns.getD 3 0 % 999) m.toNat).map (fact n))) st := by
 have e : (pp (1 + ns.getD 2 0 % 9) (ns.getD 3 0 % 999) m.toNat).map (fact n) = (fu 0 m.toNat).map fun w => match w with | .int i => fact n (i * (1 + ns.getD 2 0 % 9), i + ns.getD 3 0 % 999) | w => w := by
  unfold pp fu
  rw [List.map_map, List.map_map]
  exact List.map_congr_left fun j _ => by
   show fact n ((j : Int) * _, (j : Int) + _) = fact n ((0 + (j : Int)) * _, (0 + (j : Int)) + _)
   rw [Int.zero_add]
 rw [e]
 refine xi _ (rng1 (ev_v2 _ _ _) (by omega) (by omega)) (by rw [wc]; exact Qmm (show m.toNat<=1000 by omega) (by decide)) fun x hx => ?_
 obtain ⟨k, hk, rfl⟩ := QaL hx
 show runN _ bp [some (.int k), some (.lst [.str n, .str n1]), some (.lst (ns.map W.int))] st = _
 have m9 := pe (ns.getD 2 0) 9 (by decide)
 exact rT (rC (rIx (bq _ _) (au _) rfl) (rC (QbL (bh _) (tq (au _) (i_mod (Qax hn (ev_v2 _ _ _) 2) (au _) (by decide))) (by omega) (by omega)) (rC (tq (bh _) (i_mod (Qax hn (ev_v2 _ _ _) 3) (au _) (by decide))) bn))) (show 3<=1000 by decide)
theorem Qku {n : Str} {P : List (Int × Int)} (hP : P.length<=1000) {r : Run} {Γ : Ga} {st : S} (hr : r Γ st = .ok (.lst (P.map (fact n))) st) : bx false (bv r) [] (af (.bl true)) (runN (ae (aa 0) (ae (runN (ae (af (W.str "told")) al) bp) al)) bp) Γ st = .ok (.lst ((P.map fun p => (fact n p, told)).map fun p => .tup [p.1, p.2])) st := by
 have e : ((P.map fun p => (fact n p, told)).map fun p => W.tup [p.1, p.2]) = (P.map (fact n)).map fun w => .tup [w, told] := by rw [List.map_map, List.map_map]; rfl
 rw [e]
 exact xi _ (ml hr) (by rw [QlY]; exact Qmm hP (by decide)) fun x _ => rT (rC (bh _) (rC (rT (rC (au _) bn) (show 1<=1000 by decide)) bn)) (show 2<=1000 by decide)
theorem Qgw {n : Str} (x p : Int × Int) (st : S) : cf (fact n x) (fact n p) st = .ok (.bl (decide (x = p))) st := by
 have e : eqW st (fact n x) (fact n p) = some (decide (x = p)) := by
  unfold eqW
  rw [show pv st (fact n x) (fact n p) = none from rfl]
  dsimp only
  rw [QfK]
 unfold cf
 rw [e]
def ma (p q x : Int × Int) : Bool := decide (x = p) || decide (x = q)
theorem Qkk {n : Str} {P : List (Int × Int)} {p q : Int × Int} (hP : P.length<=1000) {r : Run} {i j : Nat} {Γ : Ga} {st : S} (hr : r Γ st = .ok (.lst (P.map (fact n))) st) (hc : cw [i, j] Γ = [some (fact n p), some (fact n q)]) :
  bx false (bv r) [i, j] (gf (ah (aa 0) (aa 1) cf) (ah (aa 0) (aa 2) cf)) (runN (ae (aa 0) (ae (runN (ae (af (W.str "told")) al) bp) al)) bp) Γ st = .ok (.lst (((P.filter (ma p q)).map fun p => (fact n p, told)).map fun p => .tup [p.1, p.2])) st := by
 have go : ∀ (C : List (Int × Int)) (acc : List W), compGo (gf (ah (aa 0) (aa 1) cf) (ah (aa 0) (aa 2) cf)) (runN (ae (aa 0) (ae (runN (ae (af (W.str "told")) al) bp) al)) bp) [some (fact n p), some (fact n q)] (C.map (fact n)) acc st = .ok (acc ++ (((C.filter (ma p q)).map fun p => (fact n p, told)).map fun p => W.tup [p.1, p.2])) st := by
  intro C
  induction C with
  | nil => intro acc; simp [compGo]
  | cons x C ih =>
   intro acc
   have h1 : gf (ah (aa 0) (aa 1) cf) (ah (aa 0) (aa 2) cf) [some (fact n x), some (fact n p), some (fact n q)] st = .ok (.bl (ma p q x)) st := by
    rw [oa, az, bh, ad, bq, ad, Qgw, ad, bz]
    unfold ma
    by_cases hx : x = p
    ·rw [decide_eq_true hx, Qmo rfl]; rfl
    ·rw [Qmw hx, Qmp QlQ, az, bh, ad, ev_v2, ad, Qgw]; rfl
   have h2 : runN (ae (aa 0) (ae (runN (ae (af (W.str "told")) al) bp) al)) bp [some (fact n x), some (fact n p), some (fact n q)] st = .ok (.tup [fact n x, told]) st := rT (rC (bh _) (rC (rT (rC (au _) bn) (show 1<=1000 by decide)) bn)) (show 2<=1000 by decide)
   rw [Qms]
   show ((gf (ah (aa 0) (aa 1) cf) (ah (aa 0) (aa 2) cf) [some (fact n x), some (fact n p), some (fact n q)] st).calm.bind fun b st1 => match b with
    | .bl true => (runN (ae (aa 0) (ae (runN (ae (af (W.str "told")) al) bp) al)) bp [some (fact n x), some (fact n p), some (fact n q)] st1).calm.bind fun y st2 => compGo _ _ _ (C.map (fact n)) (acc ++ [y]) st2
    | .bl false => compGo _ _ _ (C.map (fact n)) acc st1
    | _ => .stuck) = _
   rw [h1, rq, ad, List.filter_cons]
   cases hb : ma p q x with
   | true =>
    rw [Qmo rfl]
    show ((runN (ae (aa 0) (ae (runN (ae (af (W.str "told")) al) bp) al)) bp [some (fact n x), some (fact n p), some (fact n q)] st).calm.bind fun y st2 => compGo _ _ _ (C.map (fact n)) (acc ++ [y]) st2) = _
    rw [h2, rq, ad, ih]
    simp
   | false =>
    rw [Qmp QlQ]
    exact ih acc
 unfold bx
 rw [ml hr, ad, Qmo (by rw [QlY]; exact Qmm hP (by decide)), hc, go P [], ad, List.nil_append]
 exact kq _ (by rw [QlY, QlY]; exact ig (Qmh (List.length_filter_le _ _) hP))
theorem Qal {Γ : Ga} {st : S} {a : Run} {w R T h : W} {i j k : Nat} {v : Str} (ha : a Γ st = .ok w st) (hi : Γ[i]? = some (some R)) (hj : Γ[j]? = some (some T)) (hk : Γ[k]? = some (some h)) (e : iw [w, R, T, h] st = .ok (.str v) st) : runN (ae a (ae (aa i) (ae (aa j) (ae (aa k) al)))) iw Γ st = .ok (.str v) st := by
 rw [ft, rC ha (rC (rV hi) (rC (rV hj) (rC (rV hk) bn))), ad, e]
theorem law_true (ns : List Int) (hns : ns.length<=63) : ∃ st', op_law [.lst (ns.map W.int)] st0 = .ok (.bl true) st' := by
 unfold op_law
 rw [ev_opX1, show (15 : Nat) - 1 = 14 from rfl, show List.replicate 14 (none : Option W) = [none, none, none, none, none, none, none, none, none, none, none, none, none, none] from rfl]
 generalize hL : W.lst (ns.map W.int) = L
 unfold QbU
 obtain ⟨n, n1, e1⟩ := Qlj hns st0 [none, none, none, none, none, none, none, none, none, none, none, none, none, none]
 rw [hL] at e1
 have m12 := pe (ns.getD 1 0) 12 (by decide)
 generalize hm : 39 + ns.getD 1 0 % 12 = m
 have hm0 : 39<=m := by omega
 have hm1 : m<=50 := by omega
 have cell : ∀ (k : Nat) (Γ : Ga) (st : S), runN (ae (aa 0) (ae (af (W.int (k : Nat))) al)) (ax fk) (some L :: Γ) st = .ok (.int (ns.getD k 0)) st := fun k Γ st => Qax hns (by rw [hL]; exact bh _) k
 have e2 : ∀ Γ, ah (af (W.int 39)) (ah (runN (ae (aa 0) (ae (af (W.int 1)) al)) (ax fk)) (af (W.int 12)) dz) ce (some L :: Γ) st0 = .ok (.int m) st0 := fun Γ => by
  rw [<-hm]
  exact tq (au _) (i_mod (cell 1 Γ st0) (au _) (by decide))
 generalize hPd : pp (1 + ns.getD 2 0 % 9) (ns.getD 3 0 % 999) m.toNat = P
 have hPl : P.length = m.toNat := by rw [<-hPd]; unfold pp; rw [QlY, List.length_range]
 have hPn : P.Nodup := by rw [<-hPd]; exact Qju _ _ _
 have hP : P.length<=1000 := by omega
 have hP0 : P ≠ [] := fun z => by rw [z] at hPl; simp at hPl; omega
 have e3 := QjX hns (n := n) (n1 := n1) (m := m) (by omega) (by omega) st0 [none, none, none, none, none, none, none, none, none, none, none, none]
 rw [hL, hPd] at e3
 have m4 := pe (ns.getD 4 0) 4 (by decide)
 obtain ⟨k, e4⟩ := pick4 (Γ := [some L, some (.lst [.str n, .str n1]), some (.int m), some (.lst (P.map (fact n))), none, none, none, none, none, none, none, none, none, none, none]) (st := st0) (b := ah (runN (ae (aa 0) (ae (af (W.int 4)) al)) (ax fk)) (af (W.int 4)) dz) (x := "count") (y := "sum") (z := "least") (u := "most") (i_mod (cell 4 _ st0) (au _) (by decide)) m4.1 m4.2
 obtain ⟨v, e5⟩ := pick4 (Γ := [some L, some (.lst [.str n, .str n1]), some (.int m), some (.lst (P.map (fact n))), some (.str k), none, none, none, none, none, none, none, none, none, none]) (st := st0) (b := ah (runN (ae (aa 0) (ae (af (W.int 4)) al)) (ax fk)) (af (W.int 4)) dz) (x := "") (y := "X") (z := "Z") (u := "W") (i_mod (cell 4 _ st0) (au _) (by decide)) m4.1 m4.2
 rw [jb e1 rfl]
 dsimp only [List.set]
 rw [jb (e2 _) rfl]
 dsimp only [List.set]
 rw [jb e3 rfl]
 dsimp only [List.set]
 rw [jb e4 rfl]
 dsimp only [List.set]
 rw [jb e5 rfl]
 dsimp only [List.set]
 have n0 : ∀ (Γ : Ga) (st : S), ah (aa 1) (af (W.int 0)) ap (some L :: some (.lst [.str n, .str n1]) :: Γ) st = .ok (.str n) st := fun Γ st => rIx (bq _ _) (au _) rfl
 have n1' : ∀ (Γ : Ga) (st : S), ah (aa 1) (af (W.int 1)) ap (some L :: some (.lst [.str n, .str n1]) :: Γ) st = .ok (.str n1) st := fun Γ st => rIx (bq _ _) (au _) rfl
 rw [jb (w := dc n) (s := st0) (rT (rC (rT (rC (au _) (rC (rT (rC (n0 _ _) (rC (au _) (rC (au _) bn))) (show 3<=1000 by decide)) bn)) (show 2<=1000 by decide)) (rC (rT (rC (au _) (rC (rT (rC (n0 _ _) (rC (au _) (rC (au _) bn))) (show 3<=1000 by decide)) bn)) (show 2<=1000 by decide)) bn)) (show 2<=1000 by decide)) rfl]
 dsimp only [List.set]
 rw [jb (w := rls n n1 k v) (s := st0) (rL (rC (rT (rC (au _) (rC (rT (rC (n1' _ _) (rC (au _) bn)) (show 2<=1000 by decide)) (rC (ib _ _ _ _ _) (rC (au _) (rC (jn _ _ _ _ _ _) (rC (rT bn (show 0<=1000 by decide)) (rC (nz _ _ _ _ _ _ _) bn))))))) (show 7<=1000 by decide)) (rC (rT (rC (au _) (rC (rT (rC (n1' _ _) (rC (au _) bn)) (show 2<=1000 by decide)) (rC (nz _ _ _ _ _ _ _) bn))) (show 3<=1000 by decide)) bn)) (show 2<=1000 by decide)) rfl]
 dsimp only [List.set]
 rw [jb (w := .lst ([(fact2 n1 (m * m), ofR)].map fun p => .tup [p.1, p.2])) (s := st0) (rL (rC (rT (rC (rT (rC (n1' _ _) (rC (QbL (ev_v2 _ _ _) (ev_v2 _ _ _) (by omega) (by omega)) bn)) (show 2<=1000 by decide)) (rC (rT (rC (au _) (rC (au _) (rC (rT bn (show 0<=1000 by decide)) (rC (rT bn (show 0<=1000 by decide)) bn)))) (show 4<=1000 by decide)) bn)) (show 2<=1000 by decide)) bn) (show 1<=1000 by decide)) rfl]
 dsimp only [List.set]
 rw [jb (disp_ok (st := st0) (n := n) (w := .lst (P.map (fact n))) (fun s => n0 _ s) (fun s => (dv (ev_v3 _ _ _ _)).trans (listL (by rw [QlY]; exact hP)))) rfl]
 dsimp only [List.set]
 generalize hs1 : st0.new (.dct [KS n] [.lst (P.map (fact n))]) = s1
 have hh1 : kd s1 (.ref st0.nxt) n (P.map (fact n)) := by rw [<-hs1]; exact ⟨st0.nxt, rfl, Nat.lt_succ_self _, io _ _⟩
 have e10 : ∀ Γ : Ga, Γ[2]? = some (some (.int m))->ah (af (W.str "many")) (runN (ae (ah (ah (aa 2) (aa 2) df) (af (W.int 2000)) kc) al) fo) df Γ s1 = .ok (.str (if decide (2000 < m * m) then "many" else Str.empty)) s1 := fun Γ h => by
  have hc : ah (ah (aa 2) (aa 2) df) (af (W.int 2000)) kc Γ s1 = .ok (.bl (decide (2000 < m * m))) s1 := by
   rw [az, QbL (rV h) (rV h) (by omega) (by omega), ad, au, ad, QbP]
  rw [az, au, ad, dv hc]
  show (R.ok (W.int (if decide (2000 < m * m) then 1 else 0)) s1).bind _ |> fun r => r = _
  rw [ad]
  exact mul_b "many" _ (by decide +kernel) s1
 rw [jb (e10 _ rfl) rfl]
 dsimp only [List.set]
 have hPm : P.length * P.length<=2000 ↔ ¬ (2000 < m * m) := by
  have : (m.toNat : Int) = m := by omega
  have e : ((m.toNat * m.toNat : Nat) : Int) = m * m := by rw [Int.natCast_mul, this]
  rw [hPl]
  omega
 have e11 : iw [.lst ([(fact2 n1 (m * m), ofR)].map fun p => .tup [p.1, p.2]), rls n n1 k v, .lst (P.map (fact n)), .ref st0.nxt] s1 = .ok (.str (if decide (2000 < m * m) then "many" else Str.empty)) s1 := by
  have hs := Qjg (n1 := n1) (k := k) (v := v) (T := .lst (P.map (fact n))) (i := m * m) hh1 hP0 hP
  by_cases hq : 2000 < m * m
  ·rw [Qmp (fun z => (hPm.mp z) hq)] at hs
   rw [found_x hs, decide_eq_true hq]; rfl
  ·rw [Qmo (hPm.mpr hq)] at hs
   rw [Qaf hs, Qmw hq]; rfl
 generalize hdue : (if decide (2000 < m * m) = true then ("many" : Str) else Str.empty) = due at e11
 have hne : ∀ (x : Str) (st : S), dk (.str x) (.str x) st = .ok (.bl false) st := fun x st => by rw [QbO]; simp
 have e12 : gf (ah (runN (ae (aa 8) (ae (aa 7) (ae (aa 3) (ae (aa 9) al)))) iw) (aa 10) dk) (ah (aa 9) (nk (ah (aa 1) (af (W.int 0)) ap) (aa 3)) dk) [some L, some (.lst [.str n, .str n1]), some (.int m), some (.lst (P.map (fact n))), some (.str k), some (.str v), some (dc n), some (rls n n1 k v), some (.lst ([(fact2 n1 (m * m), ofR)].map fun p => .tup [p.1, p.2])), some (.ref st0.nxt), some (.str due), none, none, none, none] s1 = .ok (.bl false) (s1.new (.dct [KS n] [.lst (P.map (fact n))])) := by
  rw [oa, az, Qal (ev_v8 _ _ _ _ _ _ _ _ _) rfl rfl rfl e11, ad, rV (w := .str due) rfl, ad, hne, ad, bz, Qmp QlQ, az, ev_v9, ad, disp_ok (st := s1) (n := n) (w := .lst (P.map (fact n))) (fun s => n0 _ s) (fun s => ev_v3 _ _ _ _), ad]
  rw [<-hs1]
  exact held_ne st0 hP
 first | rw [Qai e12] | rw [hdue, Qai e12]
 generalize hs2 : s1.new (.dct [KS n] [.lst (P.map (fact n))]) = s2
 have e13 : iw [.lst ((P.map fun p => (fact n p, told)).map fun p => .tup [p.1, p.2]), rls n n1 k v, .lst (P.map (fact n)), .ref st0.nxt] s2 = .ok (.str "stands") s2 := Qaf (b := true) (Qic hP0 hP hPn)
 have e14 : ah (runN (ae (bx false (bv (aa 3)) [] (af (.bl true)) (runN (ae (aa 0) (ae (runN (ae (af (W.str "told")) al) bp) al)) bp)) (ae (aa 7) (ae (aa 3) (ae (aa 9) al)))) iw) (af (W.str "stands")) dk [some L, some (.lst [.str n, .str n1]), some (.int m), some (.lst (P.map (fact n))), some (.str k), some (.str v), some (dc n), some (rls n n1 k v), some (.lst ([(fact2 n1 (m * m), ofR)].map fun p => .tup [p.1, p.2])), some (.ref st0.nxt), some (.str due), none, none, none, none] s2 = .ok (.bl false) s2 := by
  rw [az, Qal (Qku (n := n) hP (ev_v3 _ _ _ _)) rfl rfl rfl e13, ad, au, ad, hne]
 rw [Qai e14]
 have ixm : ∀ c : Int, ∃ p, p ∈ P/\atI (P.map (fact n)) (c % m) = some (fact n p) := fun c => by
  have hc := pe c m (by omega)
  obtain ⟨w, e, hw⟩ := Qci (P.map (fact n)) (c % m) hc.1 (by rw [QlY, hPl]; omega)
  obtain ⟨p, hp, rfl⟩ := List.mem_map.mp hw
  exact ⟨p, hp, e⟩
 obtain ⟨p, hp, ep⟩ := ixm (ns.getD 5 0)
 obtain ⟨q, hq, eq⟩ := ixm (ns.getD 6 0)
 have c5 : ∀ Γ, runN (ae (aa 0) (ae (af (W.int 5)) al)) (ax fk) (some L :: Γ) s2 = .ok (.int (ns.getD 5 0)) s2 := fun Γ => cell 5 Γ s2
 have c6 : ∀ Γ, runN (ae (aa 0) (ae (af (W.int 6)) al)) (ax fk) (some L :: Γ) s2 = .ok (.int (ns.getD 6 0)) s2 := fun Γ => cell 6 Γ s2
 rw [jb (rIx (ev_v3 _ _ _ _) (i_mod (c5 _) (ev_v2 _ _ _) (by omega)) ep) rfl]
 dsimp only [List.set]
 rw [jb (rIx (ev_v3 _ _ _ _) (i_mod (c6 _) (ev_v2 _ _ _) (by omega)) eq) rfl]
 dsimp only [List.set]
 generalize hA : P.filter (ma p q) = A
 have hAP : ∀ a ∈ A, a ∈ P := fun a ha => by rw [<-hA] at ha; exact (List.mem_filter.mp ha).1
 have hAn : A.Nodup := by rw [<-hA]; exact hPn.filter _
 have hAl : A.length<=100 := by rw [<-hA]; have := List.length_filter_le (ma p q) P; omega
 have hpA : p ∈ A := by rw [<-hA]; exact List.mem_filter.mpr ⟨hp, by unfold ma; simp⟩
 have hqA : q ∈ A := by rw [<-hA]; exact List.mem_filter.mpr ⟨hq, by unfold ma; simp⟩
 have hAo : ∀ x ∈ A, x = p\/x = q := fun x hx => by
  rw [<-hA] at hx
  have := (List.mem_filter.mp hx).2
  unfold ma at this
  simpa using this
 have e15 := Qkk (n := n) (P := P) (p := p) (q := q) hP (r := aa 3) (i := 11) (j := 12) (Γ := [some L, some (.lst [.str n, .str n1]), some (.int m), some (.lst (P.map (fact n))), some (.str k), some (.str v), some (dc n), some (rls n n1 k v), some (.lst ([(fact2 n1 (m * m), ofR)].map fun p => .tup [p.1, p.2])), some (.ref st0.nxt), some (.str due), some (fact n p), some (fact n q), none, none]) (st := s2) (ev_v3 _ _ _ _) rfl
 rw [hA] at e15
 rw [jb e15 rfl]
 dsimp only [List.set]
 have o1 : ∀ (Γ : Ga), Γ[12]? = some (some (fact n q))->ah (aa 12) (af (W.int 1)) ap Γ s2 = .ok (.int q.1) s2 := fun Γ h => by
  rw [az, rV h, ad, au, ad]
  exact lf _ _ _
 rw [jb (w := .lst [.tup [fact2 n1 q.1, byR (gs2 n p q)]]) (s := s2) (rL (rC (rT (rC (rT (rC (n1' _ _) (rC (o1 _ rfl) bn)) (show 2<=1000 by decide)) (rC (rT (rC (au _) (rC (au _) (rC (rT (rC (rT (rC (au _) (rC (rV rfl) bn)) (show 2<=1000 by decide)) (rC (rT (rC (au _) (rC (rV rfl) bn)) (show 2<=1000 by decide)) bn)) (show 2<=1000 by decide)) bn))) (show 3<=1000 by decide)) bn)) (show 2<=1000 by decide)) bn) (show 1<=1000 by decide)) rfl]
 dsimp only [List.set]
 have row : ∀ B : List (Int × Int), ((B.map fun p => (fact n p, told)).map fun p => W.tup [p.1, p.2]) ++ [W.tup [fact2 n1 q.1, byR (gs2 n p q)]] = (B.map (fun p => (fact n p, told)) ++ [(fact2 n1 q.1, byR (gs2 n p q))]).map fun p => W.tup [p.1, p.2] := fun B => by rw [List.map_append]; rfl
 have e16 := QdJ (n := n) (n1 := n1) (k := k) (v := v) (P := P) (h := .ref st0.nxt) (st := s2) (p := p) (q := q) hAP hAl hAn
 rw [decide_eq_true (⟨hpA, hqA⟩ : p ∈ A/\q ∈ A), <-row] at e16
 have e17 := Qaf (b := true) e16
 have e18 := QdJ (n := n) (n1 := n1) (k := k) (v := v) (P := P) (h := .ref st0.nxt) (st := s2) (p := p) (q := q) (A := A.drop 1) (fun a ha => hAP a (List.mem_of_mem_drop ha)) (by rw [List.length_drop]; omega) (hAn.sublist (List.drop_sublist 1 A))
 rw [Qmw (Qkx hAn hAo hpA), <-row] at e18
 have e19 := Qaf (b := false) e18
 have hlen : ((A.map fun p => (fact n p, told)).map fun p => W.tup [p.1, p.2]).length<=100 := by rw [QlY, QlY]; exact hAl
 rw [Qai (s := s2) (by
  rw [az, Qal (QbX (rV (i := 13) rfl) (rV (i := 14) rfl) (by rw [Qmi]; omega)) rfl rfl rfl e17, ad, au, ad]
  exact hne "stands" s2)]
 have hcut : gp ((A.map fun p => (fact n p, told)).map fun p => W.tup [p.1, p.2]) (some 1) none = ((A.drop 1).map fun p => (fact n p, told)).map fun p => W.tup [p.1, p.2] := by
  cases A with
  | nil => cases hpA
  | cons a A => rw [Qms, Qms, cut1]; rfl
 have hsl : ∀ Γ : Ga, Γ[13]? = some (some (.lst ((A.map fun p => (fact n p, told)).map fun p => W.tup [p.1, p.2])))->im false (aa 13) (af (W.int 1)) Γ s2 = .ok (.lst (((A.drop 1).map fun p => (fact n p, told)).map fun p => W.tup [p.1, p.2])) s2 := fun Γ h => by
  rw [xn, rV h, ad, au, ad, Qae]
  show ln (gp ((A.map fun p => (fact n p, told)).map fun p => W.tup [p.1, p.2]) (some 1) none) s2 = _
  rw [hcut]
  exact Qmo (by rw [QlY, QlY, List.length_drop]; exact ig (by omega))
 rw [dq (w := .bl true) (st := s2), ms]
 ·exact ⟨s2, rfl⟩
 ·rw [az, Qal (QbX (hsl _ rfl) (rV (i := 14) rfl) (by rw [Qmi, QlY, QlY, List.length_drop]; omega)) rfl rfl rfl e19, ad, au, ad, Qao]
  congr 2
end DL.My
open PySem PySem.W PyProof.Rows
def PySem.W.Fast.tw1922132542884420633 : Unit := ()
def PySem.W.Fast.tw754014840506305310 : Unit := ()
def PySem.W.Fast.tw6233584637608588484 : Unit := ()
def PySem.W.Fast.tw2260501484127070755 : Unit := ()
def PySem.W.Fast.tw5768982731263452647 : Unit := ()
def PySem.W.Fast.tw10711359304202316352 : Unit := ()
def PySem.W.Fast.tw164667833231120817 : Unit := ()
def PySem.W.Fast.tw15436317940279777923 : Unit := ()
def PySem.W.Fast.tw17660247522160287809 : Unit := ()
def PySem.W.Fast.tw195714064262214874 : Unit := ()
def PySem.W.Fast.tw3223712328820900782 : Unit := ()
def PySem.W.Fast.tw7924740255087114868 : Unit := ()
def PySem.W.Fast.tw18376971109160928826 : Unit := ()
def PySem.W.Fast.tw5630598850384262172 : Unit := ()
def PySem.W.Fast.tw5933871807290444665 : Unit := ()
def PySem.W.Fast.tw5517541035541330719 : Unit := ()
def PySem.W.Fast.tw13111031957590944634 : Unit := ()
def PySem.W.Fast.tw11500235426950553958 : Unit := ()
def PySem.W.Fast.tw7447401760784494392 : Unit := ()
def PySem.W.Fast.tw4787236278654883489 : Unit := ()
def PySem.W.Fast.tw11825842826248745512 : Unit := ()
def PySem.W.Fast.tw11270781542729882484 : Unit := ()
def PySem.W.Fast.tw13997863609806028263 : Unit := ()
def PySem.W.Fast.tw4741637665593900505 : Unit := ()
def PySem.W.Fast.tw7277921163260193687 : Unit := ()
def PySem.W.Fast.tw8707467039120368380 : Unit := ()
def PySem.W.Fast.tw2527586698099402511 : Unit := ()
def PySem.W.Fast.tw432842634137178568 : Unit := ()
def PySem.W.Fast.tw16088114191690778454 : Unit := ()
def PySem.W.Fast.tw16681236661424356460 : Unit := ()
def PySem.W.Fast.tw17525753932477107038 : Unit := ()
def PySem.W.Fast.tw6708825196637966276 : Unit := ()
def PySem.W.Fast.tw13099902432081198429 : Unit := ()
def PySem.W.Fast.tw359948873328226326 : Unit := ()
def PySem.W.Fast.tw9453439883585560096 : Unit := ()
def PySem.W.Fast.tw5205626905390990402 : Unit := ()
def PySem.W.Fast.tw1604035715626144994 : Unit := ()
def PySem.W.Fast.tw8678635415718594650 : Unit := ()
def PySem.W.Fast.tw2006833348783464734 : Unit := ()
def PySem.W.Fast.tw2471811712451108988 : Unit := ()
def PySem.W.Fast.tw17558987184300665056 : Unit := ()
def PySem.W.Fast.tw12605391831170338188 : Unit := ()
def PySem.W.Fast.tw14984918632717145442 : Unit := ()
def PySem.W.Fast.tw14712498873104275009 : Unit := ()
def PySem.W.Fast.tw2723464494016852816 : Unit := ()
def PySem.W.Fast.tw14337089321732169851 : Unit := ()
def PySem.W.Fast.tw17562427704572951851 : Unit := ()
def PySem.W.Fast.tw6509922905046730794 : Unit := ()
def PySem.W.Fast.tw10688168425779964062 : Unit := ()
def PySem.W.Fast.tw13859607719202313200 : Unit := ()
def PySem.W.Fast.tw10013828848986827223 : Unit := ()
def PySem.W.Fast.tw3797993396592272289 : Unit := ()
def PySem.W.Fast.tw595823630554336610 : Unit := ()
def PySem.W.Fast.tw2420561737647892903 : Unit := ()
def PySem.W.Fast.tw14878231745899413567 : Unit := ()
def PySem.W.Fast.tw448426461365670801 : Unit := ()
def PySem.W.Fast.tw13551147445972518899 : Unit := ()
def PySem.W.Fast.tw7948257306089164026 : Unit := ()
def PySem.W.Fast.tw6761589681573893884 : Unit := ()
def PySem.W.Fast.tw3009439198520252110 : Unit := ()
def PySem.W.Fast.tw11261545243923717054 : Unit := ()
def PySem.W.Fast.tw7381106428886078893 : Unit := ()
def PySem.W.Fast.tw9104305231887997381 : Unit := ()
def PySem.W.Fast.tw4421349604602411538 : Unit := ()
def PySem.W.Fast.tw11491736990204525669 : Unit := ()
def PySem.W.Fast.tw13028178788777125503 : Unit := ()
def PySem.W.Fast.tw11901720477433510220 : Unit := ()
def PySem.W.Fast.tw2057244061355881380 : Unit := ()
def PySem.W.Fast.tw1534129268446268354 : Unit := ()
def PySem.W.Fast.tw18295812081074431991 : Unit := ()
def PySem.W.Fast.tw16118299672591448130 : Unit := ()
def PySem.W.Fast.tw5714329374098746047 : Unit := ()
def PySem.W.Fast.tw13289116130082758469 : Unit := ()
def PySem.W.Fast.tw11731079295092358892 : Unit := ()
def PySem.W.Fast.tw15273343793976405042 : Unit := ()
def PySem.W.Fast.tw9585361429323209321 : Unit := ()
def PySem.W.Fast.tw256712342584992516 : Unit := ()
def PySem.W.Fast.tw9909683535264135731 : Unit := ()
def PySem.W.Fast.tw7098898160251491296 : Unit := ()
def PySem.W.Fast.tw10269964800235812584 : Unit := ()
def PySem.W.Fast.tw13599940736461583180 : Unit := ()
def PySem.W.Fast.tw15925679132242735994 : Unit := ()
def PySem.W.Fast.tw1622443443187866385 : Unit := ()
def PySem.W.Fast.tw10292878496702105712 : Unit := ()
def PySem.W.Fast.tw17081155970859344074 : Unit := ()
def PySem.W.Fast.tw7844560287749445179 : Unit := ()
def PySem.W.Fast.tw17794806925884588535 : Unit := ()
def PySem.W.Fast.tw814713608404797039 : Unit := ()
def PySem.W.Fast.tw3882826993054796909 : Unit := ()
def PySem.W.Fast.tw10920783488202397016 : Unit := ()
def PySem.W.Fast.tw16675863099629922138 : Unit := ()
def PySem.W.Fast.tw1369339101832929225 : Unit := ()
def PySem.W.Fast.tw8219176549216135135 : Unit := ()
def PySem.W.Fast.tw11467173089968433152 : Unit := ()
def PySem.W.Fast.tw3038175162644935292 : Unit := ()
def PySem.W.Fast.tw8485075360616048811 : Unit := ()
def PySem.W.Fast.tw13261767811407251224 : Unit := ()
def PySem.W.Fast.tw2301230268739141048 : Unit := ()
def PySem.W.Fast.tw1444035396216890840 : Unit := ()
def PySem.W.Fast.tw13839437801006775179 : Unit := ()
def PySem.W.Fast.tw14762137490221532341 : Unit := ()
def PySem.W.Fast.tw9705784626098037904 : Unit := ()
def PySem.W.Fast.tw4107427377934181621 : Unit := ()
def PySem.W.Fast.tw13236366061856713542 : Unit := ()
def PySem.W.Fast.tw3253209758652904595 : Unit := ()
def PySem.W.Fast.tw7037793735790191402 : Unit := ()
def PySem.W.Fast.tw15021866090199513030 : Unit := ()
def PySem.W.Fast.tw12450681528767457861 : Unit := ()
def PySem.W.Fast.tw17841328243696532397 : Unit := ()
def PySem.W.Fast.tw6461206316745559791 : Unit := ()
def PySem.W.Fast.tw11835353871785985656 : Unit := ()
def PySem.W.Fast.tw17117533248117105834 : Unit := ()
def PySem.W.Fast.tw12512294075921447794 : Unit := ()
def PySem.W.Fast.tw10177922133587232570 : Unit := ()
def PySem.W.Fast.tw3936922732437984858 : Unit := ()
def PySem.W.Fast.tw10641269707364549575 : Unit := ()
def PySem.W.Fast.tw17184749611246034879 : Unit := ()
def PySem.W.Fast.tw10755900153008157318 : Unit := ()
def PySem.W.Fast.tw1950197387587844315 : Unit := ()
def PySem.W.Fast.tw8471385085254422429 : Unit := ()
def PySem.W.Fast.tw7088256191802436575 : Unit := ()
def PySem.W.Fast.tw2091567916430813960 : Unit := ()
def PySem.W.Fast.tw13219373100190572798 : Unit := ()
def PySem.W.Fast.tw11157210069558148376 : Unit := ()
def PySem.W.Fast.tw14463148775609215840 : Unit := ()
def PySem.W.Fast.tw15401708543389550341 : Unit := ()
def PySem.W.Fast.tw31125327828278259 : Unit := ()
def PySem.W.Fast.tw2003990544368059652 : Unit := ()
def PySem.W.Fast.tw11809887656080326717 : Unit := ()
def PySem.W.Fast.tw8303200060808873565 : Unit := ()
def PySem.W.Fast.tw7403469736179969997 : Unit := ()
def PySem.W.Fast.tw14557228702665260528 : Unit := ()
def PySem.W.Fast.tw17771097538965641858 : Unit := ()
def PySem.W.Fast.tw11484774681485378824 : Unit := ()
def PySem.W.Fast.tw15444827350778284782 : Unit := ()
def PySem.W.Fast.tw14968670699594069781 : Unit := ()
def PySem.W.Fast.tw11684518719191072111 : Unit := ()
def PySem.W.Fast.tw7785621446880360102 : Unit := ()
def PySem.W.Fast.tw3712904575906900895 : Unit := ()
def PySem.W.Fast.tw12143109936345964737 : Unit := ()
def PySem.W.Fast.tw6890539908065754652 : Unit := ()
def PySem.W.Fast.tw6433370062538142332 : Unit := ()
def PySem.W.Fast.tw15368686786548397831 : Unit := ()
def PySem.W.Fast.tw7630738543154278867 : Unit := ()
def PySem.W.Fast.tw14191411829951054358 : Unit := ()
def PySem.W.Fast.tw10882628671900595034 : Unit := ()
def PySem.W.Fast.tw240262978884434047 : Unit := ()
def PySem.W.Fast.tw4858255892518139803 : Unit := ()
def PySem.W.Fast.tw15671263029190326931 : Unit := ()
def PySem.W.Fast.tw10635357276079090218 : Unit := ()
def PySem.W.Fast.tw508359175695801150 : Unit := ()
def PySem.W.Fast.tw1871290212392104133 : Unit := ()
def PySem.W.Fast.tw4218973598598652229 : Unit := ()
def PySem.W.Fast.tw18193977636828526341 : Unit := ()
def PySem.W.Fast.tw13271003481462420196 : Unit := ()
def PySem.W.Fast.tw14297823583750607315 : Unit := ()
def PySem.W.Fast.tw4612583001569150443 : Unit := ()
def PySem.W.Fast.tw8728536001968165436 : Unit := ()
def PySem.W.Fast.tw6301347878961806857 : Unit := ()
def PySem.W.Fast.tw7635359143033407621 : Unit := ()
def PySem.W.Fast.tw5307414302900768801 : Unit := ()
def PySem.W.Fast.tw8591605680587562238 : Unit := ()
def PySem.W.Fast.tw9486169783885489162 : Unit := ()
def PySem.W.Fast.tw17325380557983146997 : Unit := ()
def PySem.W.Fast.tw16741463518493986798 : Unit := ()
def PySem.W.Fast.tw11705612240951831877 : Unit := ()
def PySem.W.Fast.tw6845440611775188083 : Unit := ()
def PySem.W.Fast.tw765600241258324891 : Unit := ()
def PySem.W.Fast.tw1088376555317445239 : Unit := ()
def PySem.W.Fast.tw8161512381858426455 : Unit := ()
def PySem.W.Fast.tw3876958726802088423 : Unit := ()
def PySem.W.Fast.tw16569470355064931333 : Unit := ()
def PySem.W.Fast.tw1325821350303475102 : Unit := ()
def PySem.W.Fast.tw170187359743868122 : Unit := ()
def PySem.W.Fast.tw10714686628865782989 : Unit := ()
def PySem.W.Fast.tw2665694160181041961 : Unit := ()
def PySem.W.Fast.tw6871822199351973274 : Unit := ()
def PySem.W.Fast.tw15622288648689338355 : Unit := ()
def PySem.W.Fast.tw10828525388702115208 : Unit := ()
def PySem.W.Fast.tw17664828184348810006 : Unit := ()
def PySem.W.Fast.tw1715178864434185427 : Unit := ()
def PySem.W.Fast.tw17786848874413743619 : Unit := ()
def PySem.W.Fast.tw8633083027738495954 : Unit := ()
def PySem.W.Fast.tw12288651915321722642 : Unit := ()
def PySem.W.Fast.tw12758438271698574422 : Unit := ()
def PySem.W.Fast.tw4816335812276887402 : Unit := ()
def PySem.W.Fast.tw3511052732831993453 : Unit := ()
def PySem.W.Fast.tw12506445789799933955 : Unit := ()
def PySem.W.Fast.tw11937207869517180068 : Unit := ()
def PySem.W.Fast.tw8024767717193434963 : Unit := ()
def PySem.W.Fast.tw4163627721339906496 : Unit := ()
def PySem.W.Fast.tw10994945651385966434 : Unit := ()
def PySem.W.Fast.tw9165725061806750549 : Unit := ()
def PySem.W.Fast.tw500933061474895033 : Unit := ()
def PySem.W.Fast.tw9218650906330511560 : Unit := ()
def PySem.W.Fast.tw9956004875932839966 : Unit := ()
def PySem.W.Fast.tw11270935801898090571 : Unit := ()
def PySem.W.Fast.tw3125132455956451321 : Unit := ()
def PySem.W.Fast.tw5786612591643269633 : Unit := ()
def PySem.W.Fast.tw3411906946118568993 : Unit := ()
def PySem.W.Fast.tw14179582645844757418 : Unit := ()
def PySem.W.Fast.tw10253879721772553445 : Unit := ()
def PySem.W.Fast.tw1667985588075091112 : Unit := ()
def PySem.W.Fast.tw18232771995125191481 : Unit := ()
def PySem.W.Fast.tw289645108795473737 : Unit := ()
def PySem.W.Fast.tw15853748835145543270 : Unit := ()
def PySem.W.Fast.tw13681180334389840236 : Unit := ()
def PySem.W.Fast.tw18402601851906912526 : Unit := ()
def PySem.W.Fast.tw15398226928609728640 : Unit := ()
def PySem.W.Fast.tw16503156391986115603 : Unit := ()
def PySem.W.Fast.tw1407245258975799041 : Unit := ()
def PySem.W.Fast.tw7317802964179229474 : Unit := ()
def PySem.W.Fast.tw2886132484266739426 : Unit := ()
def PySem.W.Fast.tw11868106136845012518 : Unit := ()
def PySem.W.Fast.tw890375631988921262 : Unit := ()
def PySem.W.Fast.tw14320120855693003557 : Unit := ()
def PySem.W.Fast.tw7904625425567834245 : Unit := ()
def PySem.W.Fast.tw14066200688101896678 : Unit := ()
def PySem.W.Fast.tw10863218799528657544 : Unit := ()
def PySem.W.Fast.tw17340295550356001153 : Unit := ()
def PySem.W.Fast.tw4998229756775233430 : Unit := ()
def PySem.W.Fast.tw10553145865840505480 : Unit := ()
def PySem.W.Fast.tw11359331310353453414 : Unit := ()
def PySem.W.Fast.tw3995961360613836211 : Unit := ()
def PySem.W.Fast.tw7844388234672245088 : Unit := ()
def PySem.W.Fast.tw4618529054603264740 : Unit := ()
def PySem.W.Fast.tw1792084005799263560 : Unit := ()
def PySem.W.Fast.tw11125865989142284576 : Unit := ()
def PySem.W.Fast.tw9534139839312160047 : Unit := ()
def PySem.W.Fast.tw38320718795491601 : Unit := ()
def PySem.W.Fast.tw286400461477461318 : Unit := ()
def PySem.W.Fast.tw11963471841419333234 : Unit := ()
def PySem.W.Fast.tw10627101556223805158 : Unit := ()
def PySem.W.Fast.tw17348782751518537507 : Unit := ()
def PySem.W.Fast.tw10375873895366557811 : Unit := ()
def PySem.W.Fast.tw8239016227790132491 : Unit := ()
def PySem.W.Fast.tw16928093924805594762 : Unit := ()
def PySem.W.Fast.tw12317804665367812466 : Unit := ()
def PySem.W.Fast.tw17714096132279894401 : Unit := ()
def PySem.W.Fast.tw1195659583533946590 : Unit := ()
set_option maxRecDepth 100000 in
set_option maxHeartbeats 0 in
theorem PySem.Challenge.cw_whyfacts_k32_groups_of_too_many_holds : PySem.Challenge.rw_whyfacts_k32_groups_of_too_many.Holds := by
 w_on; o_law; k_head; (case hw => w_witness2)
 k_fill
 refine DL.walkX (b := true) (l := PySem.Challenge.rw_whyfacts_k32_groups_of_too_many) (op := DL.My.op_law) (k := 36) (x := "_law_script") rfl rfl ⟨rfl, by decide, by decide⟩ (fun w h Y => PySem.W.kIn_of Y) DL.My.law_true ?F
 case F =>
  intro w mg fa h KX G hmg
  refine' DL.My.all_mk KX G hmg ?cl_FactError ?cl_BadFact ?cl_BadRule ?cl_BadWidth ?cl_Unbound ?cl_Ringed ?cl_TooMany ?cl_NoFact ?cl_NoText ?s_TooMany_BadFact ?s_TooMany_BadRule ?s_TooMany_BadWidth ?s_TooMany_FactError ?s_TooMany_NoFact ?s_TooMany_NoText ?s_TooMany_Ringed ?s_TooMany_Unbound ?nb_ValueError ?sbb_ValueError ?s_TooMany_ValueError ?k1_MOST_FILLS ?k1_MOST_SIGNS ?k1_SMALL_LETTERS ?k1_GREAT_LETTERS ?k1_PATTERN_PARTS ?k2_PATTERN_PARTS ?b_all ?b_dict ?b_int ?b_isinstance ?b_len ?b_list ?b_range ?b_str ?b_tuple ?b_zip ?d_l_cell ?d_l_word ?d_grounds_in ?d_facts_of_grounds ?d_rests_on ?d_rule_named ?d_filled ?d_is_short_text ?d_all_small ?d_is_free ?d_matched ?d_fill_by_ground ?d_fill_by_grounds ?d_ground_is_so ?d_by_stands ?d_settled_places ?d_values_at ?d_facts_by_values ?d_fills_by_has ?d_fills_by_part ?d_ground_of ?d_grounds_of ?d_fills_of ?d_groups_of ?d_grounds_of_group ?d_group_tells ?d_of_stands ?d_reason_stands ?d_stands ?d_l_said ?d_l_found ?d_law
  (case cl_FactError => refine' DL.ClsIn.mk' ?z1a ?z1b ?z1c ?z1d ?z1e ?z1f ?z1g ?z1h ?z1i ?z1j; (case z1a => k_is); (case z1b => k_exc); (case z1c => k_is); (case z1d => k_is); (case z1e => k_is); (case z1f => k_is); (case z1g => k_is); (case z1h => k_is); (case z1i => k_is); (case z1j => k_is))
  (case cl_BadFact => refine' DL.ClsIn.mk' ?z2a ?z2b ?z2c ?z2d ?z2e ?z2f ?z2g ?z2h ?z2i ?z2j; (case z2a => k_is); (case z2b => k_exc); (case z2c => k_is); (case z2d => k_is); (case z2e => k_is); (case z2f => k_is); (case z2g => k_is); (case z2h => k_is); (case z2i => k_is); (case z2j => k_is))
  (case cl_BadRule => refine' DL.ClsIn.mk' ?z3a ?z3b ?z3c ?z3d ?z3e ?z3f ?z3g ?z3h ?z3i ?z3j; (case z3a => k_is); (case z3b => k_exc); (case z3c => k_is); (case z3d => k_is); (case z3e => k_is); (case z3f => k_is); (case z3g => k_is); (case z3h => k_is); (case z3i => k_is); (case z3j => k_is))
  (case cl_BadWidth => refine' DL.ClsIn.mk' ?z4a ?z4b ?z4c ?z4d ?z4e ?z4f ?z4g ?z4h ?z4i ?z4j; (case z4a => k_is); (case z4b => k_exc); (case z4c => k_is); (case z4d => k_is); (case z4e => k_is); (case z4f => k_is); (case z4g => k_is); (case z4h => k_is); (case z4i => k_is); (case z4j => k_is))
  (case cl_Unbound => refine' DL.ClsIn.mk' ?z5a ?z5b ?z5c ?z5d ?z5e ?z5f ?z5g ?z5h ?z5i ?z5j; (case z5a => k_is); (case z5b => k_exc); (case z5c => k_is); (case z5d => k_is); (case z5e => k_is); (case z5f => k_is); (case z5g => k_is); (case z5h => k_is); (case z5i => k_is); (case z5j => k_is))
  (case cl_Ringed => refine' DL.ClsIn.mk' ?z6a ?z6b ?z6c ?z6d ?z6e ?z6f ?z6g ?z6h ?z6i ?z6j; (case z6a => k_is); (case z6b => k_exc); (case z6c => k_is); (case z6d => k_is); (case z6e => k_is); (case z6f => k_is); (case z6g => k_is); (case z6h => k_is); (case z6i => k_is); (case z6j => k_is))
  (case cl_TooMany => refine' DL.ClsIn.mk' ?z7a ?z7b ?z7c ?z7d ?z7e ?z7f ?z7g ?z7h ?z7i ?z7j; (case z7a => k_is); (case z7b => k_exc); (case z7c => k_is); (case z7d => k_is); (case z7e => k_is); (case z7f => k_is); (case z7g => k_is); (case z7h => k_is); (case z7i => k_is); (case z7j => k_is))
  (case cl_NoFact => refine' DL.ClsIn.mk' ?z8a ?z8b ?z8c ?z8d ?z8e ?z8f ?z8g ?z8h ?z8i ?z8j; (case z8a => k_is); (case z8b => k_exc); (case z8c => k_is); (case z8d => k_is); (case z8e => k_is); (case z8f => k_is); (case z8g => k_is); (case z8h => k_is); (case z8i => k_is); (case z8j => k_is))
  (case cl_NoText => refine' DL.ClsIn.mk' ?z9a ?z9b ?z9c ?z9d ?z9e ?z9f ?z9g ?z9h ?z9i ?z9j; (case z9a => k_is); (case z9b => k_exc); (case z9c => k_is); (case z9d => k_is); (case z9e => k_is); (case z9f => k_is); (case z9g => k_is); (case z9h => k_is); (case z9i => k_is); (case z9j => k_is))
  (case s_TooMany_BadFact => k_is)
  (case s_TooMany_BadRule => k_is)
  (case s_TooMany_BadWidth => k_is)
  (case s_TooMany_FactError => k_is)
  (case s_TooMany_NoFact => k_is)
  (case s_TooMany_NoText => k_is)
  (case s_TooMany_Ringed => k_is)
  (case s_TooMany_Unbound => k_is)
  (case nb_ValueError => k_is)
  (case sbb_ValueError => k_is)
  (case s_TooMany_ValueError => k_is)
  (case k1_MOST_FILLS => k_is)
  (case k1_MOST_SIGNS => k_is)
  (case k1_SMALL_LETTERS => k_is)
  (case k1_GREAT_LETTERS => k_is)
  (case k1_PATTERN_PARTS => k_is)
  (case k2_PATTERN_PARTS => k_is)
  (case b_all => k_is)
  (case b_dict => k_is)
  (case b_int => k_is)
  (case b_isinstance => k_is)
  (case b_len => k_is)
  (case b_list => k_is)
  (case b_range => k_is)
  (case b_str => k_is)
  (case b_tuple => k_is)
  (case b_zip => k_is)
  (case d_l_cell => refine' DL.DIn.mk' ?z10a ?z10b ?z10c ?z10d; (case z10a => k_is); (case z10b => k_is); (case z10c => k_is); (case z10d => k_is))
  (case d_l_word => refine' DL.DIn.mk' ?z11a ?z11b ?z11c ?z11d; (case z11a => k_is); (case z11b => k_is); (case z11c => k_is); (case z11d => k_is))
  (case d_grounds_in => refine' DL.DIn.mk' ?z12a ?z12b ?z12c ?z12d; (case z12a => k_is); (case z12b => k_is); (case z12c => k_is); (case z12d => k_is))
  (case d_facts_of_grounds => refine' DL.DIn.mk' ?z13a ?z13b ?z13c ?z13d; (case z13a => k_is); (case z13b => k_is); (case z13c => k_is); (case z13d => k_is))
  (case d_rests_on => refine' DL.DIn.mk' ?z14a ?z14b ?z14c ?z14d; (case z14a => k_is); (case z14b => k_is); (case z14c => k_is); (case z14d => k_is))
  (case d_rule_named => refine' DL.DIn.mk' ?z15a ?z15b ?z15c ?z15d; (case z15a => k_is); (case z15b => k_is); (case z15c => k_is); (case z15d => k_is))
  (case d_filled => refine' DL.DIn.mk' ?z16a ?z16b ?z16c ?z16d; (case z16a => k_is); (case z16b => k_is); (case z16c => k_is); (case z16d => k_is))
  (case d_is_short_text => refine' DL.DIn.mk' ?z17a ?z17b ?z17c ?z17d; (case z17a => k_is); (case z17b => k_is); (case z17c => k_is); (case z17d => k_is))
  (case d_all_small => refine' DL.DIn.mk' ?z18a ?z18b ?z18c ?z18d; (case z18a => k_is); (case z18b => k_is); (case z18c => k_is); (case z18d => k_is))
  (case d_is_free => refine' DL.DIn.mk' ?z19a ?z19b ?z19c ?z19d; (case z19a => k_is); (case z19b => k_is); (case z19c => k_is); (case z19d => k_is))
  (case d_matched => refine' DL.DIn.mk' ?z20a ?z20b ?z20c ?z20d; (case z20a => k_is); (case z20b => k_is); (case z20c => k_is); (case z20d => k_is))
  (case d_fill_by_ground => refine' DL.DIn.mk' ?z21a ?z21b ?z21c ?z21d; (case z21a => k_is); (case z21b => k_is); (case z21c => k_is); (case z21d => k_is))
  (case d_fill_by_grounds => refine' DL.DIn.mk' ?z22a ?z22b ?z22c ?z22d; (case z22a => k_is); (case z22b => k_is); (case z22c => k_is); (case z22d => k_is))
  (case d_ground_is_so => refine' DL.DIn.mk' ?z23a ?z23b ?z23c ?z23d; (case z23a => k_is); (case z23b => k_is); (case z23c => k_is); (case z23d => k_is))
  (case d_by_stands => refine' DL.DIn.mk' ?z24a ?z24b ?z24c ?z24d; (case z24a => k_is); (case z24b => k_is); (case z24c => k_is); (case z24d => k_is))
  (case d_settled_places => refine' DL.DIn.mk' ?z25a ?z25b ?z25c ?z25d; (case z25a => k_is); (case z25b => k_is); (case z25c => k_is); (case z25d => k_is))
  (case d_values_at => refine' DL.DIn.mk' ?z26a ?z26b ?z26c ?z26d; (case z26a => k_is); (case z26b => k_is); (case z26c => k_is); (case z26d => k_is))
  (case d_facts_by_values => refine' DL.DIn.mk' ?z27a ?z27b ?z27c ?z27d; (case z27a => k_is); (case z27b => k_is); (case z27c => k_is); (case z27d => k_is))
  (case d_fills_by_has => refine' DL.DIn.mk' ?z28a ?z28b ?z28c ?z28d; (case z28a => k_is); (case z28b => k_is); (case z28c => k_is); (case z28d => k_is))
  (case d_fills_by_part => refine' DL.DIn.mk' ?z29a ?z29b ?z29c ?z29d; (case z29a => k_is); (case z29b => k_is); (case z29c => k_is); (case z29d => k_is))
  (case d_ground_of => refine' DL.DIn.mk' ?z30a ?z30b ?z30c ?z30d; (case z30a => k_is); (case z30b => k_is); (case z30c => k_is); (case z30d => k_is))
  (case d_grounds_of => refine' DL.DIn.mk' ?z31a ?z31b ?z31c ?z31d; (case z31a => k_is); (case z31b => k_is); (case z31c => k_is); (case z31d => k_is))
  (case d_fills_of => refine' DL.DIn.mk' ?z32a ?z32b ?z32c ?z32d; (case z32a => k_is); (case z32b => k_is); (case z32c => k_is); (case z32d => k_is))
  (case d_groups_of => refine' DL.DIn.mk' ?z33a ?z33b ?z33c ?z33d; (case z33a => k_is); (case z33b => k_is); (case z33c => k_is); (case z33d => k_is))
  (case d_grounds_of_group => refine' DL.DIn.mk' ?z34a ?z34b ?z34c ?z34d; (case z34a => k_is); (case z34b => k_is); (case z34c => k_is); (case z34d => k_is))
  (case d_group_tells => refine' DL.DIn.mk' ?z35a ?z35b ?z35c ?z35d; (case z35a => k_is); (case z35b => k_is); (case z35c => k_is); (case z35d => k_is))
  (case d_of_stands => refine' DL.DIn.mk' ?z36a ?z36b ?z36c ?z36d; (case z36a => k_is); (case z36b => k_is); (case z36c => k_is); (case z36d => k_is))
  (case d_reason_stands => refine' DL.DIn.mk' ?z37a ?z37b ?z37c ?z37d; (case z37a => k_is); (case z37b => k_is); (case z37c => k_is); (case z37d => k_is))
  (case d_stands => refine' DL.DIn.mk' ?z38a ?z38b ?z38c ?z38d; (case z38a => k_is); (case z38b => k_is); (case z38c => k_is); (case z38d => k_is))
  (case d_l_said => refine' DL.DIn.mk' ?z39a ?z39b ?z39c ?z39d; (case z39a => k_is); (case z39b => k_is); (case z39c => k_is); (case z39d => k_is))
  (case d_l_found => refine' DL.DIn.mk' ?z40a ?z40b ?z40c ?z40d; (case z40a => k_is); (case z40b => k_is); (case z40c => k_is); (case z40d => k_is))
  (case d_law => refine' DL.DIn.mk' ?z41a ?z41b ?z41c ?z41d; (case z41a => k_is); (case z41b => k_is); (case z41c => k_is); (case z41d => k_is))
