import PyProof.Rows.All
import Wide.All
import OpenK.AllK
import Wide.FinOn
import Lean
import PyProof.EqAt
import PyProof.EqKinds
import PyProof.TupleCall
import PySem.Challenge.RW_whyfacts_k01_words_and_order
set_option Elab.async false
set_option linter.all false
set_option maxRecDepth 100000
/-! THE HAND LAYER, for ints, bools, texts, own classes, LISTS and tuples (index, slices, in, append, pop ..), calls, loops. Paste it whole ahead of your own text; what your proof does not reach may be deleted. -/
namespace L2
open PySem PySem.Spec PyProof.Rows

/-- a key: an int or a str -/
abbrev Key := Sum Int Str
def keyIs : Key → Value → Bool
  | .inl k, v => Value.isInt k v
  | .inr x, v => Value.isStrOf x v
def keyH (w : World) : Key → Int
  | .inl k => hashInt k
  | .inr x => hashStr w x
theorem keyIs_shape : ∀ {k : Key} {v : Value}, keyIs k v = true → (∃ i t, k = Sum.inl i ∧ v = Value.int i t) ∨ (∃ x t, k = Sum.inr x ∧ v = Value.str x t)
  | .inl i, v, h => by
    obtain ⟨t, e⟩ := Value.isInt_shape (k := i) (v := v) h
    exact .inl ⟨i, t, rfl, e⟩
  | .inr x, v, h => by
    obtain ⟨t, e⟩ := Value.isStrOf_shape (x := x) (v := v) h
    exact .inr ⟨x, t, rfl, e⟩
theorem keyIs_int (i : Int) (t : Tok) : keyIs (.inl i) (.int i t) = true := by simp [keyIs, Value.isInt]
theorem keyIs_str (x : Str) (t : Tok) : keyIs (.inr x) (.str x t) = true := by simp [keyIs, Value.isStrOf]
theorem key_ll (a b : Int) : decide ((Sum.inl a : Key) = Sum.inl b) = (a == b) := by
  by_cases e : a = b
  · subst e; simp
  · have h : ¬ (Sum.inl a : Key) = Sum.inl b := fun q => e (Sum.inl.inj q)
    rw [decide_eq_false h]
    exact (beq_eq_false_iff_ne.mpr e).symm
theorem key_rr (a b : Str) : decide ((Sum.inr a : Key) = Sum.inr b) = decide (a = b) := by
  by_cases e : a = b
  · subst e; simp
  · have h : ¬ (Sum.inr a : Key) = Sum.inr b := fun q => e (Sum.inr.inj q)
    rw [decide_eq_false h, decide_eq_false e]
theorem key_lr (a : Int) (b : Str) : decide ((Sum.inl a : Key) = Sum.inr b) = false := decide_eq_false (fun q => nomatch q)
theorem key_rl (a : Str) (b : Int) : decide ((Sum.inr a : Key) = Sum.inl b) = false := decide_eq_false (fun q => nomatch q)

def mixKind (prog : Program) (w : World) : PySem.KeyKind prog w Key where
  is := keyIs
  hash := keyH w
  inj := fun v a b ha hb => by
    rcases keyIs_shape ha with ⟨i, t, rfl, rfl⟩ | ⟨x, t, rfl, rfl⟩
    · rcases keyIs_shape hb with ⟨j, u, rfl, e⟩ | ⟨y, u, rfl, e⟩
      · injection e with e1 _; rw [e1]
      · exact nomatch e
    · rcases keyIs_shape hb with ⟨j, u, rfl, e⟩ | ⟨y, u, rfl, e⟩
      · exact nomatch e
      · injection e with e1 _; rw [e1]
  byValue := fun k v h => by
    rcases keyIs_shape h with ⟨i, t, rfl, rfl⟩ | ⟨x, t, rfl, rfl⟩ <;> rfl
  pyHash := fun hv h => by
    rcases keyIs_shape hv with ⟨i, t, rfl, rfl⟩ | ⟨x, t, rfl, rfl⟩
    · exact wpAny_pyHash_int h
    · exact wpAny_pyHash_str h
  eqBool := fun hu hv h => by
    rcases keyIs_shape hu with ⟨i, t, rfl, rfl⟩ | ⟨x, t, rfl, rfl⟩
    · rcases keyIs_shape hv with ⟨j, u, rfl, rfl⟩ | ⟨y, u, rfl, rfl⟩
      · rw [key_ll] at h; exact wpAny_eqBool_int h
      · rw [key_lr] at h; exact SeqAt.EqAt.int_str i t y u _ _ _ _ h
    · rcases keyIs_shape hv with ⟨j, u, rfl, rfl⟩ | ⟨y, u, rfl, rfl⟩
      · rw [key_rl] at h; exact SeqAt.EqAt.str_int x t j u _ _ _ _ h
      · rw [key_rr] at h; exact wpAny_eqBool_str h
  «strs» := fun k x t v h => by
    rcases keyIs_shape h with ⟨i, u, rfl, e⟩ | ⟨y, u, rfl, e⟩
    · exact nomatch e
    · injection e with e1 _
      subst e1
      cases v <;> rfl

theorem mixKind_is (prog : Program) (w : World) (k : Key) (v : Value) : (mixKind prog w).is k v = keyIs k v := rfl
theorem mixKind_int (prog : Program) (w : World) (i : Int) (t : Tok) : (mixKind prog w).is (.inl i) (.int i t) = true := keyIs_int i t
theorem mixKind_str (prog : Program) (w : World) (x : Str) (t : Tok) : (mixKind prog w).is (.inr x) (.str x t) = true := keyIs_str x t
end L2

namespace L2
open PySem PySem.Spec PyProof.Rows

/-- a value, without the heap -/
inductive V where
  | non | bl (b : Bool) | int (i : Int) | str (x : Str) | byt (b : Array UInt8) | flt (b : UInt64) | ref (a : Addr) | ty (n : String)
  deriving DecidableEq

def RelV : V → Value → Prop
  | .non, u => u = Value.none
  | .bl b, u => u = Value.bool b
  | .int i, u => ∃ t, u = Value.int i t
  | .str x, u => ∃ t, u = Value.str x t
  | .byt b, u => ∃ t, u = Value.bytes b t
  | .flt b, u => ∃ t, u = Value.float b t
  | .ref a, u => u = Value.ref a
  | .ty n, u => u = Value.type n

abbrev Vals : List V → List Value → Prop := Paired RelV
theorem Vals.length {xs : List V} {us : List Value} (r : Vals xs us) : xs.length = us.length := Paired.length r
theorem Vals.get : ∀ {xs : List V} {us : List Value} {i : Nat} {x : V}, Vals xs us → xs[i]? = some x → ∃ u, us[i]? = some u ∧ RelV x u
  | _, _, _, _, .nil, e => by simp at e
  | _, _, 0, _, .cons r _, e => by simp at e; subst e; exact ⟨_, rfl, r⟩
  | _, _, i + 1, x, .cons _ t, e => by
    obtain ⟨u, h1, h2⟩ := Vals.get (i := i) (x := x) t (by simpa using e)
    exact ⟨u, by simpa using h1, h2⟩
theorem Vals.set {x : V} {u : Value} (r : RelV x u) : ∀ {xs : List V} {us : List Value} (i : Nat), Vals xs us → Vals (xs.set i x) (us.set i u)
  | _, _, _, .nil => .nil
  | _, _, 0, .cons _ t => .cons r t
  | _, _, i + 1, .cons q t => .cons q (Vals.set r i t)
theorem Vals.append : ∀ {xs ys : List V} {us ws : List Value}, Vals xs us → Vals ys ws → Vals (xs ++ ys) (us ++ ws)
  | _, _, _, _, .nil, s => s
  | _, _, _, _, .cons r t, s => .cons r (Vals.append t s)
theorem Vals.take : ∀ {xs : List V} {us : List Value} (n : Nat), Vals xs us → Vals (xs.take n) (us.take n)
  | _, _, 0, _ => .nil
  | _, _, _ + 1, .nil => .nil
  | _, _, n + 1, .cons r t => .cons r (Vals.take n t)
theorem Vals.drop : ∀ {xs : List V} {us : List Value} (n : Nat), Vals xs us → Vals (xs.drop n) (us.drop n)
  | _, _, 0, r => r
  | _, _, _ + 1, .nil => .nil
  | _, _, n + 1, .cons _ t => Vals.drop n t
theorem Vals.none_of : ∀ {xs : List V} {us : List Value} {i : Nat}, Vals xs us → xs[i]? = none → us[i]? = none := fun {xs us i} r e => by
  have h1 := r.length
  have h2 : xs.length ≤ i := List.getElem?_eq_none_iff.mp e
  exact List.getElem?_eq_none_iff.mpr (by omega)

def RelO : Option V → Option Value → Prop
  | some v, some u => RelV v u
  | none, none => True
  | _, _ => False
def KV {κ : Type} : List (κ × V) → List (κ × Value) → Prop := Paired fun (p : κ × V) (q : κ × Value) => p.1 = q.1 ∧ RelV p.2 q.2

/-- a key of a dict (00_mix): an int or a text -/
def kV : Key → V
  | .inl i => .int i
  | .inr x => .str x

/-- what stands at a tracked address -/
inductive HO where
  /-- a list -/
  | lst (xs : List V)
  /-- a tuple (never changes) -/
  | tup (xs : List V)
  /-- a dict whose keys are ints and texts; one whose keys are tuples of ints and texts (the empty one is both) -/
  | dK (kvs : List (Key × V)) | dT (kvs : List (List Key × V))
  /-- a set of ints: its members, its size -/
  | set (S : Int → Bool) (n : Nat)
  /-- an instance of the class at C, its dict at dx, its attributes -/
  | ins (C dx : Addr) (fs : List (Str × V))
  /-- the dict of the instance at x -/
  | own (x : Addr)
  /-- the dict of an exception -/
  | xd (fs : List (Str × V))
  /-- a bound method, f of x -/
  | met (f x : Addr)
  /-- a range object lo, lo + 1, .. below hi -/
  | rng (lo hi : Int)
  /-- a thing that is known to the object (the script; a dict while a loop walks it): read, never written while it is so -/
  | frz (o : Obj) (u : HO)
  /-- a code object's table -/
  | tbl (ps : Array Value)
  /-- any other thing, by what is true of its one object (a def of one's own: SetO a S n := HO.ext fun h => ..) -/
  | ext (φ : Heap → Prop)

abbrev Hp := Addr → Option HO
def upd (H : Hp) (a : Addr) (o : HO) : Hp := fun b => if b = a then some o else H b
theorem upd_same {H : Hp} {a : Addr} {o : HO} : upd H a o a = some o := by unfold upd; rw [if_pos rfl]
theorem upd_ne {H : Hp} {a b : Addr} {o : HO} (h : b ≠ a) : upd H a o b = H b := by unfold upd; rw [if_neg h]
theorem upd_upd {H : Hp} {a : Addr} {o u : HO} : upd (upd H a o) a u = upd H a u := by
  funext b; unfold upd; split <;> rfl
/-- two objects of different content stand apart -/
theorem ne_of {H : Hp} {a b : Addr} {o u : HO} (h : H a = some o) (h' : H b = some u) (d : o ≠ u) : a ≠ b := by
  intro e; subst e; rw [h] at h'; exact d (Option.some.inj h')
theorem ne_of_none {H : Hp} {a b : Addr} {o : HO} (h : H a = some o) (h' : H b = none) : a ≠ b := by
  intro e; subst e; rw [h] at h'; cases h'

section
variable (P : Program) (w : World)
def ObjOk (H : Hp) (h : Heap) (a : Addr) : HO → Prop
  | .lst xs => xs.length ≤ sizeLine ∧ ∃ (its : List Value) (n : Nat), Vals xs its ∧ h.get? a = some { cls := .type "list", data := .seq its.toArray n }
  | .tup xs => xs.length ≤ sizeLine ∧ ∃ its : List Value, Vals xs its ∧ IsTup h a its.toArray
  | .dK kvs => kvs.length ≤ sizeLine ∧ (a == sysModules) = false ∧ ∃ vs, KV kvs vs ∧ h.DictOf (mixKind P w) a vs
  | .dT kvs => kvs.length ≤ sizeLine ∧ (a == sysModules) = false ∧ ∃ xs : List (List Key × Addr × Value),
      Paired (fun (p : List Key × V) (q : List Key × Addr × Value) => p.1 = q.1 ∧ H q.2.1 = some (.tup (p.1.map kV)) ∧ RelV p.2 q.2.2) kvs xs ∧
      ∃ o es ep, h.get? a = some o ∧ o.ExactDict ∧ o.data = .dict es ep ∧ es.toList = xs.map (entryOfKey (tupleKind (mixKind P w))) ∧ (xs.map (·.1)).Nodup
  | .set S n => h.SetOf (intKind P w) a S n
  | .ins C dx fs => H dx = some (.own a) ∧ fs.length ≤ 1000 ∧ dx ≠ a ∧ h.get? a = some (PySem.W.instObj C dx) ∧
      ∃ mA, h.Ns1 dx mA ∧ (∀ f, RelO (fs.lookup f) (mA f)) ∧ PySem.Within mA (fs.map (·.1))
  | .own _ => ∃ o, h.get? a = some o
  | .xd fs => ∃ mA, h.Ns1 a mA ∧ ∀ f, RelO (fs.lookup f) (mA f)
  | .rng lo hi => ∃ t u v, h.get? a = some { cls := .type "range", data := .fields #[.int lo t, .int hi u, .int 1 v] }
  | .frz o u => h.get? a = some o ∧ ObjOk H h a u
  | .tbl ps => h.get? a = some { cls := .none, data := .fields ps }
  | .met f x => h.get? a = some (PySem.W.methodObj (.ref f) (.ref x))
  | .ext φ => φ h ∧ (∃ o, h.get? a = some o) ∧ ∀ h1 h2 : Heap, φ h1 → (∀ o, h1.get? a = some o → h2.get? a = some o) → φ h2
/-- the abstract heap is held -/
def HOk (H : Hp) (h : Heap) : Prop := ∀ a o, H a = some o → ObjOk P w H h a o
end

section
variable {P : Program} {w : World} {H H' : Hp} {h h' : Heap} {a : Addr} {o : HO}
theorem ObjOk.lt (x : ObjOk P w H h a o) : a < h.objs.size := by
  cases o with
  | lst xs => obtain ⟨_, _, _, _, e⟩ := x; exact Heap.lt_size e
  | tup xs => obtain ⟨_, _, _, p⟩ := x; exact p.lt
  | dK kvs => obtain ⟨_, _, _, _, o, _, _, e, _⟩ := x; exact Heap.lt_size e
  | dT kvs => obtain ⟨_, _, _, _, o, _, _, e, _⟩ := x; exact Heap.lt_size e
  | set S n => obtain ⟨o, _, _, _, e, _⟩ := x; exact Heap.lt_size e
  | ins C dx fs => obtain ⟨_, _, _, e, _⟩ := x; exact Heap.lt_size e
  | own y => obtain ⟨_, e⟩ := x; exact Heap.lt_size e
  | xd fs => obtain ⟨_, ⟨_, _, _, e, _⟩, _⟩ := x; exact Heap.lt_size e
  | rng lo hi => obtain ⟨_, _, _, e⟩ := x; exact Heap.lt_size e
  | frz ob u => obtain ⟨e, _⟩ := x; exact Heap.lt_size e
  | tbl ps => exact Heap.lt_size (show h.get? a = some _ from x)
  | met f y => exact Heap.lt_size (show h.get? a = some _ from x)
  | ext φ => obtain ⟨_, ⟨_, e⟩, _⟩ := x; exact Heap.lt_size e
theorem Paired.mapP {α β : Type} {F G : α → β → Prop} : ∀ {l₁ : List α} {l₂ : List β}, Paired F l₁ l₂ → (∀ a b, F a b → G a b) → Paired G l₁ l₂
  | _, _, .nil, _ => .nil
  | _, _, .cons r t, f => .cons (f _ _ r) (Paired.mapP t f)
theorem Paired.imp' {α β : Type} {F G : α → β → Prop} (f : ∀ a b, F a b → G a b) {l₁ : List α} {l₂ : List β} (r : Paired F l₁ l₂) : Paired G l₁ l₂ := Paired.mapP r f
/-- what an object's description leans on: its own object, its own dict, the tuples -/
theorem ObjOk.stay (x : ObjOk P w H h a o) (k : ∀ b u, (b = a ∨ H b = some (.own a)) → h.get? b = some u → h'.get? b = some u)
    (ho : ∀ b, H b = some (.own a) → H' b = some (.own a)) (ht : ∀ b xs, H b = some (.tup xs) → H' b = some (.tup xs)) : ObjOk P w H' h' a o := by
  induction o with
  | lst xs => obtain ⟨z, its, n, r, e⟩ := x; exact ⟨z, its, n, r, k _ _ (.inl rfl) e⟩
  | tup xs => obtain ⟨z, its, r, ob, e, c⟩ := x; exact ⟨z, its, r, ob, k _ _ (.inl rfl) e, c⟩
  | dK kvs => obtain ⟨z, y, vs, r, ob, es, ep, e, c⟩ := x; exact ⟨z, y, vs, r, ob, es, ep, k _ _ (.inl rfl) e, c⟩
  | dT kvs =>
    obtain ⟨z, y, xs, r, ob, es, ep, e, c⟩ := x
    exact ⟨z, y, xs, Paired.mapP r fun p q z => ⟨z.1, ht _ _ z.2.1, z.2.2⟩, ob, es, ep, k _ _ (.inl rfl) e, c⟩
  | set S n => obtain ⟨ob, es, ep, t, e, c⟩ := x; exact ⟨ob, es, ep, t, k _ _ (.inl rfl) e, c⟩
  | ins C dx fs =>
    obtain ⟨d, z, ne, e, mA, ⟨od, es, ep, e2, c⟩, r⟩ := x
    exact ⟨ho _ d, z, ne, k _ _ (.inl rfl) e, mA, ⟨od, es, ep, k _ _ (.inr d) e2, c⟩, r⟩
  | own y => obtain ⟨ob, e⟩ := x; exact ⟨ob, k _ _ (.inl rfl) e⟩
  | xd fs => obtain ⟨mA, ⟨od, es, ep, e, c⟩, r⟩ := x; exact ⟨mA, ⟨od, es, ep, k _ _ (.inl rfl) e, c⟩, r⟩
  | rng lo hi => obtain ⟨t, u, v, e⟩ := x; exact ⟨t, u, v, k _ _ (.inl rfl) e⟩
  | frz ob u ih => obtain ⟨e, q⟩ := x; exact ⟨k _ _ (.inl rfl) e, ih q⟩
  | tbl ps =>
    have e : h.get? a = some { cls := .none, data := .fields ps } := x
    show h'.get? a = some { cls := .none, data := .fields ps }
    exact k a _ (.inl rfl) e
  | met f y =>
    have e : h.get? a = some (PySem.W.methodObj (.ref f) (.ref y)) := x
    show h'.get? a = some (PySem.W.methodObj (.ref f) (.ref y))
    exact k a _ (.inl rfl) e
  | ext φ => obtain ⟨p, ⟨o, e⟩, st⟩ := x; exact ⟨st _ _ p fun o q => k _ _ (.inl rfl) q, ⟨o, k _ _ (.inl rfl) e⟩, st⟩
theorem HOk.lt (x : HOk P w H h) (e : H a = some o) : a < h.objs.size := (x a o e).lt
theorem HOk.fresh (x : HOk P w H h) (e : h.objs.size ≤ a) : H a = none := by
  cases q : H a with
  | none => rfl
  | some u => exact absurd (Nat.lt_of_lt_of_le (x.lt q) e) (Nat.lt_irrefl _)
/-- every object of the heap is kept -/
theorem HOk.kept (x : HOk P w H h) (k : ∀ b u, h.get? b = some u → h'.get? b = some u) : HOk P w H h' := fun a o e =>
  (x a o e).stay (fun b u _ q => k b u q) (fun _ q => q) fun _ _ q => q
/-- a new object is laid and tracked -/
theorem HOk.laid (x : HOk P w H h) (k : ∀ b u, h.get? b = some u → h'.get? b = some u) (hp : h.objs.size ≤ a) (new : ObjOk P w (upd H a o) h' a o) : HOk P w (upd H a o) h' := fun b u e => by
  have hn := x.fresh hp
  by_cases hb : b = a
  · subst hb; rw [upd_same] at e; cases e; exact new
  · rw [upd_ne hb] at e
    exact (x b u e).stay (fun c v _ q => k c v q) (fun c q => by rw [upd_ne (ne_of_none q hn)]; exact q) fun c xs q => by rw [upd_ne (ne_of_none q hn)]; exact q
end

/-- what may be read as u: it is u, or a known u -/
def Rd (H : Hp) (a : Addr) (u : HO) : Prop := H a = some u ∨ ∃ o, H a = some (.frz o u)
theorem Rd.of {H : Hp} {a : Addr} {u : HO} (h : H a = some u) : Rd H a u := .inl h
theorem Rd.ok {P : Program} {w : World} {H : Hp} {h : Heap} {a : Addr} {u : HO} (r : Rd H a u) (x : HOk P w H h) : ObjOk P w H h a u := by
  rcases r with r | ⟨o, r⟩
  · exact x a u r
  · obtain ⟨_, q⟩ := x a _ r
    exact q
/-- what may be written -/
def Mut : Option HO → Prop
  | some (.lst _) => True
  | some (.dK _) => True
  | some (.dT _) => True
  | some (.set _ _) => True
  | some (.ins _ _ _) => True
  | some (.ext _) => True
  | _ => False
section
variable {P : Program} {w : World} {H : Hp} {h h' : Heap} {x e : Addr} {o' : HO}
/-- the object at e is changed: x itself, or the dict of the instance x -/
theorem HOk.write (ok : HOk P w H h) (mu : Mut (H x)) (he : e = x ∨ H e = some (.own x)) (k : ∀ b u, b ≠ e → h.get? b = some u → h'.get? b = some u) (heo : ∃ u, h'.get? e = some u)
    (new : ObjOk P w (upd H x o') h' x o') : HOk P w (upd H x o') h' := fun b u q => by
  have nown : ∀ c y, H c = some (.own y) → c ≠ x := fun c y r z => by subst z; rw [r] at mu; exact mu
  have ntup : ∀ c xs, H c = some (.tup xs) → c ≠ x := fun c xs r z => by subst z; rw [r] at mu; exact mu
  by_cases hb : b = x
  · subst hb; rw [upd_same] at q; cases q; exact new
  · rw [upd_ne hb] at q
    by_cases hbe : b = e
    · have q' : H b = some (.own x) := by
        rcases he with z | z
        · exact absurd (hbe.trans z) hb
        · rw [hbe]; exact z
      rw [q] at q'; cases q'
      obtain ⟨v, hv⟩ := heo
      exact ⟨v, by rw [hbe]; exact hv⟩
    · refine (ok b u q).stay (fun c v hc r => k c v ?_ r) (fun c r => by rw [upd_ne (nown c b r)]; exact r) fun c xs r => by rw [upd_ne (ntup c xs r)]; exact r
      rcases hc with rfl | hc
      · exact hbe
      · rintro rfl
        rcases he with z | z
        · exact nown c b hc z
        · rw [hc] at z; cases z; exact hb rfl
end

/-! ### kept unless tracked; of the frames at fs (the callers') the slots may change (an exception that passes writes there); of the records at ex (iterators) nothing is said -/
structure Un (fs ex : List Addr) (H H' : Hp) (h h' : Heap) : Prop where
  keep : ∀ b o, h.get? b = some o → H b = none → b ∉ fs → b ∉ ex → h'.get? b = some o
  slot : ∀ b o, h.get? b = some o → H b = none → b ∈ fs → b ∉ ex → ∃ sl, h'.get? b = some { o with slots := sl }
  free : ∀ b o, h.get? b = some o → H b = none → b ∉ ex → H' b = none
  there : ∀ b o, h.get? b = some o → b ∉ ex → ∃ o', h'.get? b = some o'
  tups : ∀ b xs, H b = some (.tup xs) → H' b = some (.tup xs)
  frzs : ∀ b o u, H b = some (.frz o u) → H' b = some (.frz o u)
  tbls : ∀ b ps, H b = some (.tbl ps) → ∃ more, H' b = some (.tbl (ps ++ more))
section
variable {fs fs' ex ex' : List Addr} {H H1 H2 : Hp} {h h1 h2 h' : Heap} {a x e : Addr} {o : HO}
theorem Un.any (u : Un fs ex H H1 h h1) {b : Addr} {ob : Obj} (q : h.get? b = some ob) (n : H b = none) (hx : b ∉ ex) : ∃ sl, h1.get? b = some { ob with slots := sl } := by
  by_cases hb : b ∈ fs
  · exact u.slot b ob q n hb hx
  · exact ⟨ob.slots, u.keep b ob q n hb hx⟩
theorem Un.trans (a : Un fs ex H H1 h h1) (b : Un fs ex H1 H2 h1 h2) : Un fs ex H H2 h h2 where
  keep := fun c ob q n hc hx => b.keep c ob (a.keep c ob q n hc hx) (a.free c ob q n hx) hc hx
  slot := fun c ob q n hc hx => by
    obtain ⟨sl, e1⟩ := a.slot c ob q n hc hx
    obtain ⟨sl', e2⟩ := b.slot c _ e1 (a.free c ob q n hx) hc hx
    exact ⟨sl', e2⟩
  free := fun c ob q n hx => by
    obtain ⟨o', e1⟩ := a.there c ob q hx
    exact b.free c o' e1 (a.free c ob q n hx) hx
  there := fun c ob q hx => by
    obtain ⟨o', e1⟩ := a.there c ob q hx
    exact b.there c o' e1 hx
  tups := fun c xs q => b.tups c xs (a.tups c xs q)
  frzs := fun c ob xs q => b.frzs c ob xs (a.frzs c ob xs q)
  tbls := fun c ps q => by
    obtain ⟨m1, e1⟩ := a.tbls c ps q
    obtain ⟨m2, e2⟩ := b.tbls c _ e1
    exact ⟨m1 ++ m2, by rw [e2, Array.append_assoc]⟩
theorem Un.kept (k : ∀ b u, h.get? b = some u → h'.get? b = some u) : Un fs ex H H h h' :=
  ⟨fun b ob q _ _ _ => k b ob q, fun b ob q _ _ _ => ⟨ob.slots, k b ob q⟩, fun _ _ _ n _ => n, fun b ob q _ => ⟨ob, k b ob q⟩, fun _ _ q => q, fun _ _ _ q => q, fun _ ps q => ⟨#[], by rw [q]; simp⟩⟩
theorem Un.refl : Un fs ex H H h h := Un.kept fun _ _ q => q
theorem Un.laid (k : ∀ b u, h.get? b = some u → h'.get? b = some u) (hp : h.objs.size ≤ a) (hn : H a = none) : Un fs ex H (upd H a o) h h' where
  keep := fun b u q _ _ _ => k b u q
  slot := fun b u q _ _ _ => ⟨u.slots, k b u q⟩
  free := fun b u q n _ => by rw [upd_ne (Nat.ne_of_lt (Nat.lt_of_lt_of_le (Heap.lt_size q) hp))]; exact n
  there := fun b u q _ => ⟨u, k b u q⟩
  tups := fun b xs q => by rw [upd_ne (ne_of_none q hn)]; exact q
  frzs := fun b u xs q => by rw [upd_ne (ne_of_none q hn)]; exact q
  tbls := fun b ps q => ⟨#[], by rw [upd_ne (ne_of_none q hn), q]; simp⟩
theorem Un.write (mu : Mut (H x)) (he : e = x ∨ H e = some (.own x)) (k : ∀ b u, b ≠ e → h.get? b = some u → h'.get? b = some u) (heo : ∃ u, h'.get? e = some u) : Un fs ex H (upd H x o) h h' := by
  have hx : ∀ b, H b = none → b ≠ x := fun b n z => by subst z; rw [n] at mu; exact mu
  have hb : ∀ b, H b = none → b ≠ e := fun b n z => by
    subst z
    rcases he with r | r
    · exact hx b n r
    · rw [n] at r; cases r
  have hm : ∀ b u, H b = some u → ¬ Mut (some u) → b ≠ x := fun b u q nm z => by subst z; rw [q] at mu; exact nm mu
  refine ⟨fun b u q n _ _ => k b u (hb b n) q, fun b u q n _ _ => ⟨u.slots, k b u (hb b n) q⟩, fun b u q n _ => by rw [upd_ne (hx b n)]; exact n, fun b u q _ => ?_,
    fun b xs q => by rw [upd_ne (hm b _ q fun z => z)]; exact q, fun b u xs q => by rw [upd_ne (hm b _ q fun z => z)]; exact q, fun b ps q => ⟨#[], by rw [upd_ne (hm b _ q fun z => z), q]; simp⟩⟩
  by_cases hbe : b = e
  · subst hbe; exact heo
  · exact ⟨u, k b u hbe q⟩
theorem Un.mono (u : Un fs ex H H1 h h1) (hs : ∀ b ∈ fs, b ∈ fs') (hx : ∀ b ∈ ex, b ∈ ex') : Un fs' ex' H H1 h h1 :=
  ⟨fun b ob q n hb he => u.keep b ob q n (fun z => hb (hs b z)) fun z => he (hx b z), fun _ _ q n _ he => u.any q n fun z => he (hx _ z), fun b ob q n he => u.free b ob q n fun z => he (hx b z), fun b ob q he => u.there b ob q fun z => he (hx b z), u.tups, u.frzs, u.tbls⟩
end

/-! ### the heap without what is tracked -/
def trk (h : Heap) (H : Hp) : List Addr := (List.range h.objs.size).filter fun a => (H a).isSome
def hidT (h : Heap) (H : Hp) : Heap := PySem.W.hideAll h (trk h H)
theorem hidT_size (h : Heap) (H : Hp) : (hidT h H).objs.size = h.objs.size := PySem.W.hideAll_size _ _
theorem hidT_get {h : Heap} {H : Hp} {b : Addr} {o : Obj} (e : h.get? b = some o) (n : H b = none) : (hidT h H).get? b = some o :=
  PySem.W.hideAll_get _ e fun hm => by
    have q : (H b).isSome = true := (List.mem_filter.mp hm).2
    rw [n] at q; simp at q
theorem of_hidT {h : Heap} {H : Hp} {b : Addr} {o : Obj} (e : (hidT h H).get? b = some o) : h.get? b = some o ∧ H b = none := by
  have e' : h.get? b = some o := PySem.W.of_hideAll (trk h H) e
  refine ⟨e', ?_⟩
  cases q : H b with
  | none => rfl
  | some x =>
    have hm : b ∈ trk h H := List.mem_filter.mpr ⟨List.mem_range.mpr (Heap.lt_size e'), by simp [q]⟩
    have z : (hidT h H).get? b = none := PySem.W.hideAll_none (trk h H) hm
    rw [z] at e; cases e

/-! ### OpenK's ledger, filled with every new object but one -/
def allNews (g h : Heap) (L : Addr) : List (Addr × Obj) := (List.range h.objs.size).filterMap fun a => if a = L ∨ (g.get? a).isSome = true then none else (h.get? a).map fun o => (a, o)
theorem mem_allNews {g h : Heap} {L a : Addr} {o : Obj} (h1 : a ≠ L) (h2 : g.get? a = none) (h3 : h.get? a = some o) : (a, o) ∈ allNews g h L :=
  List.mem_filterMap.mpr ⟨a, List.mem_range.mpr (Heap.lt_size h3), by simp [h1, h2, h3]⟩
theorem of_mem_allNews {g h : Heap} {L : Addr} {p : Addr × Obj} (hp : p ∈ allNews g h L) : p.1 ≠ L ∧ g.get? p.1 = none ∧ h.get? p.1 = some p.2 := by
  obtain ⟨b, _, e⟩ := List.mem_filterMap.mp hp
  split at e
  · cases e
  · rename_i hn
    cases q : h.get? b with
    | none => rw [q] at e; simp at e
    | some u =>
      rw [q] at e
      simp only [Option.map_some, Option.some.injEq] at e
      subst e
      refine ⟨fun z => hn (.inl z), ?_, q⟩
      show g.get? b = none
      cases r : g.get? b with
      | none => rfl
      | some v => exact (hn (.inr (by simp [r]))).elim
def rest (g h : Heap) (L d : Addr) : List (Addr × Obj) := (allNews g h L).filter fun p => decide (p.1 ≠ d)
theorem rest_ne {g h : Heap} {L d : Addr} : ∀ p ∈ rest g h L d, p.1 ≠ d := fun p hp => of_decide_eq_true (List.mem_filter.mp hp).2
theorem mem_rest {g h : Heap} {L d a : Addr} {o : Obj} (h1 : a ≠ L) (h2 : g.get? a = none) (h3 : h.get? a = some o) (h4 : a ≠ d) : (a, o) ∈ rest g h L d :=
  List.mem_filter.mpr ⟨mem_allNews h1 h2 h3, decide_eq_true h4⟩
theorem news_all {g h : Heap} {L : Addr} : News g L h (allNews g h L) := fun p hp => let ⟨a, b, c⟩ := of_mem_allNews hp; ⟨c, a, b⟩
theorem news_at {g h : Heap} {L d : Addr} {o : Obj} (h1 : d ≠ L) (h2 : g.get? d = none) (h3 : h.get? d = some o) : News g L h ((d, o) :: rest g h L d) := fun p hp => by
  rcases List.mem_cons.mp hp with rfl | hp
  · exact ⟨h3, h1, h2⟩
  · exact news_all p (List.mem_filter.mp hp).1
/-- behind a rule that changed d alone: all else but the frame is kept -/
theorem kept_of_news {g h h' : Heap} {L d : Addr} {m : Str → Option Value} (k : ∀ b o, g.get? b = some o → h.get? b = some o) (F : Fr g L h' m) (N : News g L h' (rest g h L d)) :
    ∀ b o, b ≠ L → b ≠ d → h.get? b = some o → h'.get? b = some o := fun b o h1 h2 e => by
  cases q : g.get? b with
  | some u =>
    have := k b u q
    rw [e] at this; cases this
    exact F.keep b _ q
  | none => exact (N (b, o) (mem_rest h1 q e h2)).1
end L2

namespace L2
open PySem PySem.Spec PyProof.Rows

/-- the module's facts, over the base: the heap at the law's entry without what is tracked there -/
structure Mod (K : PySem.W.Frag) (mg : Str → Option Value) (base : Heap) : Prop where
  kin : K.In base
  glob : base.Ns mainGlobals mg
  blt : ∃ mb, base.Ns builtinsNs mb ∧ ∀ x : Str, x ≠ "__name__" → mb x = bootBuiltins x
  nolimit : base.NoLimit

/-- the context: a def's body (or a comprehension's block) running. base: fixed through the whole law; s₀, H₀: the entry; outer: the frames whose slots others may change (a def's callers); stack: all frames that run;
   ex: iterators that were made ahead of the entry and are walked here (a comprehension's); fn: the names whose cells were made at the entry (a def: all; a comprehension's block: its own); calm: not within an except suite; pn: pins that every state bears; xe: what is wanted of an exception that leaves the code -/
structure Cx where
  prog : Program
  w : World
  K : PySem.W.Frag
  mg : Str → Option Value
  base : Heap
  A : Around
  N : List Str
  s₀ : Shared
  H₀ : Hp
  env : Env
  outer : List Env
  stack : List Env
  ex : List Addr
  fn : Str → Bool
  calm : Bool
  pn : List (Addr × Obj)
  xe : Value → Shared → Prop
/-- the callers' frames -/
def frs (l : List Env) : List Addr := l.filterMap (·.frame)
abbrev Cx.fs (X : Cx) : List Addr := frs X.outer

def Vis (sc : Scope) (x : Str) : Prop := sc.names.lookup x = some .local ∨ sc.names.lookup x = some .cell ∨ sc.names.lookup x = some .free
def Loc (sc : Scope) (x : Str) : Prop := sc.names.lookup x = some .local ∨ sc.names.lookup x = some .cell
def Look (env : Env) (h : Heap) (m : Str → Option Value) (x : Str) (u : Value) : Prop :=
  (env.kindOf x = some .local ∧ m x = some u) ∨ ((env.kindOf x = some .cell ∨ env.kindOf x = some .free) ∧ ∃ c, env.cells.lookup x = some c ∧ h.IsCell c (some u))

structure Cx.Ok (X : Cx) : Prop where
  mod : Mod X.K X.mg X.base
  kind : X.env.scope.kind = .function
  glob : X.env.globals = mainGlobals
  blt : X.env.builtins = builtinsNs
  above : X.s₀.heap.objs.size ≤ X.env.locals
  inj : ∀ x y c, X.env.cells.lookup x = some c → X.env.cells.lookup y = some c → x = y
  has : ∀ x, (X.env.kindOf x = some .cell ∨ X.env.kindOf x = some .free) → ∃ c, X.env.cells.lookup x = some c
  cab : ∀ x c, X.fn x = true → X.env.cells.lookup x = some c → X.s₀.heap.objs.size ≤ c
  hd : X.calm = true → X.A.handled = none
  frames : X.A.frames = some X.stack
  stk : X.stack = X.outer ∨ (X.stack = X.env :: X.outer ∧ X.env.frame = some X.env.locals)
  exf : ∀ b ∈ X.ex, b ≠ X.env.locals ∧ ∀ x c, X.env.cells.lookup x = some c → c ≠ b
  bs : ∀ b o, X.base.get? b = some o → X.s₀.heap.get? b = some o ∧ X.H₀ b = none
  bsz : X.base.objs.size ≤ X.s₀.heap.objs.size
  noex : ∀ b o, X.base.get? b = some o → b ∉ X.ex
  exfs : ∀ b ∈ X.ex, b ∉ X.fs
  funs : X.s₀.heap.FunFrames X.base X.outer
  frf : ∀ b ∈ X.fs, X.H₀ b = none

structure Inv (X : Cx) (pins : List (Addr × Obj)) (σ : List (Option V)) (H : Hp) (s : Shared) : Prop where
  ok : X.Ok
  os : s.os = X.s₀.os
  bare : AllBare s.gens
  base : Un X.fs X.ex X.H₀ H X.s₀.heap s.heap
  loc : ∃ m, s.heap.Ns X.env.locals m ∧ ∀ (i : Nat) (x : Str) (v : V), X.N[i]? = some x → σ[i]? = some (some v) → Vis X.env.scope x → ∃ u, RelV v u ∧ Look X.env s.heap m x u
  cell : ∀ x c, X.env.cells.lookup x = some c → ∃ v, s.heap.IsCell c v
  free : H X.env.locals = none
  freeC : ∀ x c, X.env.cells.lookup x = some c → H c = none
  pin : ∀ p ∈ X.pn ++ pins, s.heap.get? p.1 = some p.2 ∧ H p.1 = none ∧ p.1 ≠ X.env.locals ∧ p.1 ∉ X.fs ∧ ∀ v, p.2.data ≠ .cell v
  hok : HOk X.prog X.w H s.heap
  len : σ.length = X.N.length

section
variable {X : Cx} {pins : List (Addr × Obj)} {σ : List (Option V)} {H H' : Hp} {s : Shared} {h' : Heap}

theorem Cx.Ok.nofr (ok : X.Ok) {b : Addr} {o : Obj} (e : X.base.get? b = some o) : b ∉ X.fs := fun hb => by
  have := (ok.funs.mem hb).1
  rw [e] at this; cases this
theorem Inv.bs (I : Inv X pins σ H s) : ∀ b o, X.base.get? b = some o → s.heap.get? b = some o ∧ H b = none := fun b o e =>
  ⟨I.base.keep b o (I.ok.bs b o e).1 (I.ok.bs b o e).2 (I.ok.nofr e) (I.ok.noex b o e), I.base.free b o (I.ok.bs b o e).1 (I.ok.bs b o e).2 (I.ok.noex b o e)⟩
theorem Inv.bk (I : Inv X pins σ H s) : ∀ b o, X.base.get? b = some o → s.heap.get? b = some o := fun b o e => (I.bs b o e).1
theorem Inv.mod (I : Inv X pins σ H s) : Mod X.K X.mg X.base := I.ok.mod
theorem Inv.kIn (I : Inv X pins σ H s) : X.K.In s.heap := I.ok.mod.kin.keeps I.bk
theorem Inv.nolimit (I : Inv X pins σ H s) : s.heap.NoLimit := I.ok.mod.nolimit.keeps I.bk
/-- the frame over the base: for OpenK's rules (K.In X.base is I.mod.kin) -/
theorem Inv.fr (I : Inv X pins σ H s) : ∃ m, Fr X.base X.env.locals s.heap m :=
  let ⟨m, hn, _⟩ := I.loc
  ⟨m, hn, I.bk, Nat.le_trans I.ok.bsz I.ok.above⟩
theorem Inv.lt (I : Inv X pins σ H s) : X.env.locals < s.heap.objs.size := let ⟨_, hn, _⟩ := I.loc; hn.lt
theorem Inv.sz (I : Inv X pins σ H s) : X.s₀.heap.objs.size ≤ s.heap.objs.size := Nat.le_trans I.ok.above (Nat.le_of_lt I.lt)
theorem Inv.nofs (I : Inv X pins σ H s) {a : Addr} (h : s.heap.objs.size ≤ a) : a ∉ X.fs := fun hb => by
  obtain ⟨_, o, ho, _⟩ := I.ok.funs.mem hb
  exact absurd (Nat.lt_of_lt_of_le (Heap.lt_size ho) (Nat.le_trans I.sz h)) (Nat.lt_irrefl _)
theorem Inv.cne (I : Inv X pins σ H s) : ∀ x c, X.env.cells.lookup x = some c → c ≠ X.env.locals := fun x c e z => by
  obtain ⟨v, o, ho, hd⟩ := I.cell x c e
  obtain ⟨m, ⟨o', es, ep, ho', hd', _⟩, _⟩ := I.loc
  rw [z, ho'] at ho; cases ho; rw [hd'] at hd; cases hd
theorem Inv.funs (I : Inv X pins σ H s) : s.heap.FunFrames X.base X.outer := by
  have all : ∀ (l : List Env), (∀ b ∈ frs l, b ∈ X.fs) → X.s₀.heap.FunFrames X.base l → s.heap.FunFrames X.base l := by
    intro l
    induction l with
    | nil => intro _ _; trivial
    | cons env r ih =>
      intro hs hl
      obtain ⟨hk, ⟨L, o, hf, hn, ho, hd⟩, hr⟩ := hl
      have hL : L ∈ X.fs := hs L (by unfold frs; rw [List.filterMap_cons, hf]; exact List.mem_cons_self)
      obtain ⟨sl, e⟩ := I.base.slot L o ho (I.ok.frf L hL) hL fun z => I.ok.exfs L z hL
      exact ⟨hk, ⟨L, _, hf, hn, e, hd⟩, ih (fun b hb => hs b (by unfold frs; rw [List.filterMap_cons, hf]; exact List.mem_cons_of_mem _ hb)) hr⟩
  exact all X.outer (fun _ hb => hb) I.ok.funs

/-- the frames that run, for a call -/
theorem Inv.stack (I : Inv X pins σ H s) : s.heap.FunFrames X.base X.stack := by
  rcases I.ok.stk with e | ⟨e, hf⟩
  · rw [e]; exact I.funs
  · rw [e]
    obtain ⟨m, hn, _⟩ := I.loc
    refine .cons (by rw [I.ok.kind]; decide) hf hn ?_ I.funs
    exact Heap.get?_none_of_le (Nat.le_trans I.ok.bsz I.ok.above)
theorem Inv.stkSub (I : Inv X pins σ H s) : ∀ b ∈ frs X.stack, b ∈ X.env.locals :: X.fs := fun b hb => by
  rcases I.ok.stk with e | ⟨e, hf⟩
  · rw [e] at hb; exact List.mem_cons_of_mem _ hb
  · rw [e] at hb
    unfold frs at hb
    rw [List.filterMap_cons, hf] at hb
    exact hb
theorem Inv.stkFree (I : Inv X pins σ H s) : ∀ b ∈ frs X.stack, H b = none := fun b hb => by
  rcases List.mem_cons.mp (I.stkSub b hb) with e | hb
  · rw [e]; exact I.free
  · obtain ⟨_, o, ho, _⟩ := I.ok.funs.mem hb
    exact I.base.free b o ho (I.ok.frf b hb) fun z => I.ok.exfs b z hb

/-- THE STEP: the untracked objects but the frame and the records at ch are kept (the callers' frames up to slots), the frame's map is kept, the new abstract heap is held -/
theorem Inv.step {g' : Array GenState} {t' : Nat} {d' : Drawn} {ch : List Addr} (I : Inv X pins σ H s)
    (hch : ∀ b ∈ ch, (b ∈ X.ex ∨ X.s₀.heap.objs.size ≤ b) ∧ b ≠ X.env.locals ∧ (∀ x c, X.env.cells.lookup x = some c → c ≠ b) ∧ ∀ p ∈ X.pn ++ pins, p.1 ≠ b)
    (keep : ∀ b o, b ≠ X.env.locals → b ∉ X.fs → b ∉ ch → s.heap.get? b = some o → H b = none → h'.get? b = some o)
    (slot : ∀ b o, b ≠ X.env.locals → b ∈ X.fs → b ∉ ch → s.heap.get? b = some o → H b = none → ∃ sl, h'.get? b = some { o with slots := sl }) (free : ∀ b o, b ∉ ch → s.heap.get? b = some o → H b = none → H' b = none)
    (there : ∀ b o, b ∉ ch → s.heap.get? b = some o → ∃ o', h'.get? b = some o')
    (tups : ∀ b xs, H b = some (.tup xs) → H' b = some (.tup xs)) (frzs : ∀ b o u, H b = some (.frz o u) → H' b = some (.frz o u)) (tbls : ∀ b ps, H b = some (.tbl ps) → ∃ more, H' b = some (.tbl (ps ++ more)))
    (ns : ∀ m, s.heap.Ns X.env.locals m → h'.Ns X.env.locals m) (hok : HOk X.prog X.w H' h') (hg : AllBare g') :
    Inv X pins σ H' { s with heap := h', gens := g', drawn := d', toks := t' } := by
  have neL : ∀ b o, X.s₀.heap.get? b = some o → b ≠ X.env.locals := fun b o e => Nat.ne_of_lt (Nat.lt_of_lt_of_le (Heap.lt_size e) I.ok.above)
  have neC : ∀ b o, X.s₀.heap.get? b = some o → b ∉ X.ex → b ∉ ch := fun b o e hx hb => by
    rcases (hch b hb).1 with z | z
    · exact hx z
    · exact absurd (Nat.lt_of_lt_of_le (Heap.lt_size e) z) (Nat.lt_irrefl _)
  have cellK : ∀ x c, X.env.cells.lookup x = some c → ∀ v, s.heap.IsCell c v → h'.IsCell c v := fun x c e v ⟨o, ho, hd⟩ => by
    have nch : c ∉ ch := fun z => (hch c z).2.2.1 x c e rfl
    by_cases hc : c ∈ X.fs
    · obtain ⟨sl, q⟩ := slot c o (I.cne x c e) hc nch ho (I.freeC x c e)
      exact ⟨_, q, hd⟩
    · exact ⟨o, keep c o (I.cne x c e) hc nch ho (I.freeC x c e), hd⟩
  refine ⟨I.ok, I.os, hg, ⟨fun b o e n hb hx => ?_, fun b o e n hb hx => ?_, fun b o e n hx => ?_, fun b o e hx => ?_, fun b xs e => tups b xs (I.base.tups b xs e), fun b o xs e => frzs b o xs (I.base.frzs b o xs e), fun b ps e => ?_⟩, ?_, fun x c e => ?_, ?_, fun x c e => ?_, fun p hp => ?_, hok, I.len⟩
  · exact keep b o (neL b o e) hb (neC b o e hx) (I.base.keep b o e n hb hx) (I.base.free b o e n hx)
  · obtain ⟨sl, e1⟩ := I.base.slot b o e n hb hx
    obtain ⟨sl', e2⟩ := slot b _ (neL b o e) hb (neC b o e hx) e1 (I.base.free b o e n hx)
    exact ⟨sl', e2⟩
  · obtain ⟨o', e1⟩ := I.base.there b o e hx
    exact free b o' (neC b o e hx) e1 (I.base.free b o e n hx)
  · obtain ⟨o', e1⟩ := I.base.there b o e hx
    exact there b o' (neC b o e hx) e1
  · obtain ⟨m1, e1⟩ := I.base.tbls b ps e
    obtain ⟨m2, e2⟩ := tbls b _ e1
    exact ⟨m1 ++ m2, by rw [e2, Array.append_assoc]⟩
  · obtain ⟨m, hn, hl⟩ := I.loc
    refine ⟨m, ns m hn, fun i x v e1 e2 e3 => ?_⟩
    obtain ⟨u, r, l⟩ := hl i x v e1 e2 e3
    refine ⟨u, r, ?_⟩
    rcases l with l | ⟨k, c, e, z⟩
    · exact .inl l
    · exact .inr ⟨k, c, e, cellK x c e _ z⟩
  · obtain ⟨v, z⟩ := I.cell x c e
    exact ⟨v, cellK x c e v z⟩
  · obtain ⟨m, ⟨o, _, _, ho, _⟩, _⟩ := I.loc
    exact free _ o (fun z => (hch _ z).2.1 rfl) ho I.free
  · obtain ⟨v, o, ho, hd⟩ := I.cell x c e
    exact free c o (fun z => (hch c z).2.2.1 x c e rfl) ho (I.freeC x c e)
  · obtain ⟨e, n, ne, nf, d⟩ := I.pin p hp
    have nch : p.1 ∉ ch := fun z => (hch p.1 z).2.2.2 p hp rfl
    exact ⟨keep p.1 p.2 ne nf nch e n, free p.1 p.2 nch e n, ne, nf, d⟩
/-- .. where the frame's own object is kept too -/
theorem Inv.un {t' : Nat} (I : Inv X pins σ H s) (u : Un X.fs [] H H' s.heap h') (hok : HOk X.prog X.w H' h') : Inv X pins σ H' { s with heap := h', toks := t' } := by
  obtain ⟨m, ⟨o, es, ep, ho, r⟩, _⟩ := id I.loc
  obtain ⟨sl, hL⟩ := u.any ho I.free (by simp)
  exact I.step (g' := s.gens) (d' := s.drawn) (ch := []) (fun _ z => nomatch z) (fun b o _ hb _ e n => u.keep b o e n hb (by simp)) (fun b o _ hb _ e n => u.slot b o e n hb (by simp)) (fun b o _ e n => u.free b o e n (by simp)) (fun b o _ e => u.there b o e (by simp)) u.tups u.frzs u.tbls (fun m' hm => by
    obtain ⟨o', es', ep', ho', r'⟩ := hm
    rw [ho] at ho'; cases ho'
    exact ⟨_, es', ep', hL, r'⟩) hok I.bare
/-- behind a call (or a comprehension's block): the slots of this frame may have changed too, the records at ch may have turned -/
theorem Inv.call {g' : Array GenState} {t' : Nat} {d' : Drawn} {ch : List Addr} (I : Inv X pins σ H s) (u : Un (frs X.stack) ch H H' s.heap h') (hok : HOk X.prog X.w H' h') (hg : AllBare g')
    (hch : ∀ b ∈ ch, (b ∈ X.ex ∨ X.s₀.heap.objs.size ≤ b) ∧ b ≠ X.env.locals ∧ (∀ x c, X.env.cells.lookup x = some c → c ≠ b) ∧ ∀ p ∈ X.pn ++ pins, p.1 ≠ b) :
    Inv X pins σ H' { s with heap := h', gens := g', drawn := d', toks := t' } := by
  obtain ⟨m, ⟨o, es, ep, ho, r⟩, _⟩ := id I.loc
  obtain ⟨sl, hL⟩ := u.any ho I.free fun z => (hch _ z).2.1 rfl
  exact I.step (ch := ch) hch (fun b o hL hb hc e n => u.keep b o e n (fun z => (List.mem_cons.mp (I.stkSub b z)).elim hL hb) hc) (fun b o _ _ hc e n => u.any e n hc) (fun b o hc e n => u.free b o e n hc) (fun b o hc e => u.there b o e hc) u.tups u.frzs u.tbls (fun m' hm => by
    obtain ⟨o', es', ep', ho', r'⟩ := hm
    rw [ho] at ho'; cases ho'
    exact ⟨_, es', ep', hL, r'⟩) hok hg
/-- an untracked record of ours (an iterator) has turned -/
theorem Inv.turned {t' : Nat} {it : Addr} (I : Inv X pins σ H s) (k : ∀ b o, b ≠ it → s.heap.get? b = some o → h'.get? b = some o) (hn : H it = none) (hL : it ≠ X.env.locals)
    (h1 : it ∈ X.ex ∨ X.s₀.heap.objs.size ≤ it) (h2 : ∀ x c, X.env.cells.lookup x = some c → c ≠ it) (h3 : ∀ p ∈ X.pn ++ pins, p.1 ≠ it) : Inv X pins σ H { s with heap := h', toks := t' } := by
  have nit : ∀ b u, H b = some u → b ≠ it := fun b u e z => by rw [z, hn] at e; cases e
  refine I.step (g' := s.gens) (d' := s.drawn) (ch := [it]) (fun b hb => ?_) (fun b o _ _ hc e _ => k b o (fun z => hc (by simp [z])) e) (fun b o _ _ hc e _ => ⟨o.slots, k b o (fun z => hc (by simp [z])) e⟩) (fun _ _ _ _ n => n)
    (fun b o hc e => ⟨o, k b o (fun z => hc (by simp [z])) e⟩) (fun _ _ e => e) (fun _ _ _ e => e) (fun b ps e => ⟨#[], by rw [e]; simp⟩) (fun m hm => ?_) (fun b u e => ?_) I.bare
  · have e : b = it := by simpa using hb
    subst e
    exact ⟨h1, hL, h2, h3⟩
  · obtain ⟨o, es, ep, ho, r⟩ := hm
    exact ⟨o, es, ep, k _ o (Ne.symm hL) ho, r⟩
  · refine (I.hok b u e).stay (fun c v hc q => k c v ?_ q) (fun _ q => q) fun _ _ q => q
    rcases hc with z | z
    · rw [z]; exact nit b u e
    · exact nit c _ z
theorem Inv.tok (I : Inv X pins σ H s) (t : Nat) : Inv X pins σ H { s with toks := t } := I.un (h' := s.heap) (t' := t) Un.refl I.hok
/-- all objects kept -/
theorem Inv.kept {t' : Nat} (I : Inv X pins σ H s) (k : ∀ b u, s.heap.get? b = some u → h'.get? b = some u) : Inv X pins σ H { s with heap := h', toks := t' } := I.un (Un.kept k) (I.hok.kept k)
/-- a new object laid and tracked -/
theorem Inv.laid {a : Addr} {o : HO} {t' : Nat} (I : Inv X pins σ H s) (k : ∀ b u, s.heap.get? b = some u → h'.get? b = some u) (hp : s.heap.objs.size ≤ a) (new : ObjOk X.prog X.w (upd H a o) h' a o) :
    Inv X pins σ (upd H a o) { s with heap := h', toks := t' } := I.un (Un.laid k hp (I.hok.fresh hp)) (I.hok.laid k hp new)
/-- an object written -/
theorem Inv.write {x e : Addr} {o : HO} {t' : Nat} (I : Inv X pins σ H s) (mu : Mut (H x)) (he : e = x ∨ H e = some (.own x)) (k : ∀ b u, b ≠ e → s.heap.get? b = some u → h'.get? b = some u) (heo : ∃ u, h'.get? e = some u)
    (new : ObjOk X.prog X.w (upd H x o) h' x o) : Inv X pins σ (upd H x o) { s with heap := h', toks := t' } := I.un (Un.write mu he k heo) (I.hok.write mu he k heo new)
/-- forgetting slots, pins -/
theorem Inv.weak {σ' : List (Option V)} (I : Inv X pins σ H s) (hl : σ'.length = σ.length) (w : ∀ (i : Nat) v, σ'[i]? = some (some v) → σ[i]? = some (some v)) : Inv X pins σ' H s :=
  ⟨I.ok, I.os, I.bare, I.base, let ⟨m, hn, hl'⟩ := I.loc; ⟨m, hn, fun i x v e1 e2 e3 => hl' i x v e1 (w i v e2) e3⟩, I.cell, I.free, I.freeC, I.pin, I.hok, hl.trans I.len⟩
theorem Inv.pins_of {pins' : List (Addr × Obj)} (I : Inv X pins σ H s) (h : ∀ p ∈ pins', s.heap.get? p.1 = some p.2 ∧ H p.1 = none ∧ p.1 ≠ X.env.locals ∧ p.1 ∉ X.fs ∧ ∀ v, p.2.data ≠ .cell v) : Inv X pins' σ H s :=
  ⟨I.ok, I.os, I.bare, I.base, I.loc, I.cell, I.free, I.freeC, fun p hp => (List.mem_append.mp hp).elim (fun z => I.pin p (List.mem_append_left _ z)) (h p), I.hok, I.len⟩

theorem nodup_ix {N : List Str} (hN : N.Nodup) {i j : Nat} {x : Str} (a : N[i]? = some x) (b : N[j]? = some x) : i = j := by
  obtain ⟨h1, e1⟩ := List.getElem?_eq_some_iff.mp a
  obtain ⟨h2, e2⟩ := List.getElem?_eq_some_iff.mp b
  exact (List.getElem_inj hN).mp (e1.trans e2.symm)

/-- a name is stored; what changed -/
theorem store_ok2 {M : Model} {A : Around} {E : Value → Shared → Prop} {i : Nat} {x : Str} {v : V} {u : Value} {Q : Unit → Shared → Prop} (I : Inv X pins σ H s) (hN : X.N.Nodup) (hi : X.N[i]? = some x) (hx : Loc X.env.scope x) (r : RelV v u)
    (h : ∀ s', Inv X pins (σ.set i (some v)) H s' → (∃ a, Heap.SameBut a s.heap s'.heap ∧ (a = X.env.locals ∨ X.env.cells.lookup x = some a)) → Q () s') (hf : X.fn x = true ∨ X.env.scope.names.lookup x = some .local := by first | exact .inl rfl | exact .inr rfl | assumption) : wpAny M A (storeName X.env x u) Q E s := by
  obtain ⟨m, hn, hl⟩ := id I.loc
  have hcls : (X.env.scope.kind == .class || (X.env.scope.kind == .module && X.env.locals != X.env.globals)) = false := by rw [I.ok.kind]; rfl
  have hiσ : i < σ.length := by rw [I.len]; exact (List.getElem?_eq_some_iff.mp hi).1
  have cne := I.cne
  have tracked : ∀ {a : Addr} {h' : Heap}, (∃ o, s.heap.get? a = some o ∧ H a = none) → Heap.SameBut a s.heap h' → HOk X.prog X.w H h' := fun {a h'} ha hs b ob e => by
    obtain ⟨_, _, hfree⟩ := ha
    refine (I.hok b ob e).stay (fun c w' hc q => (hs.2 c ?_).trans q) (fun _ q => q) fun _ _ q => q
    rintro rfl
    rcases hc with rfl | hc
    · rw [hfree] at e; cases e
    · rw [hfree] at hc; cases hc
  rcases hx with hk | hk
  · refine wpAny_storeName_local hk hn (fun h' hn' hs => ?_) hcls
    obtain ⟨oL, _, _, hoL, _⟩ := id hn
    refine h _ ⟨I.ok, I.os, I.bare, ⟨fun b o e n hb hx => ?_, fun b o e n hb hx => ?_, I.base.free, fun b o e hx => ?_, I.base.tups, I.base.frzs, I.base.tbls⟩, ⟨_, hn', fun j y v' e1 e2 e3 => ?_⟩, fun y c e => ?_, I.free, I.freeC, fun p hp => ?_, tracked ⟨oL, hoL, I.free⟩ hs, by simpa using I.len⟩ ⟨_, hs, .inl rfl⟩
    · exact (hs.2 b (Nat.ne_of_lt (Nat.lt_of_lt_of_le (Heap.lt_size e) I.ok.above))).trans (I.base.keep b o e n hb hx)
    · obtain ⟨sl, e1⟩ := I.base.slot b o e n hb hx
      exact ⟨sl, (hs.2 b (Nat.ne_of_lt (Nat.lt_of_lt_of_le (Heap.lt_size e) I.ok.above))).trans e1⟩
    · obtain ⟨o', e1⟩ := I.base.there b o e hx
      exact ⟨o', (hs.2 b (Nat.ne_of_lt (Nat.lt_of_lt_of_le (Heap.lt_size e) I.ok.above))).trans e1⟩
    · by_cases hj : j = i
      · subst hj
        rw [hi] at e1; cases e1
        rw [List.getElem?_set_self hiσ] at e2
        cases e2
        exact ⟨u, r, .inl ⟨hk, by simp⟩⟩
      · rw [List.getElem?_set_ne (Ne.symm hj)] at e2
        obtain ⟨u', r', q⟩ := hl j y v' e1 e2 e3
        refine ⟨u', r', ?_⟩
        rcases q with ⟨k, e⟩ | ⟨k, c, e, z⟩
        · refine .inl ⟨k, ?_⟩
          have : y ≠ x := fun e => hj (nodup_ix hN e1 (e ▸ hi))
          simp [this, e]
        · exact .inr ⟨k, c, e, z.sameBut hs (cne y c e)⟩
    · obtain ⟨w', z⟩ := I.cell y c e
      exact ⟨w', z.sameBut hs (cne y c e)⟩
    · obtain ⟨e, n, ne, nf, d⟩ := I.pin p hp
      exact ⟨(hs.2 p.1 ne).trans e, n, ne, nf, d⟩
  · have hfn : X.fn x = true := by
      rcases hf with z | z
      · exact z
      · rw [z] at hk; cases hk
    obtain ⟨c, hc⟩ := I.ok.has x (.inl hk)
    obtain ⟨w', z⟩ := I.cell x c hc
    refine wpAny_storeName_cell I.ok.kind hk hc z (fun h' hc' hs => ?_)
    obtain ⟨oc, hoc, hocd⟩ := id z
    refine h { s with heap := h' } ⟨I.ok, I.os, I.bare, ⟨fun b o e n hb hx => ?_, fun b o e n hb hx => ?_, I.base.free, fun b o e hx => ?_, I.base.tups, I.base.frzs, I.base.tbls⟩, ⟨m, hn.sameBut hs (Ne.symm (cne x c hc)), fun j y v' e1 e2 e3 => ?_⟩, fun y c' e => ?_, I.free, I.freeC, fun p hp => ?_, tracked ⟨oc, hoc, I.freeC x c hc⟩ hs, by simpa using I.len⟩ ⟨c, hs, .inr hc⟩
    · exact (hs.2 b (Nat.ne_of_lt (Nat.lt_of_lt_of_le (Heap.lt_size e) (I.ok.cab x c hfn hc)))).trans (I.base.keep b o e n hb hx)
    · obtain ⟨sl, e1⟩ := I.base.slot b o e n hb hx
      exact ⟨sl, (hs.2 b (Nat.ne_of_lt (Nat.lt_of_lt_of_le (Heap.lt_size e) (I.ok.cab x c hfn hc)))).trans e1⟩
    · obtain ⟨o', e1⟩ := I.base.there b o e hx
      exact ⟨o', (hs.2 b (Nat.ne_of_lt (Nat.lt_of_lt_of_le (Heap.lt_size e) (I.ok.cab x c hfn hc)))).trans e1⟩
    · by_cases hj : j = i
      · subst hj
        rw [hi] at e1; cases e1
        rw [List.getElem?_set_self hiσ] at e2
        cases e2
        exact ⟨u, r, .inr ⟨.inl hk, c, hc, hc'⟩⟩
      · rw [List.getElem?_set_ne (Ne.symm hj)] at e2
        obtain ⟨u', r', q⟩ := hl j y v' e1 e2 e3
        refine ⟨u', r', ?_⟩
        rcases q with q | ⟨k, c', e, z'⟩
        · exact .inl q
        · refine .inr ⟨k, c', e, z'.sameBut hs ?_⟩
          rintro rfl
          exact hj (nodup_ix hN e1 (I.ok.inj _ _ _ e hc ▸ hi))
    · by_cases hcc : c' = c
      · subst hcc; exact ⟨_, hc'⟩
      · obtain ⟨w2, z2⟩ := I.cell y c' e
        exact ⟨w2, z2.sameBut hs hcc⟩
    · obtain ⟨e, n, ne, nf, d⟩ := I.pin p hp
      refine ⟨(hs.2 p.1 ?_).trans e, n, ne, nf, d⟩
      intro q
      rw [q, hoc] at e
      have q' : oc = p.2 := Option.some.inj e
      exact d w' (by rw [← q']; exact hocd)
theorem store_ok {M : Model} {A : Around} {E : Value → Shared → Prop} {i : Nat} {x : Str} {v : V} {u : Value} {Q : Unit → Shared → Prop} (I : Inv X pins σ H s) (hN : X.N.Nodup) (hi : X.N[i]? = some x) (hx : Loc X.env.scope x) (r : RelV v u)
    (h : ∀ s', Inv X pins (σ.set i (some v)) H s' → Q () s') (hf : X.fn x = true ∨ X.env.scope.names.lookup x = some .local := by first | exact .inl rfl | exact .inr rfl | assumption) : wpAny M A (storeName X.env x u) Q E s :=
  store_ok2 I hN hi hx r (fun s' I' _ => h s' I') hf
/-- behind a call or a block, the state as it is -/
theorem Inv.call' {s' : Shared} {ch : List Addr} (I : Inv X pins σ H s) (ho : s'.os = s.os) (u : Un (frs X.stack) ch H H' s.heap s'.heap) (hok : HOk X.prog X.w H' s'.heap) (hg : AllBare s'.gens)
    (hch : ∀ b ∈ ch, (b ∈ X.ex ∨ X.s₀.heap.objs.size ≤ b) ∧ b ≠ X.env.locals ∧ (∀ x c, X.env.cells.lookup x = some c → c ≠ b) ∧ ∀ p ∈ X.pn ++ pins, p.1 ≠ b) : Inv X pins σ H' s' := by
  obtain ⟨h', g', d', t', o'⟩ := s'
  have e : o' = s.os := ho
  subst e
  exact I.call (g' := g') (t' := t') (d' := d') u hok hg hch
end

/-! ### the judgements -/
/-- an exception: its class, its own dict's address (where it has one), the abstract heap behind it -/
abbrev XK := Value → Option Addr → Hp → Prop
abbrev St := List (Option V)
abbrev VK := V → Hp → Prop
/-- an expression's reading; a test's; an argument list's -/
abbrev TE := St → Hp → VK → Prop
abbrev TT := St → Hp → (Bool → Hp → Prop) → Prop
abbrev TA := St → Hp → (List V → Hp → Prop) → Prop
/-- what is wanted behind a statement -/
structure Ends where
  nx : St → Hp → Prop
  rt : VK
  bk : St → Hp → Prop := fun _ _ => False
  ct : St → Hp → Prop := fun _ _ => False
abbrev TS := Ends → St → Hp → Prop

def EP (X : Cx) (pins : List (Addr × Obj)) (σ : St) (Q : VK) (u : Value) (s' : Shared) : Prop := ∃ v H', Inv X pins σ H' s' ∧ RelV v u ∧ Q v H'
def TP (X : Cx) (pins : List (Addr × Obj)) (σ : St) (Q : Bool → Hp → Prop) (b : Bool) (s' : Shared) : Prop := ∃ H', Inv X pins σ H' s' ∧ Q b H'
def AP (X : Cx) (pins : List (Addr × Obj)) (σ : St) (Q : List V → Hp → Prop) (us : List Value) (s' : Shared) : Prop := ∃ vs H', Inv X pins σ H' s' ∧ Vals vs us ∧ Q vs H'
def SP (X : Cx) (pins : List (Addr × Obj)) (D : Ends) (f : Flow) (s' : Shared) : Prop :=
  match f with
  | .next => ∃ σ' H', Inv X pins σ' H' s' ∧ D.nx σ' H'
  | .brk => ∃ σ' H', Inv X pins σ' H' s' ∧ D.bk σ' H'
  | .cont => ∃ σ' H', Inv X pins σ' H' s' ∧ D.ct σ' H'
  | .ret u => ∃ v σ' H', Inv X pins σ' H' s' ∧ RelV v u ∧ D.rt v H'

def PE (X : Cx) (e : Expr) (t : TE) : Prop :=
  ∀ (pins : List (Addr × Obj)) (s : Shared) (σ : St) (H : Hp) (Q : VK), Inv X pins σ H s → t σ H Q → wpAny (model X.prog X.w) X.A (eval e X.env) (EP X pins σ Q) X.xe s
def PT (X : Cx) (e : Expr) (t : TT) : Prop :=
  ∀ (pins : List (Addr × Obj)) (s : Shared) (σ : St) (H : Hp) (Q : Bool → Hp → Prop), Inv X pins σ H s → t σ H Q → wpAny (model X.prog X.w) X.A (isTrue e X.env (eval e X.env)) (TP X pins σ Q) X.xe s
/-- a test whatever its 'whole' is (and, or) -/
def PW (X : Cx) (e : Expr) (t : TT) : Prop :=
  ∀ (whole : Sem Value) (pins : List (Addr × Obj)) (s : Shared) (σ : St) (H : Hp) (Q : Bool → Hp → Prop), Inv X pins σ H s → t σ H Q → wpAny (model X.prog X.w) X.A (isTrue e X.env whole) (TP X pins σ Q) X.xe s
theorem PW.pt {X : Cx} {e : Expr} {t : TT} (h : PW X e t) : PT X e t := h _
/-- an argument list (no star), from the left -/
def PA (X : Cx) (es : List Expr) (t : TA) : Prop :=
  ∀ (pos : Pos) (pins : List (Addr × Obj)) (s : Shared) (σ : St) (H : Hp) (Q : List V → Hp → Prop), Inv X pins σ H s → t σ H Q → wpAny (model X.prog X.w) X.A (spliced (backTo pos (starEach es X.env))) (AP X pins σ Q) X.xe s
def PS (X : Cx) (st : Stmt) (t : TS) : Prop :=
  ∀ (pins : List (Addr × Obj)) (s : Shared) (σ : St) (H : Hp) (D : Ends), Inv X pins σ H s → t D σ H → wpAny (model X.prog X.w) X.A (exec st X.env) (SP X pins D) X.xe s
def PSs (X : Cx) (st : List Stmt) (t : TS) : Prop :=
  ∀ (pins : List (Addr × Obj)) (s : Shared) (σ : St) (H : Hp) (D : Ends), Inv X pins σ H s → t D σ H → wpAny (model X.prog X.w) X.A (execs st X.env) (SP X pins D) X.xe s
/-- weaken the end -/
theorem thn {α : Type} {t : Sem α} {Q Q' : α → Shared → Prop} {M : Model} {A : Around} {E : Value → Shared → Prop} {s : Shared} (h : wpAny M A t Q E s) (hQ : ∀ a s, Q a s → Q' a s) : wpAny M A t Q' E s := wpAny_mono h hQ fun _ _ x => x
end L2

namespace L2
open PySem PySem.Spec PyProof.Rows
section
variable {X : Cx}

/-- two expressions in a row -/
theorem bin {a b : Expr} {ta tb : TE} (ha : PE X a ta) (hb : PE X b tb) {pins : List (Addr × Obj)} {s : Shared} {σ : St} {H : Hp} {R : V → V → Hp → Prop} (I : Inv X pins σ H s) (h : ta σ H fun x H1 => tb σ H1 fun y H2 => R x y H2)
    {α : Type} {Q : α → Shared → Prop} {f : Value → Value → Sem α}
    (hf : ∀ v u s2 x y H2, Inv X pins σ H2 s2 → RelV x v → RelV y u → R x y H2 → wpAny (model X.prog X.w) X.A (f v u) Q X.xe s2) :
    wpAny (model X.prog X.w) X.A (eval a X.env) (fun v s₁ => wpAny (model X.prog X.w) X.A (eval b X.env) (fun u s₂ => wpAny (model X.prog X.w) X.A (f v u) Q X.xe s₂) X.xe s₁) X.xe s := by
  refine thn (ha pins s σ H _ I h) fun v s1 ⟨x, H1, I1, r1, q1⟩ => ?_
  refine thn (hb pins s1 σ H1 _ I1 q1) fun u s2 ⟨y, H2, I2, r2, q2⟩ => ?_
  exact hf v u s2 x y H2 I2 r1 r2 q2

/-! ### names and constants -/
def tVar (i : Nat) : TE := fun σ H Q => ∃ v, σ[i]? = some (some v) ∧ Q v H
def tC (v : V) : TE := fun _ H Q => Q v H
theorem pe_var {i : Nat} {x : Str} {pos : Pos} (hN : X.N[i]? = some x) (hv : Vis X.env.scope x) (hd : (x == ("__debug__" : Str)) = false := by decide) (hcd : (x == ("__classdict__" : Str)) = false := by decide) : PE X (.Name x pos) (tVar i) := by
  intro pins s σ H Q I h
  obtain ⟨v, e, h⟩ := h
  obtain ⟨m, hn, hl⟩ := I.loc
  obtain ⟨u, r, l⟩ := hl i x v hN e hv
  have fin : EP X pins σ Q u s := ⟨v, H, I, r, h⟩
  rcases l with ⟨hk, hm⟩ | ⟨hk, c, hc, hcell⟩
  · exact wpAny_Name (wpAny_loadName_local I.ok.kind hk hn hm fin) hd
  · rcases hk with hk | hk
    · exact wpAny_Name (wpAny_loadName_cell I.ok.kind hk hc hcell fin) hd
    · exact wpAny_Name (wpAny_loadName_free I.ok.kind hk hc hcell fin hcd) hd
theorem pe_int {i j pos} : PE X (.Constant (.int i) j pos) (tC (.int i)) := fun _ _ _ H _ I h => wpAny_Constant_int ⟨.int i, H, I.tok _, ⟨_, rfl⟩, h⟩
theorem pe_bl {b j pos} : PE X (.Constant (.bool b) j pos) (tC (.bl b)) := fun _ _ _ H _ I h => Constant_bool ⟨.bl b, H, I, rfl, h⟩
theorem pe_non {j pos} : PE X (.Constant .none j pos) (tC .non) := fun _ _ _ H _ I h => Constant_none ⟨.non, H, I, rfl, h⟩
theorem pe_str {x j pos} : PE X (.Constant (.str x) j pos) (tC (.str x)) := fun _ _ _ H _ I h => Calls.Constant_str ⟨.str x, H, I.tok _, ⟨_, rfl⟩, h⟩

/-- a global name of the def -/
def Gl (X : Cx) (x : Str) : Prop := X.env.kindOf x = some .globalImplicit
theorem ld_glob {E : Value → Shared → Prop} {pins : List (Addr × Obj)} {s : Shared} {σ : St} {H : Hp} {x : Str} {u : Value} {pos : Pos} {Q : Value → Shared → Prop} (I : Inv X pins σ H s) (hg : Gl X x) (hm : X.mg x = some u) (h : Q u s)
    (hd : (x == ("__debug__" : Str)) = false := by decide) : wpAny (model X.prog X.w) X.A (eval (.Name x pos) X.env) Q E s :=
  Calls.Name_function_global I.ok.kind hg (Calls.loadGlobal_global (by rw [I.ok.glob]; exact I.mod.glob.keeps I.bk) hm h) hd
theorem ld_blt {E : Value → Shared → Prop} {pins : List (Addr × Obj)} {s : Shared} {σ : St} {H : Hp} {x : Str} {u : Value} {pos : Pos} {Q : Value → Shared → Prop} (I : Inv X pins σ H s) (hg : Gl X x) (hm : X.mg x = none) (hv : bootBuiltins x = some u) (h : Q u s)
    (hn : x ≠ "__name__" := by decide) (hd : (x == ("__debug__" : Str)) = false := by decide) : wpAny (model X.prog X.w) X.A (eval (.Name x pos) X.env) Q E s := by
  obtain ⟨mb, h1, h2⟩ := I.mod.blt
  exact Calls.Name_function_global I.ok.kind hg (Calls.loadGlobal_builtin (by rw [I.ok.glob]; exact I.mod.glob.keeps I.bk) hm (by rw [I.ok.blt]; exact h1.keeps I.bk) ((h2 x hn).trans hv) h) hd
/-- a module's constant, a class, a function, as a value -/
theorem pe_glob {x : Str} {v : V} {u : Value} {pos : Pos} (hg : Gl X x) (hm : X.mg x = some u) (r : RelV v u) (hd : (x == ("__debug__" : Str)) = false := by decide) : PE X (.Name x pos) (tC v) :=
  fun _ _ _ H _ I h => ld_glob I hg hm ⟨v, H, I, r, h⟩ hd
theorem pe_bltn {x : Str} {v : V} {u : Value} {pos : Pos} (hg : Gl X x) (hm : X.mg x = none) (hv : bootBuiltins x = some u) (r : RelV v u) (hn : x ≠ "__name__" := by decide) (hd : (x == ("__debug__" : Str)) = false := by decide) : PE X (.Name x pos) (tC v) :=
  fun _ _ _ H _ I h => ld_blt I hg hm hv ⟨v, H, I, r, h⟩ hn hd

/-! ### arithmetic -/
/-- two ints -/
def t2I (ta tb : TE) (k : Int → Int → Hp → Prop) : St → Hp → Prop := fun σ H => ta σ H fun x H1 => tb σ H1 fun y H2 => ∃ i j, x = .int i ∧ y = .int j ∧ k i j H2
def tAdd (ta tb : TE) : TE := fun σ H Q => t2I ta tb (fun i j H2 => Q (.int (i + j)) H2) σ H
def tSub (ta tb : TE) : TE := fun σ H Q => t2I ta tb (fun i j H2 => Q (.int (i - j)) H2) σ H
/-- the left factor below 2^64 -/
def tMul (ta tb : TE) : TE := fun σ H Q => t2I ta tb (fun i j H2 => (-(2 ^ 64) < i ∧ i < 2 ^ 64) ∧ Q (.int (i * j)) H2) σ H
variable {a b : Expr} {ta tb : TE} {pos : Pos}
theorem pe_add (ha : PE X a ta) (hb : PE X b tb) : PE X (.BinOp a .Add b pos) (tAdd ta tb) := by
  intro pins s σ H Q I h
  refine wpAny_BinOp (bin ha hb I h fun v u s2 x y H2 I2 rx ry q => ?_)
  obtain ⟨i, j, rfl, rfl, q⟩ := q
  obtain ⟨t, rfl⟩ := rx
  obtain ⟨t', rfl⟩ := ry
  exact add_int ⟨.int _, H2, I2.tok _, ⟨_, rfl⟩, q⟩
theorem pe_sub (ha : PE X a ta) (hb : PE X b tb) : PE X (.BinOp a .Sub b pos) (tSub ta tb) := by
  intro pins s σ H Q I h
  refine wpAny_BinOp (bin ha hb I h fun v u s2 x y H2 I2 rx ry q => ?_)
  obtain ⟨i, j, rfl, rfl, q⟩ := q
  obtain ⟨t, rfl⟩ := rx
  obtain ⟨t', rfl⟩ := ry
  exact sub_int ⟨.int _, H2, I2.tok _, ⟨_, rfl⟩, q⟩
theorem pe_mul (ha : PE X a ta) (hb : PE X b tb) : PE X (.BinOp a .Mult b pos) (tMul ta tb) := by
  intro pins s σ H Q I h
  refine wpAny_BinOp (bin ha hb I h fun v u s2 x y H2 I2 rx ry q => ?_)
  obtain ⟨i, j, rfl, rfl, ⟨q1, q2⟩, q⟩ := q
  obtain ⟨t, rfl⟩ := rx
  obtain ⟨t', rfl⟩ := ry
  exact mul_int ⟨.int _, H2, I2.tok _, ⟨_, rfl⟩, q⟩ (.of_left (intBits_le_64 q1 q2))

/-! ### comparisons -/
def PC (X : Cx) (op : CmpOp) (a b : Expr) (t : TE) : Prop :=
  ∀ (pins : List (Addr × Obj)) (s : Shared) (σ : St) (H : Hp) (Q : VK), Inv X pins σ H s → t σ H Q →
    wpAny (model X.prog X.w) X.A (eval a X.env) (fun v s₁ => wpAny (model X.prog X.w) X.A (eval b X.env) (fun u s₂ => wpAny (model X.prog X.w) X.A (compareOp op v u) (EP X pins σ Q) X.xe s₂) X.xe s₁) X.xe s
theorem nobehind (b : Expr) {op : CmpOp} (h : op ≠ .In) (h2 : op ≠ .NotIn) : behindInMarks op b = false := by
  have e1 : (op == CmpOp.In) = false := by cases op <;> first | rfl | exact absurd rfl h
  have e2 : (op == CmpOp.NotIn) = false := by cases op <;> first | rfl | exact absurd rfl h2
  cases b <;> simp [behindInMarks, e1, e2]
def tCmp (p : Int → Int → Bool) (ta tb : TE) : TE := fun σ H Q => t2I ta tb (fun i j H2 => Q (.bl (p i j)) H2) σ H
abbrev tLt : TE → TE → TE := tCmp fun i j => decide (i < j)
abbrev tLe : TE → TE → TE := tCmp fun i j => decide (i ≤ j)
abbrev tGt : TE → TE → TE := tCmp fun i j => decide (j < i)
abbrev tGe : TE → TE → TE := tCmp fun i j => decide (j ≤ i)
abbrev tEqI : TE → TE → TE := tCmp fun i j => decide (i = j)
abbrev tNeI : TE → TE → TE := tCmp fun i j => !decide (i = j)
/-- a comparison of two ints, by its rule -/
theorem pc_int {op : CmpOp} {p : Int → Int → Bool} (ha : PE X a ta) (hb : PE X b tb)
    (rule : ∀ (i j : Int) (t u : Tok) (Q : Value → Shared → Prop) (s : Shared), Q (.bool (p i j)) s → wpAny (model X.prog X.w) X.A (compareOp op (.int i t) (.int j u)) Q X.xe s) : PC X op a b (tCmp p ta tb) := by
  intro pins s σ H Q I h
  refine bin ha hb I h fun v u s2 x y H2 I2 rx ry q => ?_
  obtain ⟨i, j, rfl, rfl, q⟩ := q
  obtain ⟨t, rfl⟩ := rx
  obtain ⟨t', rfl⟩ := ry
  exact rule i j t t' _ s2 ⟨.bl _, H2, I2, rfl, q⟩
theorem pc_lt (ha : PE X a ta) (hb : PE X b tb) : PC X .Lt a b (tLt ta tb) := pc_int ha hb fun _ _ _ _ _ _ h => lt_int h
theorem pc_le (ha : PE X a ta) (hb : PE X b tb) : PC X .LtE a b (tLe ta tb) := pc_int ha hb fun _ _ _ _ _ _ h => le_int h
theorem pc_gt (ha : PE X a ta) (hb : PE X b tb) : PC X .Gt a b (tGt ta tb) := pc_int ha hb fun _ _ _ _ _ _ h => gt_int h
theorem pc_ge (ha : PE X a ta) (hb : PE X b tb) : PC X .GtE a b (tGe ta tb) := pc_int ha hb fun _ _ _ _ _ _ h => ge_int h
theorem pc_eqI (ha : PE X a ta) (hb : PE X b tb) : PC X .Eq a b (tEqI ta tb) := pc_int ha hb fun _ _ _ _ _ _ h => eq_int (by rw [Bool.beq_eq_decide_eq]; exact h)
theorem pc_neI (ha : PE X a ta) (hb : PE X b tb) : PC X .NotEq a b (tNeI ta tb) := pc_int ha hb fun _ _ _ _ _ _ h => ne_int (by rw [bne, Bool.beq_eq_decide_eq]; exact h)
/-- is None -/
def tIsN (ta : TE) : TE := fun σ H Q => ta σ H fun x H1 => Q (.bl (decide (x = .non))) H1
def tNotN (ta : TE) : TE := fun σ H Q => ta σ H fun x H1 => Q (.bl (!decide (x = .non))) H1
theorem RelV.none_iff {x : V} {v : Value} (r : RelV x v) : (v == Value.none) = decide (x = .non) := by
  cases x with
  | non => cases r; rfl
  | bl _ => cases r; rfl
  | int _ => obtain ⟨t, rfl⟩ := r; rfl
  | str _ => obtain ⟨t, rfl⟩ := r; rfl
  | byt _ => obtain ⟨t, rfl⟩ := r; rfl
  | flt _ => obtain ⟨t, rfl⟩ := r; rfl
  | ref _ => cases r; rfl
  | ty _ => cases r; rfl
theorem pc_isN {j pos'} (ha : PE X a ta) : PC X .Is a (.Constant .none j pos') (tIsN ta) := by
  intro pins s σ H Q I h
  refine thn (ha pins s σ H _ I h) fun v s1 ⟨x, H1, I1, r1, q1⟩ => ?_
  exact Constant_none (is_none_gen ⟨.bl _, H1, I1, by rw [r1.none_iff]; rfl, q1⟩)
theorem pc_notN {j pos'} (ha : PE X a ta) : PC X .IsNot a (.Constant .none j pos') (tNotN ta) := by
  intro pins s σ H Q I h
  refine thn (ha pins s σ H _ I h) fun v s1 ⟨x, H1, I1, r1, q1⟩ => ?_
  exact Constant_none (isnot_none_gen ⟨.bl _, H1, I1, by rw [r1.none_iff]; rfl, q1⟩)
/-- a comparison as a value, as a test -/
def tB (t : TE) : TT := fun σ H Q => t σ H fun x H1 => ∃ c, x = .bl c ∧ Q c H1
theorem pe_cmp {op : CmpOp} {t : TE} (h : PC X op a b t) (h1 : behindInMarks op b = false := by first | exact nobehind _ (by decide) (by decide) | rfl) : PE X (.Compare a [op] [b] pos) t := fun pins s σ H Q I hw => wpAny_Compare1 (h pins s σ H Q I hw) h1
theorem pt_cmp {op : CmpOp} {t : TE} (h : PC X op a b t) (h1 : behindInMarks op b = false := by first | exact nobehind _ (by decide) (by decide) | rfl) : PT X (.Compare a [op] [b] pos) (tB t) := by
  intro pins s σ H Q I hw
  refine wpAny_isTrue_Compare1 (thn (h pins s σ H _ I hw) fun v s1 h1 => thn h1 fun u s2 h2 => thn h2 fun c s3 ⟨x, H1, I1, r1, q1⟩ => ?_) h1
  obtain ⟨d, rfl, q⟩ := q1
  cases r1
  exact wpAny_truthy_bool ⟨H1, I1, q⟩
/-- an expression whose value is a bool, as a test -/
theorem pt_val {e : Expr} {t : TE} (h : PE X e t) (he : ∀ whole, isTrue e X.env whole = (do let v ← whole; standAt e.pos; holding [v] (truthy v)) := by intro _; rfl) : PT X e (tB t) := by
  intro pins s σ H Q I hw
  refine isTrue_plain (thn (h pins s σ H _ I hw) fun v s1 ⟨x, H1, I1, r1, q1⟩ => ?_) (he _)
  obtain ⟨d, rfl, q⟩ := q1
  cases r1
  exact wpAny_truthy_bool ⟨H1, I1, q⟩

/-! ### and, or, not -/
variable {tA tB' : TT} {rest : List Expr}
def tAnd (t u : TT) : TT := fun σ H Q => t σ H fun c H1 => if c = true then u σ H1 Q else Q false H1
def tOr (t u : TT) : TT := fun σ H Q => t σ H fun c H1 => if c = true then Q true H1 else u σ H1 Q
def tNot (t : TT) : TT := fun σ H Q => t σ H fun c H1 => Q (!c) H1
theorem pw_and1 (ha : PT X a tA) : PW X (.BoolOp .And [a] pos) tA := by
  intro wh pins s σ H Q I h
  refine isTrue_and (thn (ha pins s σ H Q I h) fun c s1 e => ?_)
  cases c with
  | true => exact isTrue_and_nil e
  | false => exact e
theorem pw_or1 (ha : PT X a tA) : PW X (.BoolOp .Or [a] pos) tA := by
  intro wh pins s σ H Q I h
  refine isTrue_or (thn (ha pins s σ H Q I h) fun c s1 e => ?_)
  cases c with
  | false => exact isTrue_or_nil e
  | true => exact e
theorem pw_and (ha : PT X a tA) (hb : PW X (.BoolOp .And (b :: rest) pos) tB') : PW X (.BoolOp .And (a :: b :: rest) pos) (tAnd tA tB') := by
  intro wh pins s σ H Q I h
  refine isTrue_and (thn (ha pins s σ H _ I h) fun c s1 ⟨H1, I1, q1⟩ => ?_)
  cases c with
  | true => exact hb wh pins s1 σ H1 Q I1 q1
  | false => exact ⟨H1, I1, q1⟩
theorem pw_or (ha : PT X a tA) (hb : PW X (.BoolOp .Or (b :: rest) pos) tB') : PW X (.BoolOp .Or (a :: b :: rest) pos) (tOr tA tB') := by
  intro wh pins s σ H Q I h
  refine isTrue_or (thn (ha pins s σ H _ I h) fun c s1 ⟨H1, I1, q1⟩ => ?_)
  cases c with
  | true => exact ⟨H1, I1, q1⟩
  | false => exact hb wh pins s1 σ H1 Q I1 q1
theorem pt_not (ha : PT X a tA) : PT X (.UnaryOp .Not a pos) (tNot tA) := by
  intro pins s σ H Q I h
  exact isTrue_not (ha pins s σ H (fun c H1 => Q (!c) H1) I h)
/-- .. as values (bools) -/
def tAndV (ta tb : TE) : TE := fun σ H Q => ta σ H fun x H1 => ∃ c, x = .bl c ∧ if c = true then tb σ H1 Q else Q (.bl false) H1
def tOrV (ta tb : TE) : TE := fun σ H Q => ta σ H fun x H1 => ∃ c, x = .bl c ∧ if c = true then Q (.bl true) H1 else tb σ H1 Q
def tNotV (ta : TE) : TE := fun σ H Q => ta σ H fun x H1 => ∃ c, x = .bl c ∧ Q (.bl (!c)) H1
theorem pe_one {op} {t : TE} (h : PE X a t) : PE X (.BoolOp op [a] pos) t := fun pins s σ H Q I hw => BoolOp_one (h pins s σ H Q I hw)
theorem pe_and (ha : PE X a ta) (hb : PE X (.BoolOp .And (b :: rest) pos) tb) : PE X (.BoolOp .And (a :: b :: rest) pos) (tAndV ta tb) := by
  intro pins s σ H Q I h
  refine BoolOp_and (thn (ha pins s σ H _ I h) fun v s1 ⟨x, H1, I1, r1, q1⟩ => ?_)
  obtain ⟨c, rfl, q1⟩ := q1
  cases r1
  refine wpAny_truthy_bool ?_
  cases c with
  | true => exact hb pins s1 σ H1 Q I1 q1
  | false => exact ⟨.bl false, H1, I1, rfl, q1⟩
theorem pe_or (ha : PE X a ta) (hb : PE X (.BoolOp .Or (b :: rest) pos) tb) : PE X (.BoolOp .Or (a :: b :: rest) pos) (tOrV ta tb) := by
  intro pins s σ H Q I h
  refine BoolOp_or (thn (ha pins s σ H _ I h) fun v s1 ⟨x, H1, I1, r1, q1⟩ => ?_)
  obtain ⟨c, rfl, q1⟩ := q1
  cases r1
  refine wpAny_truthy_bool ?_
  cases c with
  | false => exact hb pins s1 σ H1 Q I1 q1
  | true => exact ⟨.bl true, H1, I1, rfl, q1⟩
theorem pe_not (ha : PE X a ta) : PE X (.UnaryOp .Not a pos) (tNotV ta) := by
  intro pins s σ H Q I h
  refine UnaryOp_ (thn (ha pins s σ H _ I h) fun v s1 ⟨x, H1, I1, r1, q1⟩ => ?_)
  obtain ⟨c, rfl, q1⟩ := q1
  cases r1
  exact not_of (wpAny_truthy_bool ⟨.bl (!c), H1, I1, rfl, q1⟩)
/-- a if t else b -/
def tIf (t : TT) (ta tb : TE) : TE := fun σ H Q => t σ H fun c H1 => if c = true then ta σ H1 Q else tb σ H1 Q
theorem pe_ifExp {c : Expr} (hc : PT X c tA) (ha : PE X a ta) (hb : PE X b tb) : PE X (.IfExp c a b pos) (tIf tA ta tb) := by
  intro pins s σ H Q I h
  refine wpAny_IfExp (thn (hc pins s σ H _ I h) fun d s1 ⟨H1, I1, q1⟩ => ?_)
  cases d with
  | true => exact ha pins s1 σ H1 Q I1 q1
  | false => exact hb pins s1 σ H1 Q I1 q1
end
end L2

namespace L2
open PySem PySem.Spec PyProof.Rows

/-! ### a list, a tuple that is read: tracked, frozen, or an object of the module -/
def SqL (K : PySem.W.Frag) (H : Hp) (a : Addr) (xs : List V) : Prop :=
  Rd H a (.lst xs) ∨
    ∃ (o : Obj) (its : Array Value) (n : Nat), K.lookup a = some o ∧ o.cls = .type "list" ∧ o.dict = none ∧ o.data = .seq its n ∧ its.size ≤ sizeLine ∧ Vals xs its.toList
def SqT (K : PySem.W.Frag) (H : Hp) (a : Addr) (xs : List V) : Prop :=
  Rd H a (.tup xs) ∨
    ∃ (o : Obj) (its : Array Value) (n : Nat), K.lookup a = some o ∧ o.cls = .type "tuple" ∧ o.data = .seq its n ∧ its.size ≤ sizeLine ∧ Vals xs its.toList
def absV : Value → Option V
  | .none => some .non
  | .bool b => some (.bl b)
  | .int i _ => some (.int i)
  | .str x _ => some (.str x)
  | .bytes b _ => some (.byt b)
  | .float b _ => some (.flt b)
  | .ref a => some (.ref a)
  | .type n => some (.ty n)
  | _ => none
theorem RelV.abs {x : V} {u : Value} (r : RelV x u) : absV u = some x := by
  cases x with
  | non => cases r; rfl
  | bl _ => cases r; rfl
  | int _ => obtain ⟨t, rfl⟩ := r; rfl
  | str _ => obtain ⟨t, rfl⟩ := r; rfl
  | byt _ => obtain ⟨t, rfl⟩ := r; rfl
  | flt _ => obtain ⟨t, rfl⟩ := r; rfl
  | ref _ => cases r; rfl
  | ty _ => cases r; rfl
theorem RelV.inj {x y : V} {u : Value} (r : RelV x u) (q : RelV y u) : x = y := Option.some.inj (r.abs.symm.trans q.abs)
theorem Vals.inj : ∀ {xs ys : List V} {us : List Value}, Vals xs us → Vals ys us → xs = ys
  | _, _, _, .nil, .nil => rfl
  | _, _, _, .cons r t, .cons r' t' => by rw [r.inj r', Vals.inj t t']
section
variable {X : Cx} {pins : List (Addr × Obj)} {σ : St} {H : Hp} {s : Shared} {a : Addr} {xs ys : List V}
theorem SqL.of {K : PySem.W.Frag} (h : H a = some (.lst xs)) : SqL K H a xs := .inl (.inl h)
theorem SqT.of {K : PySem.W.Frag} (h : H a = some (.tup xs)) : SqT K H a xs := .inl (.inl h)
theorem Inv.list (I : Inv X pins σ H s) (h : SqL X.K H a xs) : ∃ its : List Value, Vals xs its ∧ PlainL s.heap a its.toArray ∧ xs.length ≤ sizeLine := by
  rcases h with h | ⟨o, its, n, hk, hc, hd, hs, hz, r⟩
  · obtain ⟨z, its, n, r, e⟩ := h.ok I.hok
    exact ⟨its, r, ⟨_, n, e, rfl, rfl, rfl⟩, z⟩
  · refine ⟨its.toList, r, ⟨o, n, I.kIn a o hk, hc, hd, by simpa using hs⟩, ?_⟩
    have e := r.length
    simp only [Array.length_toList] at e
    omega
theorem Inv.tuple (I : Inv X pins σ H s) (h : SqT X.K H a xs) : ∃ its : List Value, Vals xs its ∧ IsTup s.heap a its.toArray ∧ xs.length ≤ sizeLine := by
  rcases h with h | ⟨o, its, n, hk, hc, hs, hz, r⟩
  · obtain ⟨z, its, r, p⟩ := h.ok I.hok
    exact ⟨its, r, p, z⟩
  · refine ⟨its.toList, r, ⟨o, I.kIn a o hk, hc, n, by simpa using hs⟩, ?_⟩
    have e := r.length
    simp only [Array.length_toList] at e
    omega
theorem Inv.list_inj (I : Inv X pins σ H s) (h : SqL X.K H a xs) (h' : SqL X.K H a ys) : xs = ys := by
  obtain ⟨its, r, ⟨o, n, e, _, _, d⟩, _⟩ := I.list h
  obtain ⟨its', r', ⟨o', n', e', _, _, d'⟩, _⟩ := I.list h'
  rw [e] at e'; cases e'
  rw [d] at d'
  injection d' with d1 _
  have : its = its' := by simpa using congrArg Array.toList d1
  subst this
  exact r.inj r'
theorem Inv.tuple_inj (I : Inv X pins σ H s) (h : SqT X.K H a xs) (h' : SqT X.K H a ys) : xs = ys := by
  obtain ⟨its, r, ⟨o, e, _, n, d⟩, _⟩ := I.tuple h
  obtain ⟨its', r', ⟨o', e', _, n', d'⟩, _⟩ := I.tuple h'
  rw [e] at e'; cases e'
  rw [d] at d'
  injection d' with d1 _
  have : its = its' := by simpa using congrArg Array.toList d1
  subst this
  exact r.inj r'
end

/-! ### another wish about exceptions -/
abbrev Cx.wish (X : Cx) (E : Value → Shared → Prop) : Cx := { X with xe := E }
/-- no exception leaves -/
abbrev Cx.nox (X : Cx) : Cx := X.wish fun _ _ => False
theorem Cx.Ok.wish {X : Cx} (ok : X.Ok) (E : Value → Shared → Prop) : (X.wish E).Ok :=
  ⟨ok.mod, ok.kind, ok.glob, ok.blt, ok.above, ok.inj, ok.has, ok.cab, ok.hd, ok.frames, ok.stk, ok.exf, ok.bs, ok.bsz, ok.noex, ok.exfs, ok.funs, ok.frf⟩
theorem Cx.Ok.unwish {X : Cx} {E : Value → Shared → Prop} (ok : (X.wish E).Ok) : X.Ok :=
  ⟨ok.mod, ok.kind, ok.glob, ok.blt, ok.above, ok.inj, ok.has, ok.cab, ok.hd, ok.frames, ok.stk, ok.exf, ok.bs, ok.bsz, ok.noex, ok.exfs, ok.funs, ok.frf⟩
section
variable {X : Cx} {pins : List (Addr × Obj)} {σ : St} {H : Hp} {s : Shared} {E : Value → Shared → Prop}
theorem Inv.wish (I : Inv X pins σ H s) (E : Value → Shared → Prop) : Inv (X.wish E) pins σ H s := ⟨I.ok.wish E, I.os, I.bare, I.base, I.loc, I.cell, I.free, I.freeC, I.pin, I.hok, I.len⟩
theorem Inv.unwish (I : Inv (X.wish E) pins σ H s) : Inv X pins σ H s := ⟨I.ok.unwish, I.os, I.bare, I.base, I.loc, I.cell, I.free, I.freeC, I.pin, I.hok, I.len⟩
theorem SP.unwish {D : Ends} {f : Flow} {s' : Shared} (h : SP (X.wish E) pins D f s') : SP X pins D f s' := by
  cases f with
  | next => obtain ⟨σ', H', I, q⟩ := h; exact ⟨σ', H', I.unwish, q⟩
  | brk => obtain ⟨σ', H', I, q⟩ := h; exact ⟨σ', H', I.unwish, q⟩
  | cont => obtain ⟨σ', H', I, q⟩ := h; exact ⟨σ', H', I.unwish, q⟩
  | ret u => obtain ⟨v, σ', H', I, r, q⟩ := h; exact ⟨v, σ', H', I.unwish, r, q⟩
theorem PE.nox {e : Expr} {t : TE} (h : PE X.nox e t) : PE X e t := fun pins s σ H Q I hw =>
  wpAny_mono (h pins s σ H Q (I.wish _) hw) (fun _ _ ⟨v, H', I', r, q⟩ => ⟨v, H', I'.unwish, r, q⟩) fun _ _ z => False.elim z
theorem PT.nox {e : Expr} {t : TT} (h : PT X.nox e t) : PT X e t := fun pins s σ H Q I hw =>
  wpAny_mono (h pins s σ H Q (I.wish _) hw) (fun _ _ ⟨H', I', q⟩ => ⟨H', I'.unwish, q⟩) fun _ _ z => False.elim z
theorem PSs.nox {st : List Stmt} {t : TS} (h : PSs X.nox st t) : PSs X st t := fun pins s σ H D I hw =>
  wpAny_mono (h pins s σ H D (I.wish _) hw) (fun _ _ q => q.unwish) fun _ _ z => False.elim z
end

/-! ### blocks and small statements -/
section
variable {X : Cx} {st : Stmt} {rest : List Stmt} {t u : TS} {e : Expr} {te : TE} {pos : Pos}
def tNext : TS := fun D σ H => D.nx σ H
def tSeq (t u : TS) : TS := fun D σ H => t { D with nx := u D } σ H
theorem pss_nil : PSs X [] tNext := fun _ _ σ H _ I h => wpAny_execs_nil ⟨σ, H, I, h⟩
theorem pss_cons (h1 : PS X st t) (h2 : PSs X rest u) : PSs X (st :: rest) (tSeq t u) := by
  intro pins s σ H D I h
  refine wpAny_execs_cons (thn (h1 pins s σ H { D with nx := u D } I h) fun f s1 q => ?_)
  cases f with
  | next =>
    obtain ⟨σ', H', I', q⟩ := q
    exact h2 pins s1 σ' H' D I' q
  | ret v => exact q
  | brk => exact q
  | cont => exact q
theorem pss_one (h1 : PS X st t) : PSs X [st] t := by
  intro pins s σ H D I h
  refine wpAny_execs_cons (thn (h1 pins s σ H D I h) fun f s1 q => ?_)
  cases f with
  | next => exact wpAny_execs_nil q
  | ret v => exact q
  | brk => exact q
  | cont => exact q
def tBreak : TS := fun D σ H => D.bk σ H
def tCont : TS := fun D σ H => D.ct σ H
theorem ps_pass : PS X (.Pass pos) tNext := fun _ _ σ H _ I h => wpAny_Pass ⟨σ, H, I, h⟩
theorem ps_break : PS X (.Break pos) tBreak := fun _ _ σ H _ I h => wpAny_Break ⟨σ, H, I, h⟩
theorem ps_continue : PS X (.Continue pos) tCont := fun _ _ σ H _ I h => wpAny_Continue ⟨σ, H, I, h⟩
/-- in a def's body nothing is shown -/
theorem Inv.quiet {pins : List (Addr × Obj)} {σ : St} {H : Hp} {s : Shared} (I : Inv X pins σ H s) : interactive X.env = false := by simp [interactive, I.ok.kind]
/-- a docstring -/
theorem ps_doc {x j pos pos'} : PS X (.Expr (.Constant (.str x) j pos) pos') tNext := fun _ s σ H _ I h => wpAny_Expr (Calls.Constant_str (show SP X _ _ .next { s with toks := s.toks + 1 } from ⟨σ, H, I.tok _, h⟩)) I.quiet
/-- an expression whose value is dropped -/
def tDrop (te : TE) : TS := fun D σ H => te σ H fun _ H1 => D.nx σ H1
theorem ps_expr (he : PE X e te) (hs : swapsWith e none pos.line X.env = pure false := by rfl) : PS X (.Expr e pos) (tDrop te) := by
  intro pins s σ H D I h
  exact wpAny_Expr_any (thn (he pins s σ H _ I h) fun v s1 ⟨x, H1, I1, r1, q1⟩ => ⟨σ, H1, I1, q1⟩) I.quiet hs
def tRet (te : TE) : TS := fun D σ H => te σ H D.rt
theorem ps_ret (he : PE X e te) : PS X (.Return (some e) pos) (tRet te) := by
  intro pins s σ H D I h
  exact wpAny_Return_some (thn (he pins s σ H _ I h) fun v s1 ⟨x, H1, I1, r1, q1⟩ => ⟨x, σ, H1, I1, r1, q1⟩)
def tRetN : TS := fun D _ H => D.rt .non H
theorem ps_retN : PS X (.Return none pos) tRetN := fun _ _ σ H _ I h => wpAny_Return_none ⟨.non, σ, H, I, rfl, h⟩
def tIfS (c : TT) (t u : TS) : TS := fun D σ H => c σ H fun b H1 => if b = true then t D σ H1 else u D σ H1
theorem ps_if {c : Expr} {a b : List Stmt} {tc : TT} (hc : PT X c tc) (ha : PSs X a t) (hb : PSs X b u) : PS X (.If c a b pos) (tIfS tc t u) := by
  intro pins s σ H D I h
  refine wpAny_If (thn (hc pins s σ H _ I h) fun d s1 ⟨H1, I1, q1⟩ => ?_)
  cases d with
  | true => exact ha pins s1 σ H1 D I1 q1
  | false => exact hb pins s1 σ H1 D I1 q1
/-- code that the proof never comes to -/
def tNever : TS := fun _ _ _ => False
theorem ps_never : PS X st tNever := fun _ _ _ _ _ _ h => h.elim
theorem pss_never {sts : List Stmt} : PSs X sts tNever := fun _ _ _ _ _ _ h => h.elim
end

/-! ### targets -/
abbrev TG := V → St → Hp → (St → Hp → Prop) → Prop
abbrev TGs := List V → St → Hp → (St → Hp → Prop) → Prop
def PG (X : Cx) (target : Expr) (t : TG) : Prop :=
  ∀ (pins : List (Addr × Obj)) (s : Shared) (σ : St) (H : Hp) (v : V) (u : Value) (Q : St → Hp → Prop), Inv X pins σ H s → RelV v u → t v σ H Q →
    wpAny (model X.prog X.w) X.A (assign target X.env u) (fun _ s' => ∃ σ' H', Inv X pins σ' H' s' ∧ Q σ' H') X.xe s
/-- several targets, one after another -/
def PGs (X : Cx) (ts : List Expr) (t : TGs) : Prop :=
  ∀ (pins : List (Addr × Obj)) (s : Shared) (σ : St) (H : Hp) (vs : List V) (us : List Value) (Q : St → Hp → Prop), Inv X pins σ H s → Vals vs us → t vs σ H Q →
    wpAny (model X.prog X.w) X.A (assignInOrder ((assignEach ts X.env).map (·.2)) us) (fun _ s' => ∃ σ' H', Inv X pins σ' H' s' ∧ Q σ' H') X.xe s
/-- o[i] = v, by values -/
abbrev TSet := V → V → V → Hp → (Hp → Prop) → Prop
def PSet (X : Cx) (t : TSet) : Prop :=
  ∀ (pins : List (Addr × Obj)) (s : Shared) (σ : St) (H : Hp) (o i v : V) (ov iv u : Value) (Q : Hp → Prop), Inv X pins σ H s → RelV o ov → RelV i iv → RelV v u → t o i v H Q →
    wpAny (model X.prog X.w) X.A (setItem ov iv u) (fun _ s' => ∃ H', Inv X pins σ H' s' ∧ Q H') X.xe s
/-- a op= b, by values -/
abbrev TIp := V → V → Hp → VK → Prop
def PIp (X : Cx) (op : Operator) (t : TIp) : Prop :=
  ∀ (pins : List (Addr × Obj)) (s : Shared) (σ : St) (H : Hp) (x y : V) (v u : Value) (Q : VK), Inv X pins σ H s → RelV x v → RelV y u → t x y H Q →
    wpAny (model X.prog X.w) X.A (inplaceOp op v u) (EP X pins σ Q) X.xe s
section
variable {X : Cx} {pos : Pos}
def gName (i : Nat) : TG := fun v σ H Q => Q (σ.set i (some v)) H
theorem pg_name {i : Nat} {x : Str} (hN : X.N.Nodup) (hi : X.N[i]? = some x) (hx : Loc X.env.scope x) (hf : X.fn x = true ∨ X.env.scope.names.lookup x = some .local := by first | exact .inl rfl | exact .inr rfl | assumption) : PG X (.Name x pos) (gName i) := by
  intro pins s σ H v u Q I r h
  exact wpAny_assign_Name (store_ok I hN hi hx r (fun s' I' => ⟨_, H, I', h⟩) hf)
def gNil : TGs := fun vs σ H Q => vs = [] ∧ Q σ H
def gCons (t : TG) (u : TGs) : TGs := fun vs σ H Q => ∃ v r, vs = v :: r ∧ t v σ H fun σ' H' => u r σ' H' Q
theorem pgs_nil : PGs X [] gNil := by
  intro pins s σ H vs us Q I r h
  obtain ⟨e, h⟩ := h
  subst e
  cases r
  exact assignInOrder_nil ⟨σ, H, I, h⟩
theorem pgs_cons {e : Expr} {es : List Expr} {t : TG} {u : TGs} (h1 : PG X e t) (h2 : PGs X es u)
    (hs : (assignEach (e :: es) X.env).map (·.2) = assign e X.env :: (assignEach es X.env).map (·.2) := by rfl) : PGs X (e :: es) (gCons t u) := by
  intro pins s σ H vs us Q I r h
  obtain ⟨v, vr, e1, h⟩ := h
  subst e1
  cases r with
  | cons r rr =>
    rw [hs]
    refine assignInOrder_cons (thn (h1 pins s σ H _ _ _ I r h) fun _ s1 ⟨σ1, H1, I1, q1⟩ => ?_)
    exact h2 pins s1 σ1 H1 _ _ Q I1 rr q1
/-- (a, b, ..) = a tuple of that length -/
def gTup (K : PySem.W.Frag) (n : Nat) (t : TGs) : TG := fun v σ H Q => ∃ a xs, v = .ref a ∧ SqT K H a xs ∧ xs.length = n ∧ t xs σ H Q
theorem pg_tup {es : List Expr} {k : Nat} {t : TGs} {n : Nat} (hc : X.calm = true) (h : PGs X es t)
    (hn : (assignEach es X.env).length = n := by rfl) (hst : (assignEach es X.env).findIdx? (·.1) = none := by rfl) : PG X (.Tuple es k pos) (gTup X.K n t) := by
  intro pins s σ H v u Q I r hw
  obtain ⟨a, xs, e1, hq, hl, hw⟩ := hw
  subst e1
  cases r
  obtain ⟨its, rv, ht, hz⟩ := I.tuple hq
  refine assign_Tuple_tuple (I.ok.hd hc) ht (by simp [hn, ← hl, rv.length]) hst fun h' hx => ?_
  have I1 : Inv X pins σ H { s with heap := h' } := I.kept (t' := s.toks) fun b o e => hx b o (Nat.ne_of_lt (Heap.lt_size e)) e
  exact h pins _ σ H xs _ Q I1 (by simpa using rv) hw
/-- o[i] = .. -/
def gSub (to ti : TE) (t : TSet) : TG := fun v σ H Q => to σ H fun o H1 => ti σ H1 fun i H2 => t o i v H2 fun H3 => Q σ H3
theorem pg_sub {o i : Expr} {to ti : TE} {t : TSet} (ho : PE X o to) (hi : PE X i ti) (hs : PSet X t)
    (ha : ∀ v, assign (.Subscript o i pos) X.env v = (do
      let ov ← holding [v] (eval o X.env)
      let iv ← holding [v, ov] (eval i X.env)
      standAt pos
      holding [v, ov, iv] (setItem ov iv v)
      release [v, ov, iv] []) := by intro _; rfl) : PG X (.Subscript o i pos) (gSub to ti t) := by
  intro pins s σ H v u Q I r h
  rw [ha]
  refine wpAny_bind (wpAny_holding (thn (ho pins s σ H _ I h) fun ov s1 ⟨x, H1, I1, r1, q1⟩ => ?_))
  refine wpAny_bind (wpAny_holding (thn (hi pins s1 σ H1 _ I1 q1) fun iv s2 ⟨y, H2, I2, r2, q2⟩ => ?_))
  refine wpAny_bind (wpAny_standAt (wpAny_bind (wpAny_holding (thn (hs pins s2 σ H2 x y v ov iv u _ I2 r1 r2 r q2) fun _ s3 ⟨H3, I3, q3⟩ => ?_))))
  exact wpAny_release ⟨σ, H3, I3, q3⟩
/-- target = value -/
def tAsg (te : TE) (g : TG) : TS := fun D σ H => te σ H fun x H1 => g x σ H1 D.nx
theorem ps_asg {tg e : Expr} {te : TE} {g : TG} (he : PE X e te) (hg : PG X tg g) (hs : swapsWithSole [tg] e pos.line X.env = pure false := by rfl) (hw : swappedStores [tg] e X.env = pure none := by rfl)
    (h1 : (assignEach [tg] X.env).map (·.2) = [assign tg X.env] := by rfl) : PS X (.Assign [tg] e pos) (tAsg te g) := by
  intro pins s σ H D I h
  refine wpAny_Assign_stores (thn (he pins s σ H _ I h) fun v s1 ⟨x, H1, I1, r1, q1⟩ => ?_) hs hw
  rw [h1]
  exact thn (hg pins s1 σ H1 x v _ I1 r1 q1) fun _ s2 q => q
/-- name = value -/
theorem ps_set {i : Nat} {x : Str} {e : Expr} {te : TE} {pos' : Pos} (hN : X.N.Nodup) (hi : X.N[i]? = some x) (hx : Loc X.env.scope x) (he : PE X e te) (hs : swapsWith e (some (.Name x pos')) pos.line X.env = pure false := by rfl) (hf : X.fn x = true ∨ X.env.scope.names.lookup x = some .local := by first | exact .inl rfl | exact .inr rfl | assumption) :
    PS X (.Assign [.Name x pos'] e pos) (tAsg te (gName i)) := by
  intro pins s σ H D I h
  refine wpAny_Assign_Name (thn (he pins s σ H _ I h) fun v s1 ⟨y, H1, I1, r1, q1⟩ => ?_) hs
  exact store_ok I1 hN hi hx r1 (fun s2 I2 => ⟨_, H1, I2, q1⟩) hf
/-- a, b = x, y with plain local names: stored from the right; the pair itself is not tracked (the opening rows as in PyProof/Rows/TupAssign.lean:23) -/
def tPar (i j : Nat) (ta : TA) : TS := fun D σ H => ta σ H fun vs H1 => ∃ v w, vs = [v, w] ∧ D.nx ((σ.set i (some v)).set j (some w)) H1
theorem ps_par {i j : Nat} {x y : Str} {a b : Expr} {ta : TA} {px py pt : Pos} {kt k2 pt2} (hc : X.calm = true) (hN : X.N.Nodup) (hi : X.N[i]? = some x) (hj : X.N[j]? = some y) (hij : i ≠ j)
    (hx : X.env.scope.names.lookup x = some .local) (hy : X.env.scope.names.lookup y = some .local) (ha : PA X [a, b] ta)
    (hw : swappedStores [.Tuple [.Name x px, .Name y py] kt pt] (.Tuple [a, b] k2 pt2) X.env = pure (some [x, y]))
    (hs : swapsWithSole [.Tuple [.Name x px, .Name y py] kt pt] (.Tuple [a, b] k2 pt2) pos.line X.env = pure false := by rfl) :
    PS X (.Assign [.Tuple [.Name x px, .Name y py] kt pt] (.Tuple [a, b] k2 pt2) pos) (tPar i j ta) := by
  intro pins s σ H D I h
  rw [exec_Assign_arm]
  refine wpAny_bind (wpAny_standAt ?_)
  rw [hs]
  refine wpAny_bind (wpAny_pure ?_)
  rw [if_neg (by decide)]
  refine wpAny_bind (Tuple_ (thn (ha _ pins s σ H _ I h) fun us s1 ⟨vs, H1, I1, r1, q1⟩ => ?_))
  obtain ⟨v, w, e1, q1⟩ := q1
  subst e1
  obtain ⟨u1, u2, rfl, rv, rw'⟩ : ∃ u1 u2, us = [u1, u2] ∧ RelV v u1 ∧ RelV w u2 := by
    cases r1 with
    | cons p q =>
      cases q with
      | cons p' q' =>
        cases q'
        exact ⟨_, _, rfl, p, p'⟩
  refine wpAny_newObj_type ?_ (by show 2 ≤ sizeLine; decide)
  have I2 : Inv X pins σ H1 { s1 with heap := s1.heap.push { cls := .type "tuple", data := .seq [u1, u2].toArray } } := I1.kept (t' := s1.toks) fun b o e => Heap.get?_push_of_some _ e
  rw [hw]
  refine wpAny_bind (wpAny_pure ?_)
  show wpAny (model X.prog X.w) X.A (do rule "assign.swapped-stores"; let items ← unpackItems (.ref s1.heap.objs.size) 2 none; assignInOrder [fun v => bindName X.env y v, fun v => bindName X.env x v] items.reverse; pure Flow.next) _ _ _
  refine wpAny_bind (wpAny_rule (wpAny_bind (unpackItems_tuple (items := #[u1, u2]) (I.ok.hd hc) (IsTup.new s1.heap _) fun h' hx' => ?_)))
  have I3 := I2.kept (h' := h') (t' := s1.toks) fun b o e => hx' b o (Nat.ne_of_lt (Heap.lt_size e)) e
  show wpAny _ _ (assignInOrder [fun v => bindName X.env y v, fun v => bindName X.env x v] [u2, u1] >>= fun _ => pure Flow.next) _ _ _
  refine wpAny_bind (assignInOrder_cons (wpAny_bindName (store_ok I3 hN hj (.inl hy) rw' (fun s2 I4 => ?_) (.inr hy))))
  refine assignInOrder_cons (wpAny_bindName (store_ok I4 hN hi (.inl hx) rv (fun s3 I5 => assignInOrder_nil (wpAny_pure ?_)) (.inr hx)))
  rw [List.set_comm _ _ (Ne.symm hij)] at I5
  exact ⟨_, H1, I5, q1⟩
/-- name op= e -/
def tAug (i : Nat) (te : TE) (ti : TIp) : TS := fun D σ H => ∃ x, σ[i]? = some (some x) ∧ te σ H fun y H1 => ti x y H1 fun z H2 => D.nx (σ.set i (some z)) H2
theorem ps_aug {i : Nat} {x : Str} {e : Expr} {te : TE} {op : Operator} {ti : TIp} {pos' : Pos} (hN : X.N.Nodup) (hi : X.N[i]? = some x) (hx : Loc X.env.scope x) (he : PE X e te) (ho : PIp X op ti) (hf : X.fn x = true ∨ X.env.scope.names.lookup x = some .local := by first | exact .inl rfl | exact .inr rfl | assumption) :
    PS X (.AugAssign (.Name x pos') op e pos) (tAug i te ti) := by
  intro pins s σ H D I h
  obtain ⟨v, e1, h⟩ := h
  obtain ⟨m, hn, hl⟩ := I.loc
  have vis : Vis X.env.scope x := by rcases hx with k | k; exact .inl k; exact .inr (.inl k)
  obtain ⟨u, r, l⟩ := hl i x v hi e1 vis
  refine wpAny_AugAssign_Name ?_
  have go : wpAny (model X.prog X.w) X.A (eval e X.env) (fun w s₂ => wpAny (model X.prog X.w) X.A (inplaceOp op u w) (fun r s₃ => wpAny (model X.prog X.w) X.A (storeName X.env x r) (fun _ => SP X pins D .next) X.xe s₃) X.xe s₂) X.xe s := by
    refine thn (he pins s σ H _ I h) fun w s1 ⟨y, H1, I1, r1, q1⟩ => ?_
    refine thn (ho pins s1 σ H1 v y u w _ I1 r r1 q1) fun z s2 ⟨zv, H2, I2, r2, q2⟩ => ?_
    exact store_ok I2 hN hi hx r2 (fun s3 I3 => ⟨_, H2, I3, q2⟩) hf
  rcases l with ⟨hk, hm⟩ | ⟨hk, c, hc, hcell⟩
  · exact wpAny_loadName_local I.ok.kind hk hn hm go
  · rcases hk with hk | hk
    · exact wpAny_loadName_cell I.ok.kind hk hc hcell go
    · rcases hx with k | k
      · have : X.env.scope.names.lookup x = some .free := hk
        rw [k] at this; cases this
      · have : X.env.scope.names.lookup x = some .free := hk
        rw [k] at this; cases this
/-- o[i] op= e -/
def tAugS (to ti te : TE) (tget : V → V → Hp → VK → Prop) (tip : TIp) (tset : TSet) : TS := fun D σ H => to σ H fun o H1 => ti σ H1 fun i H2 => tget o i H2 fun x H3 => te σ H3 fun y H4 => tip x y H4 fun z H5 => tset o i z H5 fun H6 => D.nx σ H6
/-- o[i], by values -/
def PGet (X : Cx) (t : V → V → Hp → VK → Prop) : Prop :=
  ∀ (pins : List (Addr × Obj)) (s : Shared) (σ : St) (H : Hp) (o i : V) (ov iv : Value) (Q : VK), Inv X pins σ H s → RelV o ov → RelV i iv → t o i H Q →
    wpAny (model X.prog X.w) X.A (getItem ov iv) (EP X pins σ Q) X.xe s
theorem ps_augS {o i e : Expr} {to ti te : TE} {tget : V → V → Hp → VK → Prop} {tip : TIp} {tset : TSet} {op : Operator} {tpos : Pos} (ho : PE X o to) (hi : PE X i ti) (hg : PGet X tget) (he : PE X e te) (hp : PIp X op tip) (hs : PSet X tset)
    (ha : ∀ ov iv new, augStore i ov iv new = (do holding [new, ov, iv] (setItem ov iv new); release [new, ov, iv] []; pure .next) := by intros; rfl) : PS X (.AugAssign (.Subscript o i tpos) op e pos) (tAugS to ti te tget tip tset) := by
  intro pins s σ H D I h
  refine wpAny_AugAssign_SubscriptAny (thn (ho pins s σ H _ I h) fun ov s1 ⟨x1, H1, I1, r1, q1⟩ => ?_) ha
  refine thn (hi pins s1 σ H1 _ I1 q1) fun iv s2 ⟨x2, H2, I2, r2, q2⟩ => ?_
  refine thn (hg pins s2 σ H2 x1 x2 ov iv _ I2 r1 r2 q2) fun old s3 ⟨x3, H3, I3, r3, q3⟩ => ?_
  refine thn (he pins s3 σ H3 _ I3 q3) fun v s4 ⟨x4, H4, I4, r4, q4⟩ => ?_
  refine thn (hp pins s4 σ H4 x3 x4 old v _ I4 r3 r4 q4) fun new s5 ⟨x5, H5, I5, r5, q5⟩ => ?_
  exact thn (hs pins s5 σ H5 x1 x2 x5 ov iv new _ I5 r1 r2 r5 q5) fun _ s6 ⟨H6, I6, q6⟩ => ⟨σ, H6, I6, q6⟩
/-- ints -/
def ipI (f : Int → Int → Int) : TIp := fun x y H Q => ∃ i j, x = .int i ∧ y = .int j ∧ Q (.int (f i j)) H
theorem ip_add : PIp X .Add (ipI fun i j => i + j) := by
  intro pins s σ H x y v u Q I r1 r2 h
  obtain ⟨i, j, e1, e2, q⟩ := h
  subst e1; subst e2
  obtain ⟨t, rfl⟩ := r1
  obtain ⟨t', rfl⟩ := r2
  exact iadd_int ⟨.int _, H, I.tok _, ⟨_, rfl⟩, q⟩
theorem ip_sub : PIp X .Sub (ipI fun i j => i - j) := by
  intro pins s σ H x y v u Q I r1 r2 h
  obtain ⟨i, j, e1, e2, q⟩ := h
  subst e1; subst e2
  obtain ⟨t, rfl⟩ := r1
  obtain ⟨t', rfl⟩ := r2
  exact isub_int ⟨.int _, H, I.tok _, ⟨_, rfl⟩, q⟩
end

/-! ### while -/
section
variable {X : Cx} {pos : Pos}
/-- the invariant W with its measure -/
def tWhile (c : TT) (tb : TS) : TS := fun D σ H => ∃ W : Nat → St → Hp → Prop, (∃ m, W m σ H) ∧ ∀ m σ H, W m σ H →
  c σ H fun b H1 => if b = true then ∃ N : St → Hp → Prop, (∀ σ' H', N σ' H' → ∃ m', m' < m ∧ W m' σ' H') ∧ tb { D with nx := N, ct := N, bk := D.nx } σ H1 else D.nx σ H1
theorem ps_while {c : Expr} {body : List Stmt} {tc : TT} {tb : TS} (hp : PassesOwn (model X.prog X.w) X.A X.env X.xe) (hc : PT X c tc) (hb : PSs X body tb) : PS X (.While c body [] pos) (tWhile tc tb) := by
  intro pins s σ H D I h
  obtain ⟨W, ⟨m0, w0⟩, turn⟩ := h
  refine wpAny_While (codeAny_whileLoop (fun n s' => ∃ σ' H', Inv X pins σ' H' s' ∧ W n σ' H') ?_ m0 ⟨σ, H, I, w0⟩)
  rintro n s1 ⟨σ1, H1, I1, w1⟩
  refine wpAny_passesOwn hp (thn (hc pins s1 σ1 H1 _ I1 (turn n σ1 H1 w1)) fun b s2 ⟨H2, I2, q2⟩ => ?_)
  cases b with
  | true =>
    obtain ⟨N, hN, q2⟩ := q2
    rw [if_pos rfl]
    refine wpAny_passesOwn hp (thn (hb pins s2 σ1 H2 _ I2 q2) fun f s3 q3 => ?_)
    cases f with
    | next =>
      obtain ⟨σ3, H3, I3, n3⟩ := q3
      obtain ⟨m', hm, w3⟩ := hN σ3 H3 n3
      exact ⟨m', hm, σ3, H3, I3, w3⟩
    | cont =>
      obtain ⟨σ3, H3, I3, n3⟩ := q3
      obtain ⟨m', hm, w3⟩ := hN σ3 H3 n3
      exact ⟨m', hm, σ3, H3, I3, w3⟩
    | brk => exact q3
    | ret v => exact q3
  | false =>
    rw [if_neg Bool.false_ne_true]
    exact wpAny_execs_nil ⟨σ1, H2, I2, q2⟩
end

/-! ### what a loop or a comprehension walks -/
/-- at turn i: it yields x (the heap may grow), or it stops -/
structure It where
  go : Nat → Hp → Prop
  yld : Nat → Hp → V → Hp → Prop
  stop : Nat → Hp → Prop
/-- the iterator's own objects may turn: they are not the frame's, not pinned, younger than the entry (or a comprehension's own) -/
def FpOk (X : Cx) (pins : List (Addr × Obj)) (H : Hp) (b : Addr) : Prop :=
  H b = none ∧ b ≠ X.env.locals ∧ b ∉ X.fs ∧ (b ∈ X.ex ∨ X.s₀.heap.objs.size ≤ b) ∧ (∀ x c, X.env.cells.lookup x = some c → c ≠ b) ∧ ∀ p ∈ X.pn ++ pins, p.1 ≠ b
theorem Inv.fpOk {X : Cx} {pins : List (Addr × Obj)} {σ : St} {H H' : Hp} {s : Shared} {b : Addr} (I : Inv X pins σ H s) (hb : s.heap.objs.size ≤ b) (hn : H' b = none) : FpOk X pins H' b := by
  refine ⟨hn, Nat.ne_of_gt (Nat.lt_of_lt_of_le I.lt hb), I.nofs hb, .inr (Nat.le_trans I.sz hb), fun x c e z => ?_, fun p hp z => ?_⟩
  · obtain ⟨v, q⟩ := I.cell x c e
    exact absurd (Nat.lt_of_lt_of_le q.lt (by rw [z]; exact hb)) (Nat.lt_irrefl _)
  · exact absurd (Nat.lt_of_lt_of_le (Heap.lt_size (I.pin p hp).1) (by rw [z]; exact hb)) (Nat.lt_irrefl _)
structure Turn (P : Program) (w : World) (K : PySem.W.Frag) (tg : Expr) (J : It) (fp : List Addr) (it : Addr) (tn : Nat → Heap → Prop) : Prop where
  mem : it ∈ fp
  obj : ∀ i h, tn i h → ∀ b ∈ fp, ∃ o, h.get? b = some o ∧ ∀ v, o.data ≠ .cell v
  keep : ∀ i h h', tn i h → (∀ b ∈ fp, ∀ o, h.get? b = some o → h'.get? b = some o) → tn i h'
  item : ∀ (X : Cx), X.prog = P → X.w = w → X.K = K → X.calm = true → ∀ (i : Nat) (pins : List (Addr × Obj)) (s : Shared) (σ : St) (H : Hp) (E : Value → Shared → Prop), Inv X pins σ H s → (∀ b ∈ fp, FpOk X pins H b) → tn i s.heap → J.go i H →
    wpAny (model P w) X.A (pyNext (.ref it)) (fun r s1 => ∃ u, r = some u ∧
      wpAny (model P w) X.A (letOwnedTupleGo tg (.ref it) u) (fun _ s2 => ∃ x H', Inv X pins σ H' s2 ∧ RelV x u ∧ J.yld i H x H' ∧ tn (i + 1) s2.heap ∧ ∀ b ∈ fp, H' b = none) E s1) E s
  done : ∀ (X : Cx), X.prog = P → X.w = w → X.K = K → X.calm = true → ∀ (i : Nat) (pins : List (Addr × Obj)) (s : Shared) (σ : St) (H : Hp) (E : Value → Shared → Prop), Inv X pins σ H s → (∀ b ∈ fp, FpOk X pins H b) → tn i s.heap → J.stop i H →
    wpAny (model P w) X.A (pyNext (.ref it)) (fun r s1 => r = none ∧ Inv X pins σ H s1) E s
  self : ∀ (A : Around) (i : Nat) (s : Shared) (Q : Value → Shared → Prop) (E : Value → Shared → Prop), tn i s.heap → Q (.ref it) s → wpAny (model P w) A (pyIter (.ref it)) Q E s
abbrev TI := St → Hp → (It → Hp → Prop) → Prop
/-- an iterator has come -/
def PIE (X : Cx) (pins : List (Addr × Obj)) (σ : St) (tg : Expr) (R : It → Hp → Prop) (itv : Value) (s2 : Shared) : Prop :=
  ∃ (it : Addr) (fp : List Addr) (tn : Nat → Heap → Prop) (J : It) (H' : Hp), itv = .ref it ∧ Inv X pins σ H' s2 ∧ Turn X.prog X.w X.K tg J fp it tn ∧ tn 0 s2.heap ∧ (∀ b ∈ fp, FpOk X pins H' b) ∧ R J H'
def PI (X : Cx) (tg iter : Expr) (wi : TI) : Prop :=
  ∀ (pins : List (Addr × Obj)) (s : Shared) (σ : St) (H : Hp) (R : It → Hp → Prop), Inv X pins σ H s → wi σ H R →
    wpAny (model X.prog X.w) X.A (eval iter X.env) (fun v s1 => wpAny (model X.prog X.w) X.A (pyIter v) (PIE X pins σ tg R) X.xe s1) X.xe s

/-- the step ahead of the store is nothing for an iterator that keeps no tuple -/
theorem go_of {M : Model} {A : Around} {E : Value → Shared → Prop} {s : Shared} {tg : Expr} {it : Addr} {u : Value} {o : Obj} {n : String} {vs : Array Value} {Q : Unit → Shared → Prop} (ho : s.heap.get? it = some o) (hc : o.cls = .type n) (hd : o.data = .fields vs)
    (hn : ["enumerate", "zip", "dict_itemiterator", "dict_reverseitemiterator", "odict_iterator", "itertools.zip_longest", "itertools.pairwise"].contains n = false) (hQ : Q () s) : wpAny M A (letOwnedTupleGo tg (.ref it) u) Q E s := by
  unfold letOwnedTupleGo
  cases tg <;> first
    | exact wpAny_pure hQ
    | (cases u <;> first
        | exact wpAny_pure hQ
        | (refine wpAny_bind (wpAny_load ho ?_)
           rw [hc, hd]
           show wpAny M A (if (["enumerate", "zip", "dict_itemiterator", "dict_reverseitemiterator", "odict_iterator", "itertools.zip_longest", "itertools.pairwise"].contains n && vs[0]? == some (rawInt _)) = true then _ else _) Q E s
           rw [if_neg (by intro h; rw [hn, Bool.false_and] at h; cases h)]
           exact wpAny_pure hQ))

/-- the list at a, as it stands at each turn (a loop may append to it) -/
def Itl (K : PySem.W.Frag) (a : Addr) : It :=
  ⟨fun i H => ∃ xs x, SqL K H a xs ∧ xs[i]? = some x, fun i H x H' => H' = H ∧ ∀ xs, SqL K H a xs → xs[i]? = some x, fun i H => ∃ xs, SqL K H a xs ∧ xs.length ≤ i⟩
def Itt (K : PySem.W.Frag) (a : Addr) : It :=
  ⟨fun i H => ∃ xs x, SqT K H a xs ∧ xs[i]? = some x, fun i H x H' => H' = H ∧ ∀ xs, SqT K H a xs → xs[i]? = some x, fun i H => ∃ xs, SqT K H a xs ∧ xs.length ≤ i⟩
/-- lo, lo + 1, .. (n of them) -/
def Itr (lo : Int) (n : Nat) : It := ⟨fun i _ => i < n, fun i H x H' => H' = H ∧ x = .int (lo + i), fun i _ => n ≤ i⟩
theorem turn_list {P : Program} {w : World} {K : PySem.W.Frag} {tg : Expr} (a it : Addr) : Turn P w K tg (Itl K a) [it] it (fun i h => h.IsListIter it a i) where
  mem := by simp
  obj := fun i h st b hb => by
    have e : b = it := by simpa using hb
    subst e
    obtain ⟨o, e, c, d⟩ := st
    exact ⟨o, e, fun v z => by rw [d] at z; cases z⟩
  keep := fun i h h' st k => st.at fun o e => k it (by simp) o e
  item := by
    intro X hP hw hK hc i pins s σ H E I hf st hg
    subst hP hw hK
    obtain ⟨xs, x, hq, hx⟩ := hg
    obtain ⟨its, rv, p, hz⟩ := I.list hq
    obtain ⟨u, hu, ru⟩ := rv.get hx
    obtain ⟨f0, f1, f2, f3, f4, f5⟩ := hf it (by simp)
    refine wpAny_pyNext_list_item st p.isList (x := u) (by simpa using hu) fun h' st' sb => ?_
    have I1 : Inv X pins σ H { s with heap := h' } := I.turned (t' := s.toks) (fun b o hb e => (sb.2 b hb).trans e) f0 f1 f3 f4 f5
    obtain ⟨o, e, c, d⟩ := id st'
    exact ⟨u, rfl, go_of (s := { s with heap := h' }) e c d (by decide) ⟨x, H, I1, ru, ⟨rfl, fun ys hy => by rw [I.list_inj hy hq]; exact hx⟩, st', fun b hb => (hf b hb).1⟩⟩
  done := by
    intro X hP hw hK hc i pins s σ H E I hf st hg
    subst hP hw hK
    obtain ⟨xs, hq, hx⟩ := hg
    obtain ⟨its, rv, p, hz⟩ := I.list hq
    obtain ⟨f0, f1, f2, f3, f4, f5⟩ := hf it (by simp)
    have hl := rv.length
    exact wpAny_pyNext_list_end (I.ok.hd hc) st p.isList (by simp; omega) fun h' eb => ⟨rfl, I.turned (t' := s.toks) (fun b o hb e => eb b o hb e) f0 f1 f3 f4 f5⟩
  self := fun _ _ _ _ _ st h => wpAny_pyIter_listiter st h
theorem turn_tuple {P : Program} {w : World} {K : PySem.W.Frag} {tg : Expr} (a it : Addr) : Turn P w K tg (Itt K a) [it] it (fun i h => h.IsTupleIter it a i) where
  mem := by simp
  obj := fun i h st b hb => by
    have e : b = it := by simpa using hb
    subst e
    obtain ⟨o, e, c, d⟩ := st
    exact ⟨o, e, fun v z => by rw [d] at z; cases z⟩
  keep := fun i h h' st k => st.at fun o e => k it (by simp) o e
  item := by
    intro X hP hw hK hc i pins s σ H E I hf st hg
    subst hP hw hK
    obtain ⟨xs, x, hq, hx⟩ := hg
    obtain ⟨its, rv, p, hz⟩ := I.tuple hq
    obtain ⟨u, hu, ru⟩ := rv.get hx
    obtain ⟨f0, f1, f2, f3, f4, f5⟩ := hf it (by simp)
    refine wpAny_pyNext_tuple_item st (show s.heap.IsTuple a its.toArray from p) (x := u) (by simpa using hu) fun h' st' sb => ?_
    have I1 : Inv X pins σ H { s with heap := h' } := I.turned (t' := s.toks) (fun b o hb e => (sb.2 b hb).trans e) f0 f1 f3 f4 f5
    obtain ⟨o, e, c, d⟩ := id st'
    exact ⟨u, rfl, go_of (s := { s with heap := h' }) e c d (by decide) ⟨x, H, I1, ru, ⟨rfl, fun ys hy => by rw [I.tuple_inj hy hq]; exact hx⟩, st', fun b hb => (hf b hb).1⟩⟩
  done := by
    intro X hP hw hK hc i pins s σ H E I hf st hg
    subst hP hw hK
    obtain ⟨xs, hq, hx⟩ := hg
    obtain ⟨its, rv, p, hz⟩ := I.tuple hq
    obtain ⟨f0, f1, f2, f3, f4, f5⟩ := hf it (by simp)
    have hl := rv.length
    exact wpAny_pyNext_tuple_end (I.ok.hd hc) st (show s.heap.IsTuple a its.toArray from p) (by simp; omega) fun h' eb => ⟨rfl, I.turned (t' := s.toks) (fun b o hb e => eb b o hb e) f0 f1 f3 f4 f5⟩
  self := fun _ _ _ _ _ st h => wpAny_pyIter_tupleiter st h
theorem turn_range {P : Program} {w : World} {K : PySem.W.Frag} {tg : Expr} (it : Addr) (lo : Int) (n : Nat) : Turn P w K tg (Itr lo n) [it] it (fun i h => IsRangeIter h it (lo + (i : Nat) * 1) ((n : Int) - (i : Nat)) 1) where
  mem := by simp
  obj := fun i h st b hb => by
    have e : b = it := by simpa using hb
    subst e
    exact ⟨_, st, fun v z => by
      have z' : Data.fields _ = Data.cell v := z
      cases z'⟩
  keep := fun i h h' st k => k it (by simp) _ st
  item := by
    intro X hP hw hK hc i pins s σ H E I hf st hg
    subst hP hw hK
    obtain ⟨f0, f1, f2, f3, f4, f5⟩ := hf it (by simp)
    have W := Walks.range (prog := X.prog) (w := X.w) (I.ok.hd hc) it lo 1 n
    refine W.item i s _ _ hg st fun v h' tk hv st' kk => ?_
    obtain ⟨t, rfl⟩ := hv
    have I1 : Inv X pins σ H { s with heap := h', toks := tk } := I.turned (fun b o hb e => kk b o (by simpa using hb) e) f0 f1 f3 f4 f5
    refine ⟨_, rfl, go_of (s := { s with heap := h', toks := tk }) (n := "range_iterator") st' rfl rfl (by decide) ⟨.int (lo + i), H, I1, ⟨t, ?_⟩, ⟨rfl, rfl⟩, st', fun b hb => (hf b hb).1⟩⟩
    rw [Int.mul_one]
  done := by
    intro X hP hw hK hc i pins s σ H E I hf st hg
    subst hP hw hK
    obtain ⟨f0, f1, f2, f3, f4, f5⟩ := hf it (by simp)
    exact wpAny_pyNext_range_end (I.ok.hd hc) st (by have : n ≤ i := hg; omega) fun h' eb => ⟨rfl, I.turned (t' := s.toks) (fun b o hb e => eb b o hb e) f0 f1 f3 f4 f5⟩
  self := fun _ _ _ _ _ st h => wpAny_pyIter_rangeiter st h
end L2

namespace L2
open PySem PySem.Spec PyProof.Rows
section
variable {X : Cx} {tg : Expr}
def iList (K : PySem.W.Frag) (tl : TE) : TI := fun σ H R => tl σ H fun x H1 => ∃ a, x = .ref a ∧ (∃ xs, SqL K H1 a xs) ∧ R (Itl K a) H1
def iTup (K : PySem.W.Frag) (tl : TE) : TI := fun σ H R => tl σ H fun x H1 => ∃ a, x = .ref a ∧ (∃ xs, SqT K H1 a xs) ∧ R (Itt K a) H1
theorem pi_list {l : Expr} {tl : TE} (hl : PE X l tl) : PI X tg l (iList X.K tl) := by
  intro pins s σ H R I h
  refine thn (hl pins s σ H _ I h) fun v s1 ⟨x, H1, I1, r1, q1⟩ => ?_
  obtain ⟨a, e, ⟨xs, hq⟩, q⟩ := q1
  subst e
  cases r1
  obtain ⟨its, rv, p, hz⟩ := I1.list hq
  refine wpAny_pyIter_list p.isList ?_
  refine ⟨s1.heap.objs.size, [s1.heap.objs.size], _, _, H1, rfl, I1.kept (t' := s1.toks) fun b o e => Heap.get?_push_of_some _ e, turn_list a _, ⟨_, Heap.get?_push_size _ rfl, rfl, rfl⟩, fun b hb => ?_, q⟩
  have e : b = s1.heap.objs.size := by simpa using hb
  subst e
  exact I1.fpOk (Nat.le_refl _) (I1.hok.fresh (Nat.le_refl _))
theorem pi_tup {l : Expr} {tl : TE} (hl : PE X l tl) : PI X tg l (iTup X.K tl) := by
  intro pins s σ H R I h
  refine thn (hl pins s σ H _ I h) fun v s1 ⟨x, H1, I1, r1, q1⟩ => ?_
  obtain ⟨a, e, ⟨xs, hq⟩, q⟩ := q1
  subst e
  cases r1
  obtain ⟨its, rv, p, hz⟩ := I1.tuple hq
  refine wpAny_pyIter_tuple (show s1.heap.IsTuple a its.toArray from p) ?_
  refine ⟨s1.heap.objs.size, [s1.heap.objs.size], _, _, H1, rfl, I1.kept (t' := s1.toks) fun b o e => Heap.get?_push_of_some _ e, turn_tuple a _, ⟨_, Heap.get?_push_size _ rfl, rfl, rfl⟩, fun b hb => ?_, q⟩
  have e : b = s1.heap.objs.size := by simpa using hb
  subst e
  exact I1.fpOk (Nat.le_refl _) (I1.hok.fresh (Nat.le_refl _))
/-- a range object just made, walked -/
theorem range_it {pins : List (Addr × Obj)} {σ : St} {H : Hp} {s : Shared} {R : It → Hp → Prop} {E : Value → Shared → Prop} {lo hi : Int} {t u v : Tok} {tk : Nat} (I : Inv X pins σ H s) (h1 : -(2 ^ 62) ≤ lo) (h2 : lo < 2 ^ 62) (h3 : -(2 ^ 62) ≤ hi) (h4 : hi < 2 ^ 62)
    (q : R (Itr lo (hi - lo).toNat) H) : wpAny (model X.prog X.w) X.A (pyIter (.ref s.heap.objs.size)) (PIE X pins σ tg R) E { s with heap := s.heap.push { cls := .type "range", data := .fields #[.int lo t, .int hi u, .int 1 v] }, toks := tk } := by
  refine wpAny_pyIter_range (IsRange.new ..) (small_one h1 h2 h3 h4) ?_
  have I1 : Inv X pins σ H { s with heap := s.heap.push { cls := .type "range", data := .fields #[.int lo t, .int hi u, .int 1 v] }, toks := tk } := I.kept fun b o e => Heap.get?_push_of_some _ e
  refine ⟨(s.heap.push { cls := .type "range", data := .fields #[.int lo t, .int hi u, .int 1 v] }).objs.size, [(s.heap.push { cls := .type "range", data := .fields #[.int lo t, .int hi u, .int 1 v] }).objs.size], _, _, H, rfl,
    I1.kept (t' := tk) fun b o e => Heap.get?_push_of_some _ e, turn_range _ lo (hi - lo).toNat, ?_, fun b hb => ?_, q⟩
  · have e1 : lo + ((0 : Nat) : Int) * 1 = lo := by simp
    have e2 : (((hi - lo).toNat : Nat) : Int) - ((0 : Nat) : Int) = Builtin.Range.rangeSize lo hi 1 := by rw [rangeSize_one]; split <;> omega
    show IsRangeIter _ _ (lo + ((0 : Nat) : Int) * 1) ((((hi - lo).toNat : Nat) : Int) - ((0 : Nat) : Int)) 1
    rw [e1, e2]
    exact Heap.get?_push_size _ rfl
  · have e : b = (s.heap.push { cls := .type "range", data := .fields #[.int lo t, .int hi u, .int 1 v] }).objs.size := by simpa using hb
    subst e
    exact I1.fpOk (Nat.le_refl _) (I1.hok.fresh (Nat.le_refl _))
def iRng1 (ta : TA) : TI := fun σ H R => ta σ H fun vs H1 => ∃ j : Int, vs = [.int j] ∧ -(2 ^ 62) ≤ j ∧ j < 2 ^ 62 ∧ R (Itr 0 j.toNat) H1
def iRng2 (ta : TA) : TI := fun σ H R => ta σ H fun vs H1 => ∃ i j : Int, vs = [.int i, .int j] ∧ (-(2 ^ 62) ≤ i ∧ i < 2 ^ 62 ∧ -(2 ^ 62) ≤ j ∧ j < 2 ^ 62) ∧ R (Itr i (j - i).toNat) H1
theorem pi_range1 {a : Expr} {ta : TA} {p pos : Pos} (hg : Gl X "range") (hm : X.mg "range" = none) (ha : PA X [a] ta) (hs : starEach [a] X.env = [(false, eval a X.env)] := by rfl) : PI X tg (.Call (.Name "range" p) [a] [] pos) (iRng1 ta) := by
  intro pins s σ H R I h
  refine Call_ (ld_blt I hg hm boot_range (PyProof.Rows.callWith_type1 (thn (ha pos pins s σ H _ I h) fun us s1 ⟨vs, H1, I1, r1, q1⟩ => ?_) hs rfl))
  obtain ⟨j, e, q1, q2, q⟩ := q1
  subst e
  cases r1 with
  | cons r rr =>
    cases rr
    obtain ⟨t, rfl⟩ := r
    exact call_range_1 (range_it I1 (by omega) (by omega) q1 q2 (by simpa using q))
theorem pi_range2 {a b : Expr} {ta : TA} {p pos : Pos} (hg : Gl X "range") (hm : X.mg "range" = none) (ha : PA X [a, b] ta) (hs : starEach [a, b] X.env = [(false, eval a X.env), (false, eval b X.env)] := by rfl) (hs2 : starEach [b] X.env = [(false, eval b X.env)] := by rfl) :
    PI X tg (.Call (.Name "range" p) [a, b] [] pos) (iRng2 ta) := by
  intro pins s σ H R I h
  refine Call_ (ld_blt I hg hm boot_range (PyProof.Rows.callWith_type1 (thn (ha pos pins s σ H _ I h) fun us s1 ⟨vs, H1, I1, r1, q1⟩ => ?_) (by rw [hs, hs2]) (by rw [hs2]; rfl)))
  obtain ⟨i, j, e, ⟨q1, q2, q3, q4⟩, q⟩ := q1
  subst e
  cases r1 with
  | cons r rr =>
    cases rr with
    | cons r' rr =>
      cases rr
      obtain ⟨t, rfl⟩ := r
      obtain ⟨t', rfl⟩ := r'
      exact call_range_2 (range_it I1 q1 q2 q3 q4 q)

/-! ### for -/
/-- W: the invariant by the turn and a measure; N: what the body is to reach -/
def tFor (wi : TI) (g : TG) (tb : TS) : TS := fun D σ H => wi σ H fun J H1 => ∃ W : Nat → Nat → St → Hp → Prop, (∃ m, W 0 m σ H1) ∧ ∀ i m σ H, W i m σ H →
  (J.stop i H ∧ D.nx σ H) ∨ (J.go i H ∧ ∃ N : St → Hp → Prop, (∀ σ' H', N σ' H' → ∃ m', m' < m ∧ W (i + 1) m' σ' H') ∧ ∀ x H', J.yld i H x H' → g x σ H' fun σ2 H2 => tb { D with nx := N, ct := N, bk := D.nx } σ2 H2)
/-- the records at fp as they stand -/
def pinsAt (fp : List Addr) (h : Heap) : List (Addr × Obj) := fp.filterMap fun b => (h.get? b).map fun o => (b, o)
theorem mem_pinsAt {fp : List Addr} {h : Heap} {b : Addr} {o : Obj} (hb : b ∈ fp) (e : h.get? b = some o) : (b, o) ∈ pinsAt fp h := List.mem_filterMap.mpr ⟨b, hb, by rw [e]; rfl⟩
theorem of_pinsAt {fp : List Addr} {h : Heap} {p : Addr × Obj} (hp : p ∈ pinsAt fp h) : p.1 ∈ fp ∧ h.get? p.1 = some p.2 := by
  obtain ⟨b, hb, e⟩ := List.mem_filterMap.mp hp
  cases q : h.get? b with
  | none => rw [q] at e; cases e
  | some o =>
    rw [q] at e
    have e' : (b, o) = p := Option.some.inj e
    subst e'
    exact ⟨hb, q⟩
theorem Inv.pinned {pins : List (Addr × Obj)} {σ : St} {H : Hp} {s : Shared} {fp : List Addr} (I : Inv X pins σ H s) (hf : ∀ b ∈ fp, FpOk X pins H b) (ho : ∀ b ∈ fp, ∃ o, s.heap.get? b = some o ∧ ∀ v, o.data ≠ .cell v) : Inv X (pins ++ pinsAt fp s.heap) σ H s :=
  I.pins_of fun p hp => (List.mem_append.mp hp).elim (fun z => I.pin p (List.mem_append_right _ z)) fun z => by
    obtain ⟨hb, e⟩ := of_pinsAt z
    obtain ⟨f0, f1, f2, _⟩ := hf p.1 hb
    obtain ⟨o, e', d⟩ := ho p.1 hb
    rw [e] at e'; cases e'
    exact ⟨e, f0, f1, f2, d⟩
theorem Inv.unpinned {pins pl : List (Addr × Obj)} {σ : St} {H : Hp} {s : Shared} (I : Inv X (pins ++ pl) σ H s) : Inv X pins σ H s := I.pins_of fun p hp => I.pin p (List.mem_append_right _ (List.mem_append_left _ hp))
theorem ps_for {iter : Expr} {body : List Stmt} {wi : TI} {g : TG} {tb : TS} {pos : Pos} (hp : PassesOwn (model X.prog X.w) X.A X.env X.xe) (hc : X.calm = true) (hi : PI X tg iter wi) (hg : PG X tg g) (hb : PSs X body tb)
    (hs : ∀ x, foldedSetIterable iter X.env x = pure x := by intro _; rfl) : PS X (.For tg iter body [] pos) (tFor wi g tb) := by
  intro pins s σ H D I h
  refine wpAny_For (thn (hi pins s σ H _ I h) fun v s1 h1 => thn h1 fun itv s2 h2 => ?_) hs
  obtain ⟨it, fp, tn, J, H2, e, I2, T, st2, f2, W, ⟨m0, w0⟩, turn⟩ := h2
  subst e
  -- what stays true of the iterator's objects through the loop
  have stat : ∀ {H' : Hp}, (∀ b ∈ fp, H' b = none) → ∀ b ∈ fp, FpOk X pins H' b := fun hn b hb => ⟨hn b hb, (f2 b hb).2⟩
  refine codeAny_forLoop_any (fun n s' => ∃ i σ' H', Inv X pins σ' H' s' ∧ tn i s'.heap ∧ (∀ b ∈ fp, H' b = none) ∧ W i n σ' H') ?_ m0 ⟨0, σ, H2, I2, st2, fun b hb => (f2 b hb).1, w0⟩
  rintro n s3 ⟨i, σ3, H3, I3, st3, fr3, w3⟩
  rcases turn i n σ3 H3 w3 with ⟨stop, qn⟩ | ⟨go, N, hN, step⟩
  · refine wpAny_passesOwn hp (thn (T.done X rfl rfl rfl hc i pins s3 σ3 H3 X.xe I3 (stat fr3) st3 stop) fun r s4 ⟨hr, I4⟩ => ?_)
    subst hr
    exact wpAny_execs_nil ⟨σ3, H3, I4, qn⟩
  · refine wpAny_passesOwn hp (thn (T.item X rfl rfl rfl hc i pins s3 σ3 H3 X.xe I3 (stat fr3) st3 go) fun r s4 ⟨u, hr, h4⟩ => ?_)
    subst hr
    refine wpAny_passesOwn hp (thn h4 fun _ s5 ⟨x, H5, I5, r5, y5, st5, fr5⟩ => ?_)
    have I5' := I5.pinned (stat fr5) (T.obj _ _ st5)
    refine wpAny_passesOwn hp (thn (hg _ s5 σ3 H5 x u _ I5' r5 (step x H5 y5)) fun _ s6 ⟨σ6, H6, I6, q6⟩ => ?_)
    refine wpAny_passesOwn hp (thn (hb _ s6 σ6 H6 _ I6 q6) fun f s7 q7 => ?_)
    have again : ∀ {σ7 : St} {H7 : Hp}, Inv X (pins ++ pinsAt fp s5.heap) σ7 H7 s7 → N σ7 H7 → ∃ m, m < n ∧ ∃ i σ' H', Inv X pins σ' H' s7 ∧ tn i s7.heap ∧ (∀ b ∈ fp, H' b = none) ∧ W i m σ' H' := fun {σ7 H7} I7 n7 => by
      obtain ⟨m', hm, w7⟩ := hN σ7 H7 n7
      refine ⟨m', hm, i + 1, σ7, H7, I7.unpinned, T.keep _ _ _ st5 fun b hb o e => (I7.pin (b, o) (List.mem_append_right _ (List.mem_append_right _ (mem_pinsAt hb e)))).1, fun b hb => ?_, w7⟩
      obtain ⟨o, e, d⟩ := T.obj _ _ st5 b hb
      exact (I7.pin (b, o) (List.mem_append_right _ (List.mem_append_right _ (mem_pinsAt hb e)))).2.1
    cases f with
    | next => obtain ⟨σ7, H7, I7, n7⟩ := q7; exact again I7 n7
    | cont => obtain ⟨σ7, H7, I7, n7⟩ := q7; exact again I7 n7
    | brk => obtain ⟨σ7, H7, I7, q7⟩ := q7; exact ⟨σ7, H7, I7.unpinned, q7⟩
    | ret v => obtain ⟨x7, σ7, H7, I7, r7, q7⟩ := q7; exact ⟨x7, σ7, H7, I7.unpinned, r7, q7⟩
end

/-! ### the forms one uses -/
/-- over a list that the body leaves as it is -/
theorem for_list {K : PySem.W.Frag} {a : Addr} {xs : List V} {g : TG} {tb : TS} {D : Ends} {σ : St} {H : Hp} (Pv : Nat → St → Hp → Prop) (h0 : Pv 0 σ H) (hl : ∀ i σ H, i ≤ xs.length → Pv i σ H → SqL K H a xs)
    (hs : ∀ i x σ H, xs[i]? = some x → Pv i σ H → g x σ H fun σ2 H2 => tb { D with nx := Pv (i + 1), ct := Pv (i + 1), bk := D.nx } σ2 H2) (hd : ∀ σ H, Pv xs.length σ H → D.nx σ H) :
    ∃ W : Nat → Nat → St → Hp → Prop, (∃ m, W 0 m σ H) ∧ ∀ i m σ H, W i m σ H →
      ((Itl K a).stop i H ∧ D.nx σ H) ∨ ((Itl K a).go i H ∧ ∃ N : St → Hp → Prop, (∀ σ' H', N σ' H' → ∃ m', m' < m ∧ W (i + 1) m' σ' H') ∧ ∀ x H', (Itl K a).yld i H x H' → g x σ H' fun σ2 H2 => tb { D with nx := N, ct := N, bk := D.nx } σ2 H2) := by
  refine ⟨fun i m σ H => m = xs.length - i ∧ i ≤ xs.length ∧ Pv i σ H, ⟨xs.length, by simp, Nat.zero_le _, h0⟩, ?_⟩
  rintro i m σ H ⟨rfl, hi, p⟩
  have q := hl i σ H hi p
  by_cases hlt : i < xs.length
  · refine .inr ⟨⟨xs, xs[i], q, by simp [hlt]⟩, Pv (i + 1), fun σ' H' p' => ⟨xs.length - (i + 1), by omega, rfl, hlt, p'⟩, fun x H' y => ?_⟩
    obtain ⟨e, y⟩ := y
    subst e
    exact hs i x σ _ (y xs q) p
  · have e : i = xs.length := by omega
    subst e
    exact .inl ⟨⟨xs, q, Nat.le_refl _⟩, hd σ H p⟩
theorem for_tup {K : PySem.W.Frag} {a : Addr} {xs : List V} {g : TG} {tb : TS} {D : Ends} {σ : St} {H : Hp} (Pv : Nat → St → Hp → Prop) (h0 : Pv 0 σ H) (hl : ∀ i σ H, i ≤ xs.length → Pv i σ H → SqT K H a xs)
    (hs : ∀ i x σ H, xs[i]? = some x → Pv i σ H → g x σ H fun σ2 H2 => tb { D with nx := Pv (i + 1), ct := Pv (i + 1), bk := D.nx } σ2 H2) (hd : ∀ σ H, Pv xs.length σ H → D.nx σ H) :
    ∃ W : Nat → Nat → St → Hp → Prop, (∃ m, W 0 m σ H) ∧ ∀ i m σ H, W i m σ H →
      ((Itt K a).stop i H ∧ D.nx σ H) ∨ ((Itt K a).go i H ∧ ∃ N : St → Hp → Prop, (∀ σ' H', N σ' H' → ∃ m', m' < m ∧ W (i + 1) m' σ' H') ∧ ∀ x H', (Itt K a).yld i H x H' → g x σ H' fun σ2 H2 => tb { D with nx := N, ct := N, bk := D.nx } σ2 H2) := by
  refine ⟨fun i m σ H => m = xs.length - i ∧ i ≤ xs.length ∧ Pv i σ H, ⟨xs.length, by simp, Nat.zero_le _, h0⟩, ?_⟩
  rintro i m σ H ⟨rfl, hi, p⟩
  have q := hl i σ H hi p
  by_cases hlt : i < xs.length
  · refine .inr ⟨⟨xs, xs[i], q, by simp [hlt]⟩, Pv (i + 1), fun σ' H' p' => ⟨xs.length - (i + 1), by omega, rfl, hlt, p'⟩, fun x H' y => ?_⟩
    obtain ⟨e, y⟩ := y
    subst e
    exact hs i x σ _ (y xs q) p
  · have e : i = xs.length := by omega
    subst e
    exact .inl ⟨⟨xs, q, Nat.le_refl _⟩, hd σ H p⟩
theorem for_range {lo : Int} {n : Nat} {g : TG} {tb : TS} {D : Ends} {σ : St} {H : Hp} (Pv : Nat → St → Hp → Prop) (h0 : Pv 0 σ H)
    (hs : ∀ i σ H, i < n → Pv i σ H → g (.int (lo + i)) σ H fun σ2 H2 => tb { D with nx := Pv (i + 1), ct := Pv (i + 1), bk := D.nx } σ2 H2) (hd : ∀ σ H, Pv n σ H → D.nx σ H) :
    ∃ W : Nat → Nat → St → Hp → Prop, (∃ m, W 0 m σ H) ∧ ∀ i m σ H, W i m σ H →
      ((Itr lo n).stop i H ∧ D.nx σ H) ∨ ((Itr lo n).go i H ∧ ∃ N : St → Hp → Prop, (∀ σ' H', N σ' H' → ∃ m', m' < m ∧ W (i + 1) m' σ' H') ∧ ∀ x H', (Itr lo n).yld i H x H' → g x σ H' fun σ2 H2 => tb { D with nx := N, ct := N, bk := D.nx } σ2 H2) := by
  refine ⟨fun i m σ H => m = n - i ∧ i ≤ n ∧ Pv i σ H, ⟨n, by simp, Nat.zero_le _, h0⟩, ?_⟩
  rintro i m σ H ⟨rfl, hi, p⟩
  by_cases hlt : i < n
  · refine .inr ⟨hlt, Pv (i + 1), fun σ' H' p' => ⟨n - (i + 1), by omega, rfl, hlt, p'⟩, fun x H' y => ?_⟩
    obtain ⟨e, y⟩ := y
    subst e y
    exact hs i σ _ hlt p
  · have e : i = n := by omega
    subst e
    exact .inl ⟨Nat.le_refl _, hd σ H p⟩
/-- while, by a word and a measure of the state -/
theorem while_by {c : TT} {tb : TS} {D : Ends} {σ : St} {H : Hp} (Pv : St → Hp → Prop) (μ : St → Hp → Nat) (h0 : Pv σ H)
    (hs : ∀ σ H, Pv σ H → c σ H fun b H1 => if b = true then tb { D with nx := fun σ' H' => Pv σ' H' ∧ μ σ' H' < μ σ H, ct := fun σ' H' => Pv σ' H' ∧ μ σ' H' < μ σ H, bk := D.nx } σ H1 else D.nx σ H1)
    (mono : ∀ σ H Q Q', (∀ b H1, Q b H1 → Q' b H1) → c σ H Q → c σ H Q') : tWhile c tb D σ H := by
  refine ⟨fun m σ H => m = μ σ H ∧ Pv σ H, ⟨_, rfl, h0⟩, ?_⟩
  rintro m σ H ⟨rfl, p⟩
  refine mono σ H _ _ (fun b H1 q => ?_) (hs σ H p)
  cases b with
  | true => exact ⟨_, fun σ' H' ⟨p', l⟩ => ⟨_, l, rfl, p'⟩, q⟩
  | false => exact q
end L2

namespace L2
open PySem PySem.Spec PyProof.Rows

abbrev R2 := V → V → Hp → VK → Prop
/-- a two-place operation on values: f is binaryOp op, inplaceOp op or compareOp op -/
def OpR (X : Cx) (f : Value → Value → Sem Value) (r : R2) : Prop :=
  ∀ (pins : List (Addr × Obj)) (s : Shared) (σ : St) (H : Hp) (x y : V) (v u : Value) (Q : VK), Inv X pins σ H s → RelV x v → RelV y u → r x y H Q →
    wpAny (model X.prog X.w) X.A (f v u) (EP X pins σ Q) X.xe s
/-- a one-place operation -/
def UnR (X : Cx) (f : Value → Sem Value) (r : V → Hp → VK → Prop) : Prop :=
  ∀ (pins : List (Addr × Obj)) (s : Shared) (σ : St) (H : Hp) (x : V) (v : Value) (Q : VK), Inv X pins σ H s → RelV x v → r x H Q →
    wpAny (model X.prog X.w) X.A (f v) (EP X pins σ Q) X.xe s
/-- a call of a value that is known (a builtin, a type) with values -/
def CallR (X : Cx) (f : Value) (r : List V → Hp → VK → Prop) : Prop :=
  ∀ (pins : List (Addr × Obj)) (s : Shared) (σ : St) (H : Hp) (xs : List V) (us : List Value) (Q : VK), Inv X pins σ H s → Vals xs us → r xs H Q →
    wpAny (model X.prog X.w) X.A (call f us) (EP X pins σ Q) X.xe s
/-- a value's truth -/
def TruR (X : Cx) (r : V → Hp → (Bool → Hp → Prop) → Prop) : Prop :=
  ∀ (pins : List (Addr × Obj)) (s : Shared) (σ : St) (H : Hp) (x : V) (v : Value) (Q : Bool → Hp → Prop), Inv X pins σ H s → RelV x v → r x H Q →
    wpAny (model X.prog X.w) X.A (truthy v) (TP X pins σ Q) X.xe s

def tOp (r : R2) (ta tb : TE) : TE := fun σ H Q => ta σ H fun x H1 => tb σ H1 fun y H2 => r x y H2 Q
def tUn (r : V → Hp → VK → Prop) (ta : TE) : TE := fun σ H Q => ta σ H fun x H1 => r x H1 Q
/-- ints in, under C, and a value out -/
def rI (C : Int → Int → Prop) (g : Int → Int → V) : R2 := fun x y H Q => ∃ i j, x = .int i ∧ y = .int j ∧ C i j ∧ Q (g i j) H
def rI0 (g : Int → Int → V) : R2 := fun x y H Q => ∃ i j, x = .int i ∧ y = .int j ∧ Q (g i j) H
def rU (g : Int → V) : V → Hp → VK → Prop := fun x H Q => ∃ i, x = .int i ∧ Q (g i) H

section
variable {X : Cx} {a b c : Expr} {ta tb tc : TE} {pos : Pos}

theorem binT (ha : PE X a ta) (hb : PE X b tb) {pins : List (Addr × Obj)} {s : Shared} {σ : St} {H : Hp} {R : V → V → Hp → Prop} (I : Inv X pins σ H s)
    (h : ta σ H fun x H1 => tb σ H1 fun y H2 => R x y H2) {Q : Value → Shared → Prop} {f : Value → Value → Sem Value}
    (hf : ∀ v u s2 x y H2, Inv X pins σ H2 s2 → RelV x v → RelV y u → R x y H2 → wpAny (model X.prog X.w) X.A (f v u) Q X.xe s2) :
    wpAny (model X.prog X.w) X.A (eval a X.env) (fun v s₁ => wpAny (model X.prog X.w) X.A (eval b X.env) (fun u s₂ => wpAny (model X.prog X.w) X.A (f v u) Q X.xe s₂) X.xe s₁) X.xe s := by
  refine thn (ha pins s σ H _ I h) fun v s1 ⟨x, H1, I1, r1, q1⟩ => ?_
  refine thn (hb pins s1 σ H1 _ I1 q1) fun u s2 ⟨y, H2, I2, r2, q2⟩ => ?_
  exact hf v u s2 x y H2 I2 r1 r2 q2

theorem pe_op {op : Operator} {r : R2} (ho : OpR X (binaryOp op) r) (ha : PE X a ta) (hb : PE X b tb) : PE X (.BinOp a op b pos) (tOp r ta tb) := by
  intro pins s σ H Q I h
  exact wpAny_BinOp (binT ha hb I h fun v u s2 x y H2 I2 rx ry q => ho pins s2 σ H2 x y v u Q I2 rx ry q)
theorem pe_un {op : UnaryOp} {r : V → Hp → VK → Prop} (ho : UnR X (unaryOp op) r) (ha : PE X a ta) : PE X (.UnaryOp op a pos) (tUn r ta) := by
  intro pins s σ H Q I h
  exact UnaryOp_ (thn (ha pins s σ H _ I h) fun v s1 ⟨x, H1, I1, r1, q1⟩ => ho pins s1 σ H1 x v Q I1 r1 q1)
/-- a op= e at a name: the name's slot i -/
theorem augR {op : Operator} {r : R2} (ho : OpR X (inplaceOp op) r) {pins : List (Addr × Obj)} {s : Shared} {σ : St} {H : Hp} {x y : V} {v u : Value} {Q : VK} (I : Inv X pins σ H s)
    (rx : RelV x v) (ry : RelV y u) (q : r x y H Q) : wpAny (model X.prog X.w) X.A (inplaceOp op v u) (EP X pins σ Q) X.xe s := ho pins s σ H x y v u Q I rx ry q

/-! ### ints -/
theorem opI {f : Value → Value → Sem Value} {C : Int → Int → Prop} {g : Int → Int → Int}
    (rule : ∀ (i j : Int) (t u : Tok) (s : Shared) (Q : Value → Shared → Prop) (E : Value → Shared → Prop), C i j → Q (.int (g i j) s.toks) { s with toks := s.toks + 1 } → wpAny (model X.prog X.w) X.A (f (.int i t) (.int j u)) Q E s) :
    OpR X f (rI C fun i j => .int (g i j)) := by
  intro pins s σ H x y v u Q I rx ry h
  obtain ⟨i, j, rfl, rfl, hc, q⟩ := h
  obtain ⟨t, rfl⟩ := rx
  obtain ⟨t', rfl⟩ := ry
  exact rule i j t t' s _ _ hc ⟨.int (g i j), H, I.tok _, ⟨_, rfl⟩, q⟩
theorem opI0 {f : Value → Value → Sem Value} {g : Int → Int → Int}
    (rule : ∀ (i j : Int) (t u : Tok) (s : Shared) (Q : Value → Shared → Prop) (E : Value → Shared → Prop), Q (.int (g i j) s.toks) { s with toks := s.toks + 1 } → wpAny (model X.prog X.w) X.A (f (.int i t) (.int j u)) Q E s) :
    OpR X f (rI0 fun i j => .int (g i j)) := by
  intro pins s σ H x y v u Q I rx ry h
  obtain ⟨i, j, rfl, rfl, q⟩ := h
  obtain ⟨t, rfl⟩ := rx
  obtain ⟨t', rfl⟩ := ry
  exact rule i j t t' s _ _ ⟨.int (g i j), H, I.tok _, ⟨_, rfl⟩, q⟩
theorem opB0 {f : Value → Value → Sem Value} {g : Int → Int → Bool}
    (rule : ∀ (i j : Int) (t u : Tok) (s : Shared) (Q : Value → Shared → Prop) (E : Value → Shared → Prop), Q (.bool (g i j)) s → wpAny (model X.prog X.w) X.A (f (.int i t) (.int j u)) Q E s) :
    OpR X f (rI0 fun i j => .bl (g i j)) := by
  intro pins s σ H x y v u Q I rx ry h
  obtain ⟨i, j, rfl, rfl, q⟩ := h
  obtain ⟨t, rfl⟩ := rx
  obtain ⟨t', rfl⟩ := ry
  exact rule i j t t' s _ _ ⟨.bl (g i j), H, I, rfl, q⟩

def CDiv (i j : Int) : Prop := 0 < j ∧ j < 1073741824
def CDivN (i j : Int) : Prop := j ≠ 0 ∧ j.natAbs < 1073741824
def CPow (i j : Int) : Prop := 0 ≤ j ∧ j ≤ 1000000 ∧ i.natAbs < 2 ^ 64
def CMul (i j : Int) : Prop := (-(2 ^ 64) < i ∧ i < 2 ^ 64) ∨ (-(2 ^ 64) < j ∧ j < 2 ^ 64)
theorem CMul.ok {i j : Int} (h : CMul i j) : IntMulOk i j := by
  rcases h with ⟨h1, h2⟩ | ⟨h1, h2⟩
  · exact .of_left (intBits_le_64 h1 h2)
  · exact .of_right (intBits_le_64 h1 h2)
theorem two_pow_nn (k : Nat) : (0 : Int) ≤ 2 ^ k := by
  rw [two_pow_cast]
  exact Int.natCast_nonneg _

theorem op_add : OpR X (binaryOp .Add) (rI0 fun i j => .int (i + j)) := opI0 fun _ _ _ _ _ _ _ q => add_int q
theorem op_sub : OpR X (binaryOp .Sub) (rI0 fun i j => .int (i - j)) := opI0 fun _ _ _ _ _ _ _ q => sub_int q
theorem op_mul : OpR X (binaryOp .Mult) (rI CMul fun i j => .int (i * j)) := opI fun _ _ _ _ _ _ _ hc q => mul_int q hc.ok
/-- // by a positive divisor -/
theorem op_fdiv : OpR X (binaryOp .FloorDiv) (rI CDiv fun i j => .int (i / j)) := opI fun i j _ _ _ _ _ hc q => by
  have h1 : (0 : Int) < j := hc.1
  have h2 : j < 1073741824 := hc.2
  exact floordiv_int (by omega) (by rw [Int.fdiv_eq_ediv_of_nonneg i (by omega)]; exact q) (.inl (PyProof.noPylong_small (by omega)))
theorem op_fdivN : OpR X (binaryOp .FloorDiv) (rI CDivN fun i j => .int (i.fdiv j)) := opI fun _ _ _ _ _ _ _ hc q => floordiv_int hc.1 q (.inl (PyProof.noPylong_small hc.2))
/-- % by a positive divisor of any size -/
theorem op_mod : OpR X (binaryOp .Mod) (rI (fun _ j => 0 < j) fun i j => .int (i % j)) := opI fun i j _ _ _ _ _ hc q => by
  have h1 : (0 : Int) < j := hc
  exact mod_int' (by omega) (by rw [Int.fmod_eq_emod_of_nonneg i (by omega)]; exact q)
theorem op_modN : OpR X (binaryOp .Mod) (rI (fun _ j => j ≠ 0) fun i j => .int (i.fmod j)) := opI fun _ _ _ _ _ _ _ hc q => mod_int' hc q
theorem op_pow : OpR X (binaryOp .Pow) (rI CPow fun i j => .int (i ^ j.toNat)) := opI fun _ _ _ _ _ _ _ hc q => pow_int_small hc.1 hc.2.1 hc.2.2 q
theorem op_shl : OpR X (binaryOp .LShift) (rI CPow fun i j => .int (i * 2 ^ j.toNat)) := opI fun _ _ _ _ _ _ _ hc q => lshift_int_small hc.1 hc.2.1 hc.2.2 q
theorem op_shr : OpR X (binaryOp .RShift) (rI (fun _ j => 0 ≤ j) fun i j => .int (i / 2 ^ j.toNat)) := opI fun i j _ _ _ _ _ hc q =>
  rshift_int hc (by rw [Int.fdiv_eq_ediv_of_nonneg i (two_pow_nn _)]; exact q)
theorem op_and : OpR X (binaryOp .BitAnd) (rI0 fun i j => .int (Builtin.bitAnd i j)) := opI0 fun _ _ _ _ _ _ _ q => and_int q
theorem op_or : OpR X (binaryOp .BitOr) (rI0 fun i j => .int (Builtin.bitOr i j)) := opI0 fun _ _ _ _ _ _ _ q => or_int q
theorem op_xor : OpR X (binaryOp .BitXor) (rI0 fun i j => .int (Builtin.bitXor i j)) := opI0 fun _ _ _ _ _ _ _ q => xor_int q

theorem iop_add : OpR X (inplaceOp .Add) (rI0 fun i j => .int (i + j)) := opI0 fun _ _ _ _ _ _ _ q => iadd_int q
theorem iop_sub : OpR X (inplaceOp .Sub) (rI0 fun i j => .int (i - j)) := opI0 fun _ _ _ _ _ _ _ q => isub_int q
theorem iop_mul : OpR X (inplaceOp .Mult) (rI CMul fun i j => .int (i * j)) := opI fun _ _ _ _ _ _ _ hc q => imul_int q hc.ok
theorem iop_fdiv : OpR X (inplaceOp .FloorDiv) (rI CDiv fun i j => .int (i / j)) := opI fun i j _ _ _ _ _ hc q => by
  have h1 : (0 : Int) < j := hc.1
  have h2 : j < 1073741824 := hc.2
  exact ifloordiv_int (by omega) (by rw [Int.fdiv_eq_ediv_of_nonneg i (by omega)]; exact q) (.inl (PyProof.noPylong_small (by omega)))
theorem iop_mod : OpR X (inplaceOp .Mod) (rI (fun _ j => 0 < j) fun i j => .int (i % j)) := opI fun i j _ _ _ _ _ hc q => by
  have h1 : (0 : Int) < j := hc
  exact imod_int (by omega) (by rw [Int.fmod_eq_emod_of_nonneg i (by omega)]; exact q)
theorem iop_shl : OpR X (inplaceOp .LShift) (rI CPow fun i j => .int (i * 2 ^ j.toNat)) := opI fun _ _ _ _ _ _ _ hc q => ilshift_int_small hc.1 hc.2.1 hc.2.2 q
theorem iop_shr : OpR X (inplaceOp .RShift) (rI (fun _ j => 0 ≤ j) fun i j => .int (i / 2 ^ j.toNat)) := opI fun i j _ _ _ _ _ hc q =>
  irshift_int hc (by rw [Int.fdiv_eq_ediv_of_nonneg i (two_pow_nn _)]; exact q)
theorem iop_and : OpR X (inplaceOp .BitAnd) (rI0 fun i j => .int (Builtin.bitAnd i j)) := opI0 fun _ _ _ _ _ _ _ q => iand_int q
theorem iop_or : OpR X (inplaceOp .BitOr) (rI0 fun i j => .int (Builtin.bitOr i j)) := opI0 fun _ _ _ _ _ _ _ q => ior_int q
theorem iop_xor : OpR X (inplaceOp .BitXor) (rI0 fun i j => .int (Builtin.bitXor i j)) := opI0 fun _ _ _ _ _ _ _ q => ixor_int q

theorem unI {f : Value → Sem Value} {g : Int → Int}
    (rule : ∀ (i : Int) (t : Tok) (s : Shared) (Q : Value → Shared → Prop) (E : Value → Shared → Prop), Q (.int (g i) s.toks) { s with toks := s.toks + 1 } → wpAny (model X.prog X.w) X.A (f (.int i t)) Q E s) :
    UnR X f (rU fun i => .int (g i)) := by
  intro pins s σ H x v Q I rx h
  obtain ⟨i, rfl, q⟩ := h
  obtain ⟨t, rfl⟩ := rx
  exact rule i t s _ _ ⟨.int (g i), H, I.tok _, ⟨_, rfl⟩, q⟩
theorem un_neg : UnR X (unaryOp .USub) (rU fun i => .int (-i)) := unI fun _ _ _ _ _ q => neg_int q
theorem un_inv : UnR X (unaryOp .Invert) (rU fun i => .int (Builtin.bitNot i)) := unI fun _ _ _ _ _ q => invert_int q

/-! ### bools among ints: n += (a < b) -/
theorem op_add_ib : OpR X (binaryOp .Add) (fun x y H Q => ∃ i k, x = .int i ∧ y = .bl k ∧ Q (.int (i + b2i k)) H) := by
  intro pins s σ H x y v u Q I rx ry h
  obtain ⟨i, k, rfl, rfl, q⟩ := h
  obtain ⟨t, rfl⟩ := rx
  cases ry
  exact add_int_bool ⟨.int (i + b2i k), H, I.tok _, ⟨_, rfl⟩, q⟩
end

/-! ### comparisons -/
/-- the scalars that == tells apart as data does -/
def scal : V → V → Bool
  | .non, .non => true | .non, .int _ => true | .int _, .non => true | .non, .bl _ => true | .bl _, .non => true | .non, .str _ => true | .str _, .non => true
  | .int _, .int _ => true | .bl _, .bl _ => true | .str _, .str _ => true | .byt _, .byt _ => true
  | .int _, .str _ => true | .str _, .int _ => true | .bl _, .str _ => true | .str _, .bl _ => true
  | _, _ => false
def rEq : R2 := fun x y H Q => scal x y = true ∧ Q (.bl (decide (x = y))) H
def rNe : R2 := fun x y H Q => scal x y = true ∧ Q (.bl (!decide (x = y))) H

theorem dec_int {i j : Int} : decide (V.int i = V.int j) = (i == j) := by
  rw [Bool.eq_iff_iff]
  simp
theorem dec_bl {i j : Bool} : decide (V.bl i = V.bl j) = (i == j) := by
  rw [Bool.eq_iff_iff]
  simp
theorem dec_str {i j : Str} : decide (V.str i = V.str j) = (i == j) := by
  rw [Bool.eq_iff_iff]
  simp
theorem dec_byt {i j : Array UInt8} : decide (V.byt i = V.byt j) = (i.toList == j.toList) := by
  rw [Bool.eq_iff_iff]
  cases i
  cases j
  simp

section
variable {X : Cx} {a b c : Expr} {ta tb tc : TE} {pos : Pos}
theorem fin_bl {pins : List (Addr × Obj)} {σ : St} {H : Hp} {s : Shared} {Q : VK} {k k' : Bool} (I : Inv X pins σ H s) (q : Q (.bl k) H) (e : k = k') : EP X pins σ Q (.bool k') s := by
  subst e
  exact ⟨.bl k, H, I, rfl, q⟩
theorem op_eq : OpR X (compareOp .Eq) rEq := by
  intro pins s σ H x y v u Q I rx ry h
  obtain ⟨hs, q⟩ := h
  cases x with
  | non =>
    cases rx
    cases y with
    | non => cases ry; exact PySem.EqNone.eq_none_none (fin_bl I q (by simp))
    | bl j => cases ry; exact PySem.EqNone.eq_none_bool (fin_bl I q (by simp))
    | int j => obtain ⟨t', rfl⟩ := ry; exact PySem.EqNone.eq_none_int (fin_bl I q (by simp))
    | str j => obtain ⟨t', rfl⟩ := ry; exact PySem.EqNone.eq_none_str (fin_bl I q (by simp))
    | _ => exact absurd (show false = true from hs) Bool.false_ne_true
  | bl i =>
    cases rx
    cases y with
    | non => cases ry; exact PySem.EqNone.eq_bool_none (fin_bl I q (by simp))
    | bl j => cases ry; exact eq_bool (fin_bl I q dec_bl)
    | str j => obtain ⟨t', rfl⟩ := ry; exact PySem.EqMixed.eq_bool_str (fin_bl I q (by simp))
    | _ => exact absurd (show false = true from hs) Bool.false_ne_true
  | int i =>
    obtain ⟨t, rfl⟩ := rx
    cases y with
    | non => cases ry; exact PySem.EqNone.eq_int_none (fin_bl I q (by simp))
    | int j => obtain ⟨t', rfl⟩ := ry; exact eq_int (fin_bl I q dec_int)
    | str j => obtain ⟨t', rfl⟩ := ry; exact PySem.EqMixed.eq_int_str (fin_bl I q (by simp))
    | _ => exact absurd (show false = true from hs) Bool.false_ne_true
  | str i =>
    obtain ⟨t, rfl⟩ := rx
    cases y with
    | non => cases ry; exact PySem.EqNone.eq_str_none (fin_bl I q (by simp))
    | bl j => cases ry; exact PySem.EqMixed.eq_str_bool (fin_bl I q (by simp))
    | int j => obtain ⟨t', rfl⟩ := ry; exact PySem.EqMixed.eq_str_int (fin_bl I q (by simp))
    | str j => obtain ⟨t', rfl⟩ := ry; exact eq_str (fin_bl I q dec_str)
    | _ => exact absurd (show false = true from hs) Bool.false_ne_true
  | byt i =>
    obtain ⟨t, rfl⟩ := rx
    cases y with
    | byt j => obtain ⟨t', rfl⟩ := ry; exact PySem.W.eq_bytes (fin_bl I q dec_byt)
    | _ => exact absurd (show false = true from hs) Bool.false_ne_true
  | _ => cases y <;> exact absurd (show false = true from hs) Bool.false_ne_true
theorem op_ne : OpR X (compareOp .NotEq) rNe := by
  intro pins s σ H x y v u Q I rx ry h
  obtain ⟨hs, q⟩ := h
  cases x with
  | non =>
    cases rx
    cases y with
    | non => cases ry; exact PySem.EqNone.ne_none_none (fin_bl I q (by simp))
    | bl j => cases ry; exact PySem.EqNone.ne_none_bool (fin_bl I q (by simp))
    | int j => obtain ⟨t', rfl⟩ := ry; exact PySem.EqNone.ne_none_int (fin_bl I q (by simp))
    | str j => obtain ⟨t', rfl⟩ := ry; exact PySem.EqNone.ne_none_str (fin_bl I q (by simp))
    | _ => exact absurd (show false = true from hs) Bool.false_ne_true
  | bl i =>
    cases rx
    cases y with
    | non => cases ry; exact PySem.EqNone.ne_bool_none (fin_bl I q (by simp))
    | bl j => cases ry; exact ne_bool (fin_bl I q (congrArg not dec_bl))
    | str j => obtain ⟨t', rfl⟩ := ry; exact PySem.EqMixed.ne_bool_str (fin_bl I q (by simp))
    | _ => exact absurd (show false = true from hs) Bool.false_ne_true
  | int i =>
    obtain ⟨t, rfl⟩ := rx
    cases y with
    | non => cases ry; exact PySem.EqNone.ne_int_none (fin_bl I q (by simp))
    | int j => obtain ⟨t', rfl⟩ := ry; exact ne_int (fin_bl I q (congrArg not dec_int))
    | str j => obtain ⟨t', rfl⟩ := ry; exact PySem.EqMixed.ne_int_str (fin_bl I q (by simp))
    | _ => exact absurd (show false = true from hs) Bool.false_ne_true
  | str i =>
    obtain ⟨t, rfl⟩ := rx
    cases y with
    | non => cases ry; exact PySem.EqNone.ne_str_none (fin_bl I q (by simp))
    | bl j => cases ry; exact PySem.EqMixed.ne_str_bool (fin_bl I q (by simp))
    | int j => obtain ⟨t', rfl⟩ := ry; exact PySem.EqMixed.ne_str_int (fin_bl I q (by simp))
    | str j => obtain ⟨t', rfl⟩ := ry; exact ne_str (fin_bl I q (congrArg not dec_str))
    | _ => exact absurd (show false = true from hs) Bool.false_ne_true
  | byt i =>
    obtain ⟨t, rfl⟩ := rx
    cases y with
    | byt j => obtain ⟨t', rfl⟩ := ry; exact PySem.W.ne_bytes (fin_bl I q (congrArg not dec_byt))
    | _ => exact absurd (show false = true from hs) Bool.false_ne_true
  | _ => cases y <;> exact absurd (show false = true from hs) Bool.false_ne_true

theorem op_lt : OpR X (compareOp .Lt) (rI0 fun i j => .bl (decide (i < j))) := opB0 fun _ _ _ _ _ _ _ q => lt_int q
theorem op_le : OpR X (compareOp .LtE) (rI0 fun i j => .bl (decide (i ≤ j))) := opB0 fun _ _ _ _ _ _ _ q => le_int q
theorem op_gt : OpR X (compareOp .Gt) (rI0 fun i j => .bl (decide (j < i))) := opB0 fun _ _ _ _ _ _ _ q => gt_int q
theorem op_ge : OpR X (compareOp .GtE) (rI0 fun i j => .bl (decide (j ≤ i))) := opB0 fun _ _ _ _ _ _ _ q => ge_int q
theorem op_lt_str : OpR X (compareOp .Lt) (fun x y H Q => ∃ i j, x = .str i ∧ y = .str j ∧ Q (.bl (decide (i.cps.toList < j.cps.toList))) H) := by
  intro pins s σ H x y v u Q I rx ry h
  obtain ⟨i, j, rfl, rfl, q⟩ := h
  obtain ⟨t, rfl⟩ := rx
  obtain ⟨t', rfl⟩ := ry
  exact lt_str (fin_bl I q rfl)
/-- the one string within the other -/
theorem op_in_str : OpR X (compareOp .In) (fun x y H Q => ∃ i j, x = .str i ∧ y = .str j ∧ Q (.bl (!(Builtin.Str.occurrences j i 0 j.length 1).isEmpty)) H) := by
  intro pins s σ H x y v u Q I rx ry h
  obtain ⟨i, j, rfl, rfl, q⟩ := h
  obtain ⟨t, rfl⟩ := rx
  obtain ⟨t', rfl⟩ := ry
  exact in_str (fin_bl I q rfl)

/-- is None, is not None: the right side a value none -/
theorem op_isN : OpR X (compareOp .Is) (fun x y H Q => y = .non ∧ Q (.bl (decide (x = .non))) H) := by
  intro pins s σ H x y v u Q I rx ry h
  obtain ⟨rfl, q⟩ := h
  cases ry
  refine is_none_gen (fin_bl I q ?_)
  cases x <;> first
    | (cases rx; rfl)
    | (obtain ⟨t, rfl⟩ := rx; rfl)
theorem op_notN : OpR X (compareOp .IsNot) (fun x y H Q => y = .non ∧ Q (.bl (!decide (x = .non))) H) := by
  intro pins s σ H x y v u Q I rx ry h
  obtain ⟨rfl, q⟩ := h
  cases ry
  refine isnot_none_gen (fin_bl I q ?_)
  cases x <;> first
    | (cases rx; rfl)
    | (obtain ⟨t, rfl⟩ := rx; rfl)

theorem op_notin_str : OpR X (compareOp .NotIn) (fun x y H Q => ∃ i j, x = .str i ∧ y = .str j ∧ Q (.bl (!(!(Builtin.Str.occurrences j i 0 j.length 1).isEmpty))) H) := by
  intro pins s σ H x y v u Q I rx ry h
  obtain ⟨i, j, rfl, rfl, q⟩ := h
  obtain ⟨t, rfl⟩ := rx
  obtain ⟨t', rfl⟩ := ry
  exact notIn_str (fin_bl I q rfl)
/-- is, is not of two objects that are tracked lists or instances -/
def isObj : HO → Bool
  | .lst _ => true
  | .ins _ _ _ => true
  | _ => false
theorem obj_there {pins : List (Addr × Obj)} {s : Shared} {σ : St} {H : Hp} {a : Addr} {o : HO} (I : Inv X pins σ H s) (h : H a = some o) (p : isObj o = true) : ∃ ob, s.heap.get? a = some ob ∧ ob.cls ≠ .type "tuple" := by
  cases o with
  | lst xs =>
    obtain ⟨_, its, n, _, e⟩ : xs.length ≤ sizeLine ∧ ∃ (its : List Value) (n : Nat), Vals xs its ∧ s.heap.get? a = some { cls := .type "list", data := .seq its.toArray n } := I.hok a _ h
    exact ⟨_, e, (by show Value.type "list" ≠ .type "tuple"; decide +kernel)⟩
  | ins C dx fs =>
    have x := I.hok a _ h
    obtain ⟨_, _, _, e, _⟩ := x
    exact ⟨_, e, (by show Value.ref C ≠ .type "tuple"; exact fun z => by cases z)⟩
  | _ => exact absurd (show false = true from p) Bool.false_ne_true
theorem op_is_ref : OpR X (compareOp .Is) (fun x y H Q => ∃ a b oa ob, x = .ref a ∧ y = .ref b ∧ H a = some oa ∧ isObj oa = true ∧ H b = some ob ∧ isObj ob = true ∧ Q (.bl (decide (a = b))) H) := by
  intro pins s σ H x y v u Q I rx ry h
  obtain ⟨a, b, oa, ob, rfl, rfl, ha, pa, hb, pb, q⟩ := h
  cases rx
  cases ry
  obtain ⟨o1, e1, n1⟩ := obj_there I ha pa
  obtain ⟨o2, e2, _⟩ := obj_there I hb pb
  by_cases z : a = b
  · subst z
    exact wpAny_is_ref_self (fin_bl I q (by simp))
  · exact wpAny_is_ref_other z e1 e2 n1 (fin_bl I q (by simp [z]))
theorem op_isnot_ref : OpR X (compareOp .IsNot) (fun x y H Q => ∃ a b oa ob, x = .ref a ∧ y = .ref b ∧ H a = some oa ∧ isObj oa = true ∧ H b = some ob ∧ isObj ob = true ∧ Q (.bl (!decide (a = b))) H) := by
  intro pins s σ H x y v u Q I rx ry h
  obtain ⟨a, b, oa, ob, rfl, rfl, ha, pa, hb, pb, q⟩ := h
  cases rx
  cases ry
  obtain ⟨o1, e1, n1⟩ := obj_there I ha pa
  obtain ⟨o2, e2, _⟩ := obj_there I hb pb
  by_cases z : a = b
  · subst z
    exact wpAny_isNot_ref_self (fin_bl I q (by simp))
  · exact wpAny_isNot_ref_other z e1 e2 n1 (fin_bl I q (by simp [z]))

/-- two rules for one operation: by cases -/
theorem OpR.or {f : Value → Value → Sem Value} {r r' : R2} (h : OpR X f r) (h' : OpR X f r') : OpR X f (fun x y H Q => r x y H Q ∨ r' x y H Q) := by
  intro pins s σ H x y v u Q I rx ry q
  rcases q with q | q
  · exact h pins s σ H x y v u Q I rx ry q
  · exact h' pins s σ H x y v u Q I rx ry q

theorem nomark (b : Expr) {op : CmpOp} (h : op ≠ .In := by decide) (h2 : op ≠ .NotIn := by decide) : behindInMarks op b = false := by
  have e1 : (op == CmpOp.In) = false := by cases op <;> first | rfl | exact absurd rfl h
  have e2 : (op == CmpOp.NotIn) = false := by cases op <;> first | rfl | exact absurd rfl h2
  cases b <;> simp [behindInMarks, e1, e2]
/-- a comparison as a value; hm: nomark b, or (for in, not in) by with_unfolding_all rfl -/
theorem pe_cmpR {op : CmpOp} {r : R2} (ho : OpR X (compareOp op) r) (ha : PE X a ta) (hb : PE X b tb) (hm : behindInMarks op b = false) : PE X (.Compare a [op] [b] pos) (tOp r ta tb) := by
  intro pins s σ H Q I h
  exact wpAny_Compare1 (binT ha hb I h fun v u s2 x y H2 I2 rx ry q => ho pins s2 σ H2 x y v u Q I2 rx ry q) hm
/-- a reading of a value as a test -/
def tTest (t : TE) : TT := fun σ H Q => t σ H fun x H' => ∃ k, x = .bl k ∧ Q k H'
theorem pt_cmpR {op : CmpOp} {r : R2} (ho : OpR X (compareOp op) r) (ha : PE X a ta) (hb : PE X b tb) (hm : behindInMarks op b = false) : PT X (.Compare a [op] [b] pos) (tTest (tOp r ta tb)) := by
  intro pins s σ H Q I h
  refine wpAny_isTrue_Compare1 (thn (ha pins s σ H _ I h) fun v s1 ⟨x, H1, I1, r1, q1⟩ => thn (hb pins s1 σ H1 _ I1 q1) fun u s2 ⟨y, H2, I2, r2, q2⟩ =>
    thn (ho pins s2 σ H2 x y v u _ I2 r1 r2 q2) fun c s3 ⟨z, H3, I3, r3, k, e, q3⟩ => ?_) hm
  subst e
  cases r3
  exact wpAny_truthy_bool ⟨H3, I3, q3⟩
/-- a op1 b op2 c -/
def tChain (r r' : R2) (ta tb tc : TE) : TE := fun σ H Q => ta σ H fun x H1 => tb σ H1 fun y H2 => r x y H2 fun z H3 => ∃ k, z = .bl k ∧
  (if k = true then tc σ H3 fun w' H4 => r' y w' H4 Q else Q (.bl false) H3)
theorem pe_chain {op op' : CmpOp} {r r' : R2} (ho : OpR X (compareOp op) r) (ho' : OpR X (compareOp op') r') (ha : PE X a ta) (hb : PE X b tb) (hc : PE X c tc)
    (hm : lastMarks [op, op'] [b, c] = false := by with_unfolding_all rfl) : PE X (.Compare a [op, op'] [b, c] pos) (tChain r r' ta tb tc) := by
  intro pins s σ H Q I h
  refine Compare_chain (thn (ha pins s σ H _ I h) fun v s1 ⟨x, H1, I1, r1, q1⟩ => chain_link (thn (hb pins s1 σ H1 _ I1 q1) fun u s2 ⟨y, H2, I2, r2, q2⟩ =>
    thn (ho pins s2 σ H2 x y v u _ I2 r1 r2 q2) fun d s3 ⟨z, H3, I3, r3, k, e, q3⟩ => ?_)) hm
  subst e
  cases r3
  refine wpAny_truthy_bool ?_
  cases k with
  | false => exact ite_ff ⟨.bl false, H3, I3, rfl, q3⟩
  | true => exact ite_tt (chain_last (thn (hc pins s3 σ H3 _ I3 q3) fun w' s4 ⟨z', H4, I4, r4, q4⟩ => ho' pins s4 σ H4 y z' u w' Q I4 r2 r4 q4))
theorem pt_chain {op op' : CmpOp} {r r' : R2} (ho : OpR X (compareOp op) r) (ho' : OpR X (compareOp op') r') (ha : PE X a ta) (hb : PE X b tb) (hc : PE X c tc)
    (hm : lastMarks [op, op'] [b, c] = false := by with_unfolding_all rfl) : PT X (.Compare a [op, op'] [b, c] pos) (tTest (tChain r r' ta tb tc)) := by
  intro pins s σ H Q I h
  refine isTrue_chain (thn (ha pins s σ H _ I h) fun v s1 ⟨x, H1, I1, r1, q1⟩ => test_link (thn (hb pins s1 σ H1 _ I1 q1) fun u s2 ⟨y, H2, I2, r2, q2⟩ =>
    thn (ho pins s2 σ H2 x y v u _ I2 r1 r2 q2) fun d s3 ⟨z, H3, I3, r3, k, e, q3⟩ => ?_)) hm
  subst e
  cases r3
  refine wpAny_truthy_bool ?_
  cases k with
  | false =>
    obtain ⟨k', e', q'⟩ := q3
    cases e'
    exact ite_ff ⟨H3, I3, q'⟩
  | true =>
    refine ite_tt (test_last (thn (hc pins s3 σ H3 _ I3 q3) fun w' s4 ⟨z', H4, I4, r4, q4⟩ => thn (ho' pins s4 σ H4 y z' u w' _ I4 r2 r4 q4) fun d' s5 ⟨z2, H5, I5, r5, k2, e2, q5⟩ => ?_))
    subst e2
    cases r5
    exact wpAny_truthy_bool ⟨H5, I5, q5⟩

/-! ### truth -/
/-- a value's truth by the abstract heap -/
def TruV (K : PySem.W.Frag) (x : V) (H : Hp) (k : Bool) : Prop :=
  match x with
  | .non => k = false
  | .bl b => k = b
  | .int i => k = (i != 0)
  | .str y => y.length ≤ sizeLine ∧ k = ((y.length : Int) != 0)
  | .byt y => y.size ≤ sizeLine ∧ k = ((y.size : Int) != 0)
  | .ref p => (∃ xs, SqL K H p xs ∧ k = !xs.isEmpty) ∨ (∃ xs, SqT K H p xs ∧ k = !xs.isEmpty) ∨ ∃ kvs, H p = some (.dK kvs) ∧ k = !kvs.isEmpty
  | _ => False
theorem isEmpty_kv {κ : Type} {kvs : List (κ × V)} {vs : List (κ × Value)} (r : KV kvs vs) : (!vs.isEmpty) = !kvs.isEmpty := by
  cases r <;> rfl
theorem isEmpty_of {xs : List V} {its : List Value} (r : Vals xs its) : (!its.toArray.isEmpty) = !xs.isEmpty := by
  cases r <;> simp
theorem line63 : (sizeLine : Nat) < 2 ^ 63 := by rw [sizeLine_eq]; decide
theorem tru_ok : TruR X (fun x H Q => ∃ k, TruV X.K x H k ∧ Q k H) := by
  intro pins s σ H x v Q I rx h
  obtain ⟨k, e, q⟩ := h
  have hl := line63
  have hs : sizeLine = 16777216 := sizeLine_eq
  cases x with
  | non =>
    cases rx
    have e' : k = false := e
    subst e'
    exact truthy_none ⟨H, I, q⟩
  | bl b =>
    cases rx
    have e' : k = b := e
    subst e'
    exact wpAny_truthy_bool ⟨H, I, q⟩
  | int i =>
    obtain ⟨t, rfl⟩ := rx
    have e' : k = (i != 0) := e
    subst e'
    exact PySem.P.truthy_int ⟨H, I, q⟩
  | str y =>
    obtain ⟨t, rfl⟩ := rx
    obtain ⟨hy, e'⟩ : y.length ≤ sizeLine ∧ k = ((y.length : Int) != 0) := e
    subst e'
    exact PySem.P.truthy_str (by omega) ⟨H, I.tok _, q⟩
  | byt y =>
    obtain ⟨t, rfl⟩ := rx
    obtain ⟨hy, e'⟩ : y.size ≤ sizeLine ∧ k = ((y.size : Int) != 0) := e
    subst e'
    exact PySem.W.truthy_bytes (by omega) ⟨H, I.tok _, q⟩
  | ref p =>
    cases rx
    have e' : (∃ xs, SqL X.K H p xs ∧ k = !xs.isEmpty) ∨ (∃ xs, SqT X.K H p xs ∧ k = !xs.isEmpty) ∨ ∃ kvs, H p = some (.dK kvs) ∧ k = !kvs.isEmpty := e
    rcases e' with ⟨xs, hx, e'⟩ | ⟨xs, hx, e'⟩ | ⟨kvs, hx, e'⟩
    · subst e'
      obtain ⟨its, r, pl, hz⟩ := I.list hx
      have hlen := r.length
      exact wpAny_truthy_list pl.isList (by simp only [List.size_toArray]; omega) ⟨H, I.tok _, by rw [isEmpty_of r]; exact q⟩
    · subst e'
      obtain ⟨its, r, pl, hz⟩ := I.tuple hx
      have hlen := r.length
      exact truthy_tuple pl (by simp only [List.size_toArray]; omega) ⟨H, I.tok _, by rw [isEmpty_of r]; exact q⟩
    · subst e'
      obtain ⟨hz, hS, vs, r, m⟩ : kvs.length ≤ sizeLine ∧ (p == sysModules) = false ∧ ∃ vs, KV kvs vs ∧ s.heap.DictOf (mixKind X.prog X.w) p vs := I.hok p _ hx
      have hlen : kvs.length = vs.length := Paired.length r
      exact wpAny_truthy_dict hS m (by omega) ⟨H, I.tok _, by rw [isEmpty_kv r]; exact q⟩
  | _ => exact (show False from e).elim
/-- any expression whose test is its value's truth (a name, a call, a subscript, a field ..: he by fun _ => rfl) -/
theorem pt_truth (ha : PE X a ta) (he : ∀ whole, isTrue a X.env whole = (do let v ← whole; standAt a.pos; holding [v] (truthy v))) :
    PT X a (fun σ H Q => ta σ H fun x H' => ∃ k, TruV X.K x H' k ∧ Q k H') := by
  intro pins s σ H Q I h
  exact isTrue_plain (thn (ha pins s σ H _ I h) fun v s1 ⟨x, H1, I1, r1, q1⟩ => tru_ok pins s1 σ H1 x v Q I1 r1 q1) (he _)

/-! ### strs and bytes -/
theorem pe_byt {x : List UInt8} {k : Nat} : PE X (.Constant (.bytes x) k pos) (fun _ H Q => Q (.byt x.toArray) H) := fun _ _ _ H _ I h => PySem.W.Constant_bytes ⟨.byt x.toArray, H, I.tok _, ⟨_, rfl⟩, h⟩
theorem op_add_str : OpR X (binaryOp .Add) (fun x y H Q => ∃ i j, x = .str i ∧ y = .str j ∧ i.length + j.length ≤ sizeLine ∧ Q (.str (i ++ j)) H) := by
  intro pins s σ H x y v u Q I rx ry h
  obtain ⟨i, j, rfl, rfl, hz, q⟩ := h
  obtain ⟨t, rfl⟩ := rx
  obtain ⟨t', rfl⟩ := ry
  exact add_str (fun t' tk => ⟨.str (i ++ j), H, I.tok _, ⟨_, rfl⟩, q⟩) hz
theorem iop_add_str : OpR X (inplaceOp .Add) (fun x y H Q => ∃ i j, x = .str i ∧ y = .str j ∧ i.length + j.length ≤ sizeLine ∧ Q (.str (i ++ j)) H) := by
  intro pins s σ H x y v u Q I rx ry h
  obtain ⟨i, j, rfl, rfl, hz, q⟩ := h
  obtain ⟨t, rfl⟩ := rx
  obtain ⟨t', rfl⟩ := ry
  exact iadd_str (fun t' tk => ⟨.str (i ++ j), H, I.tok _, ⟨_, rfl⟩, q⟩) hz
theorem op_add_byt : OpR X (binaryOp .Add) (fun x y H Q => ∃ i j, x = .byt i ∧ y = .byt j ∧ i.size + j.size ≤ 16777216 ∧ Q (.byt (i ++ j)) H) := by
  intro pins s σ H x y v u Q I rx ry h
  obtain ⟨i, j, rfl, rfl, hz, q⟩ := h
  obtain ⟨t, rfl⟩ := rx
  obtain ⟨t', rfl⟩ := ry
  exact PySem.W.KBy.add_bytes hz (fun t' tk => ⟨.byt (i ++ j), H, I.tok _, ⟨_, rfl⟩, q⟩)

def PlainIxT (b : Expr) : Prop := ∀ o i, subscripted b false o i = operate [o, i] (getItem o i)
/-- s[i], 0 ≤ i < len -/
theorem pe_item_str (ha : PE X a ta) (hb : PE X b tb) (hs : PlainIxT b) :
    PE X (.Subscript a b pos) (tOp (fun x y H Q => ∃ z i c, x = .str z ∧ y = .int i ∧ 0 ≤ i ∧ i < 2 ^ 63 ∧ i < z.length ∧ z.cps[i.toNat]? = some c ∧ Q (.str ⟨#[c]⟩) H) ta tb) := by
  intro pins s σ H Q I h
  refine Subscript_ (binT ha hb I h fun v u s2 x y H2 I2 rx ry q => ?_)
  obtain ⟨z, i, c, rfl, rfl, h0, h63, h1, hc, q⟩ := q
  obtain ⟨t, rfl⟩ := rx
  obtain ⟨t', rfl⟩ := ry
  have e : seqIndex? i z.length = some i.toNat := PySem.StrLaws.seqIndex_nonneg h0 h1
  exact tail_any (typeIs_str s2 z t) slot_str_getitem.lookup (getItem_str (c := c) (by
    have e1 : decide (i < -(2 ^ 63 : Int)) = false := decide_eq_false (by omega)
    have e2 : decide (i ≥ 2 ^ 63) = false := decide_eq_false (by omega)
    rw [e1, e2] <;> rfl) (by rw [e]; exact hc) ⟨.str ⟨#[c]⟩, H2, I2.tok _, ⟨_, rfl⟩, q⟩) (hs _ _)
/-- b[i], 0 ≤ i < len -/
theorem pe_item_byt (ha : PE X a ta) (hb : PE X b tb) (hs : PlainIxT b) :
    PE X (.Subscript a b pos) (tOp (fun x y H Q => ∃ (z : List UInt8) (i : Int), x = .byt z.toArray ∧ y = .int i ∧ z.length ≤ sizeLine ∧ 0 ≤ i ∧ i < z.length ∧ Q (.int ((z.getD i.toNat 0).toNat : Nat)) H) ta tb) := by
  intro pins s σ H Q I h
  refine Subscript_ (binT ha hb I h fun v u s2 x y H2 I2 rx ry q => ?_)
  obtain ⟨z, i, rfl, rfl, hz, h0, h1, q⟩ := q
  obtain ⟨t, rfl⟩ := rx
  obtain ⟨t', rfl⟩ := ry
  have hl : sizeLine = 16777216 := sizeLine_eq
  exact tail_any (PySem.W.typeIs_bytes s2 z.toArray t) PySem.W.FB.slot_bytes_getitem.lookup (PySem.W.getItem_bytes (by omega) h0 h1 ⟨.int ((z.getD i.toNat 0).toNat : Nat), H2, I2.tok _, ⟨_, rfl⟩, q⟩) (hs _ _)

/-! ### scalar builtins, by CallR -/
theorem vals1 {x : V} {us : List Value} (r : Vals [x] us) : ∃ u, us = [u] ∧ RelV x u := by
  cases r with
  | cons r1 r2 => cases r2; exact ⟨_, rfl, r1⟩
theorem vals2 {x y : V} {us : List Value} (r : Vals [x, y] us) : ∃ u w', us = [u, w'] ∧ RelV x u ∧ RelV y w' := by
  cases r with
  | cons r1 r2 =>
    cases r2 with
    | cons r3 r4 => cases r4; exact ⟨_, _, rfl, r1, r3⟩
theorem call_abs : CallR X (.builtin "abs") (fun xs H Q => ∃ i, xs = [.int i] ∧ Q (.int (if i < 0 then -i else i)) H) := by
  intro pins s σ H xs us Q I r h
  obtain ⟨i, rfl, q⟩ := h
  obtain ⟨u, rfl, t, rfl⟩ := vals1 r
  exact call_abs_int fun u tk => ⟨.int (if i < 0 then -i else i), H, I.tok _, ⟨_, rfl⟩, q⟩
theorem call_max2 (hc : X.calm = true) : CallR X (.builtin "max") (fun xs H Q => ∃ i j, xs = [.int i, .int j] ∧ Q (.int (if j > i then j else i)) H) := by
  intro pins s σ H xs us Q I r h
  obtain ⟨i, j, rfl, q⟩ := h
  obtain ⟨u, w', rfl, ⟨t, rfl⟩, ⟨t', rfl⟩⟩ := vals2 r
  refine max_two_ints (I.ok.hd hc) fun h' tk k => ⟨_, H, I.kept k, ?_, q⟩
  by_cases hj : j > i
  · rw [if_pos hj, if_pos hj]; exact ⟨_, rfl⟩
  · rw [if_neg hj, if_neg hj]; exact ⟨_, rfl⟩
theorem call_min2 (hc : X.calm = true) : CallR X (.builtin "min") (fun xs H Q => ∃ i j, xs = [.int i, .int j] ∧ Q (.int (if j < i then j else i)) H) := by
  intro pins s σ H xs us Q I r h
  obtain ⟨i, j, rfl, q⟩ := h
  obtain ⟨u, w', rfl, ⟨t, rfl⟩, ⟨t', rfl⟩⟩ := vals2 r
  refine min_two_ints (I.ok.hd hc) fun h' tk k => ⟨_, H, I.kept k, ?_, q⟩
  by_cases hj : j < i
  · rw [if_pos hj, if_pos hj]; exact ⟨_, rfl⟩
  · rw [if_neg hj, if_neg hj]; exact ⟨_, rfl⟩
theorem call_int1 : CallR X (.type "int") (fun xs H Q => (∃ i, xs = [.int i] ∧ Q (.int i) H) ∨ ∃ k, xs = [.bl k] ∧ Q (.int (if k then 1 else 0)) H) := by
  intro pins s σ H xs us Q I r h
  rcases h with ⟨i, rfl, q⟩ | ⟨k, rfl, q⟩
  · obtain ⟨u, rfl, t, rfl⟩ := vals1 r
    exact call_int_int ⟨.int i, H, I, ⟨_, rfl⟩, q⟩
  · obtain ⟨u, rfl, r1⟩ := vals1 r
    cases r1
    exact call_int_bool ⟨.int (if k then 1 else 0), H, I.tok _, ⟨_, rfl⟩, q⟩
theorem call_bool1 : CallR X (.type "bool") (fun xs H Q => (∃ i, xs = [.int i] ∧ Q (.bl (i != 0)) H) ∨ ∃ k, xs = [.bl k] ∧ Q (.bl k) H) := by
  intro pins s σ H xs us Q I r h
  rcases h with ⟨i, rfl, q⟩ | ⟨k, rfl, q⟩
  · obtain ⟨u, rfl, t, rfl⟩ := vals1 r
    exact call_bool_int ⟨.bl (i != 0), H, I, rfl, q⟩
  · obtain ⟨u, rfl, r1⟩ := vals1 r
    cases r1
    exact call_bool_bool ⟨.bl k, H, I, rfl, q⟩
theorem call_str_int : CallR X (.type "str") (fun xs H Q => ∃ i, xs = [.int i] ∧ i.natAbs.log2 < 1920 ∧ Q (.str (toString i)) H) := by
  intro pins s σ H xs us Q I r h
  obtain ⟨i, rfl, hz, q⟩ := h
  obtain ⟨u, rfl, t, rfl⟩ := vals1 r
  exact PySem.P.str_of_int hz ⟨.str _, H, I.tok _, ⟨_, rfl⟩, q⟩
theorem call_ord : CallR X (.builtin "ord") (fun xs H Q => ∃ x, xs = [.str x] ∧ x.length = 1 ∧ Q (.int (x.cps.getD 0 0 : Nat)) H) := by
  intro pins s σ H xs us Q I r h
  obtain ⟨x, rfl, hz, q⟩ := h
  obtain ⟨u, rfl, t, rfl⟩ := vals1 r
  exact ord_of_one hz ⟨.int _, H, I.tok _, ⟨_, rfl⟩, q⟩
theorem call_chr : CallR X (.builtin "chr") (fun xs H Q => ∃ i, xs = [.int i] ∧ 0 ≤ i ∧ i ≤ 1114111 ∧ Q (.str ⟨#[i.toNat]⟩) H) := by
  intro pins s σ H xs us Q I r h
  obtain ⟨i, rfl, h0, h1, q⟩ := h
  obtain ⟨u, rfl, t, rfl⟩ := vals1 r
  exact chr_of_range h0 h1 ⟨.str _, H, I.tok _, ⟨_, rfl⟩, q⟩
/-- len of a str, a bytes, a list, a tuple -/
def LenV (K : PySem.W.Frag) (x : V) (H : Hp) (n : Nat) : Prop :=
  match x with
  | .str y => y.length ≤ sizeLine ∧ n = y.length
  | .byt y => y.size ≤ sizeLine ∧ n = y.size
  | .ref p => (∃ xs, SqL K H p xs ∧ n = xs.length) ∨ ∃ xs, SqT K H p xs ∧ n = xs.length
  | _ => False
theorem call_len : CallR X (.builtin "len") (fun xs H Q => ∃ x n, xs = [x] ∧ LenV X.K x H n ∧ Q (.int n) H) := by
  intro pins s σ H xs us Q I r h
  obtain ⟨x, n, rfl, e, q⟩ := h
  obtain ⟨u, rfl, rx⟩ := vals1 r
  have hl := line63
  have hs : sizeLine = 16777216 := sizeLine_eq
  cases x with
  | str y =>
    obtain ⟨t, rfl⟩ := rx
    obtain ⟨hy, e'⟩ : y.length ≤ sizeLine ∧ n = y.length := e
    subst e'
    exact len_str (by omega) ⟨.int _, H, I.tok _, ⟨_, rfl⟩, q⟩
  | byt y =>
    obtain ⟨t, rfl⟩ := rx
    obtain ⟨hy, e'⟩ : y.size ≤ sizeLine ∧ n = y.size := e
    subst e'
    exact PySem.W.len_bytes (by omega) ⟨.int _, H, I.tok _, ⟨_, rfl⟩, q⟩
  | ref p =>
    cases rx
    have e' : (∃ xs, SqL X.K H p xs ∧ n = xs.length) ∨ ∃ xs, SqT X.K H p xs ∧ n = xs.length := e
    rcases e' with ⟨xs, hx, e'⟩ | ⟨xs, hx, e'⟩
    · subst e'
      obtain ⟨its, r', pl, hz⟩ := I.list hx
      have hlen := r'.length
      exact Calls.call_len_list pl.isList (by simp only [List.size_toArray]; omega) ⟨.int xs.length, H, I.tok _, ⟨_, by simp only [List.size_toArray]; rw [hlen]⟩, q⟩
    · subst e'
      obtain ⟨its, r', pl, hz⟩ := I.tuple hx
      have hlen := r'.length
      exact len_tuple pl (by simp only [List.size_toArray]; omega) ⟨.int xs.length, H, I.tok _, ⟨_, by simp only [List.size_toArray]; rw [hlen]⟩, q⟩
  | _ => exact (show False from e).elim
/-- divmod: a new tuple -/
theorem call_divmod : CallR X (.builtin "divmod") (fun xs H Q => ∃ i j, xs = [.int i, .int j] ∧ CDiv i j ∧ ∀ p, H p = none → Q (.ref p) (upd H p (.tup [.int (i / j), .int (i % j)]))) := by
  intro pins s σ H xs us Q I r h
  obtain ⟨i, j, rfl, ⟨h1, h2⟩, q⟩ := h
  obtain ⟨u, w', rfl, ⟨t, rfl⟩, ⟨t', rfl⟩⟩ := vals2 r
  refine divmod_int (by omega) ?_ (.inl (PyProof.noPylong_small (by omega)))
  rw [Int.fdiv_eq_ediv_of_nonneg i (by omega), Int.fmod_eq_emod_of_nonneg i (by omega)]
  have hn : H s.heap.objs.size = none := I.hok.fresh (Nat.le_refl _)
  refine ⟨.ref s.heap.objs.size, _, ?_, rfl, q _ hn⟩
  refine I.laid (fun b o e => Heap.get?_push_of_some _ e) (Nat.le_refl _) ⟨by simp only [List.length_cons, List.length_nil]; rw [sizeLine_eq]; decide, [.int (i / j) s.toks, .int (i % j) (s.toks + 1)], .cons ⟨_, rfl⟩ (.cons ⟨_, rfl⟩ .nil), ?_⟩
  exact ⟨_, Heap.get?_push_size s.heap rfl, rfl, 0, rfl⟩
end
end L2

namespace L2
open PySem PySem.Spec PyProof.Rows

/-! ### an instance, its attributes a map -/
structure ObjM (h : Heap) (x dx C : Addr) (mA : Str → Option Value) : Prop where
  obj : h.get? x = some (PySem.W.instObj C dx)
  ns : h.Ns1 dx mA
  ne : dx ≠ x

theorem lookIn_ns {h : Heap} {dx : Addr} {mA : Str → Option Value} (n : h.Ns1 dx mA) : ∃ od, h.get? dx = some od ∧ ∀ name, PySem.W.lookIn name od = some (mA name) := by
  obtain ⟨o, es, ep, ho, hd, hk, _, hm⟩ := n
  refine ⟨o, ho, fun name => ?_⟩
  have e := hm name
  unfold nsFind findBy at e
  rw [← Array.find?_toList] at e
  unfold PySem.W.lookIn
  rw [hd]
  dsimp only
  split
  · rename_i y q
    rw [q] at e
    exact congrArg some e
  · rename_i q
    rw [q] at e
    have a : es.toList.any (·.refKey) = false := by
      rw [List.any_eq_false]
      intro y hy
      obtain ⟨z, t, hkey⟩ := hk y (Array.mem_toList_iff.mp hy)
      simp [DictEntry.refKey, hkey]
    have a' : ¬ es.toList.any (·.refKey) = true := by rw [a]; exact Bool.false_ne_true
    rw [if_neg a']
    exact congrArg some e

theorem ObjM.look {h : Heap} {x dx C : Addr} {mA : Str → Option Value} (I : ObjM h x dx C mA) : ∃ od, PySem.W.InstAt h x (PySem.W.instObj C dx) C (some od) ∧ ∀ name, PySem.W.lookIn name od = some (mA name) :=
  let ⟨od, ho, hl⟩ := lookIn_ns I.ns
  ⟨od, ⟨I.obj, rfl, rfl, ho⟩, hl⟩

section
variable {prog : Program} {w : World} {A : Around} {E : Value → Shared → Prop} {s : Shared} {K : PySem.W.Frag} {x dx C f : Addr} {mA : Str → Option Value} {name : Str} {v : Value}

theorem get_map {expr : Bool} {Q : Value → Shared → Prop} (X : K.In s.heap) (I : ObjM s.heap x dx C mA) (hg : PySem.W.plainGet K C name = true) (hh : PySem.W.hasDictIn K C = true)
    (ha : PySem.W.findIn K (.ref C) name = some none) (hv : mA name = some v) (hv' : PySem.W.handedIn v = true) (h : Q v { s with toks := s.toks + 1 }) :
    wpAny (model prog w) A (getAttr (.ref x) name expr) Q E s := by
  obtain ⟨od, J, hl⟩ := I.look
  exact PySem.W.get_value X J (PySem.W.plainGet_of hg).1 (PySem.W.findObj_own hh ha rfl (by rw [hl, hv])) hv' h

theorem get_const {expr : Bool} {a : Value} {Q : Value → Shared → Prop} (X : K.In s.heap) (I : ObjM s.heap x dx C mA) (hg : PySem.W.plainGet K C name = true) (hh : PySem.W.hasDictIn K C = true)
    (ha : PySem.W.findIn K (.ref C) name = some (some a)) (hn : PySem.W.specialIn K a "__get__" = some none) (hc : PySem.W.copiedNames.contains name = false) (hv : mA name = none) (hv' : PySem.W.handedIn a = true)
    (h : Q a { s with toks := s.toks + 1 }) : wpAny (model prog w) A (getAttr (.ref x) name expr) Q E s := by
  obtain ⟨od, J, hl⟩ := I.look
  exact PySem.W.get_value X J (PySem.W.plainGet_of hg).1 (PySem.W.findObj_cls hh ha hn hv' hc (by rw [hl, hv])) hv' h

theorem get_meth {pl : Sem Bool} {Q : Value × List Value → Shared → Prop} (X : K.In s.heap) (I : ObjM s.heap x dx C mA) (hg : PySem.W.plainGet K C name = true)
    (hf : PySem.W.findIn K (.ref C) name = some (some (.ref f))) (ht : PySem.W.isFn K (.ref f) = true) (hv : mA name = none) (h : Q (.ref f, [.ref x]) s) :
    wpAny (model prog w) A (getMethod (.ref x) name pl) Q E s := by
  obtain ⟨od, J, hl⟩ := I.look
  exact PySem.W.method_fn X J (PySem.W.plainGet_of hg).1 (PySem.W.plainGet_of hg).2 hf (beq_iff_eq.mp ht) (by show (PySem.W.lookIn name od).map (·.isSome) = some false; rw [hl, hv]; rfl) h

theorem set_map {ns : List Str} {Q : Unit → Shared → Prop} (X : K.In s.heap) (I : ObjM s.heap x dx C mA)
    (hs : PySem.W.findIn K (.ref C) "__setattr__" = some (some (.builtin "object.__setattr__"))) (hp : PySem.W.plainOver K C = true) (ht : PySem.W.takerIn K C name = some none) (hh : PySem.W.hasDictIn K C = true)
    (hw : PySem.Within mA ns) (hsz : ns.length ≤ sizeLine)
    (h : ∀ h', ObjM h' x dx C (fun y => if y = name then some v else mA y) → Heap.SameBut dx s.heap h' → Q () { s with heap := h', toks := s.toks + 2 }) :
    wpAny (model prog w) A (setAttr (.ref x) name v) Q E s := by
  obtain ⟨od, J, hl⟩ := I.look
  refine PySem.W.set_plain X J hs (PySem.W.osa_open (s := { s with toks := s.toks + 1 }) (r := none) X J hp ht fun b => ?_)
  obtain ⟨cd, hc, hd'⟩ := PySem.W.any_some hh
  have hx : s.heap.get? x = some ⟨.ref C, some dx, .plain, #[]⟩ := I.obj
  refine wpAny_bind (wpAny_pure (wpAny_bind (wpAny_bind (wpAny_loadPart hx (wpAny_bind (PySem.W.Looks.here (s := { s with toks := s.toks + 1 }) (PySem.W.looks_clsIn X hc) ?_))))))
  rw [hd']
  refine wpAny_pure (a := some dx) (wpAny_bind (wpAny_pure (wpAny_bind ?_)))
  refine wpAny_nsSet1 (s := { s with toks := s.toks + 1 }) I.ns fun h' hn2 hs2 => ?_
  obtain ⟨oD, esD, epD, hoD, hdD, hcD⟩ := hn2.count (PySem.Within.cons name v hw)
  refine wpAny_bind (wpAny_lookBehind hoD (by rw [hdD]; exact pastItsLine_dict (Nat.le_trans hcD (by rw [List.length_cons]; omega))) ?_)
  exact wpAny_pure (h _ ⟨(hs2.2 _ (Ne.symm I.ne)).trans I.obj, hn2, I.ne⟩ hs2)

/-- C(..): the dict at the heap's end, the instance behind it; then its __init__ -/
theorem make_map {R : Result → Shared → Prop} {vs : List Value} {kw : List (Str × Value)} (X : K.In s.heap) (hm : PySem.W.makesIn K C = true)
    (hi : PySem.W.findIn K (.ref C) "__init__" = some (some (.ref f))) (hf : PySem.W.typeIn K (.ref f) = some (.type "function"))
    (h : codeAny (model prog w) (A.under (.builtin "type.__call__" ⟨.ref C :: vs, kw⟩)) (.call (.ref f) ⟨.ref (s.heap.objs.size + 1) :: vs, kw⟩) (PySem.W.InitBack (s.heap.objs.size + 1) R)
      { s with heap := (s.heap.push PySem.W.emptyDict).push (PySem.W.instObj C s.heap.objs.size) }) :
    codeAny (model prog w) A (.call (.ref C) ⟨vs, kw⟩) R s := by
  obtain ⟨hh, g, d, t, os⟩ := s
  exact PySem.W.make_core (PySem.W.makes_of X hm) (PySem.W.looks_findIn X hi) (fun self => PySem.W.bind_fn X self hf) (.inl rfl) h
/-- C() where there is no __init__ but object's -/
theorem make_map0 {R : Result → Shared → Prop} (X : K.In s.heap) (hm : PySem.W.makesIn K C = true)
    (hi : PySem.W.findIn K (.ref C) "__init__" = some (some (.builtin "object.__init__")))
    (hb : ∀ self, PySem.W.Looks (model prog w) s.heap (bindSpecial (.builtin "object.__init__") self) (.builtin "object.__init__", [self]))
    (h : codeAny (model prog w) (A.under (.builtin "type.__call__" ⟨[.ref C], []⟩)) (.call (.builtin "object.__init__") ⟨[.ref (s.heap.objs.size + 1)], []⟩) (PySem.W.InitBack (s.heap.objs.size + 1) R)
      { s with heap := (s.heap.push PySem.W.emptyDict).push (PySem.W.instObj C s.heap.objs.size) }) :
    codeAny (model prog w) A (.call (.ref C) ⟨[], []⟩) R s := by
  obtain ⟨hh, g, d, t, os⟩ := s
  exact PySem.W.make_core (PySem.W.makes_of X hm) (PySem.W.looks_findIn X hi) hb (.inr ⟨rfl, rfl⟩) h
end

/-! ### the attributes as a list of pairs -/
def putF (f : Str) (v : V) : List (Str × V) → List (Str × V)
  | [] => [(f, v)]
  | (g, x) :: r => if g = f then (g, v) :: r else (g, x) :: putF f v r
theorem lookup_putF (f g : Str) (v : V) : ∀ fs : List (Str × V), (putF f v fs).lookup g = if g = f then some v else fs.lookup g
  | [] => by
    show List.lookup g [(f, v)] = _
    by_cases h : g = f
    · have hb : (g == f) = true := beq_iff_eq.mpr h
      simp only [List.lookup, hb, if_pos h]
    · have hb : (g == f) = false := beq_eq_false_iff_ne.mpr h
      simp only [List.lookup, hb, if_neg h]
  | (k, x) :: r => by
    have ih := lookup_putF f g v r
    rw [show putF f v ((k, x) :: r) = (if k = f then (k, v) :: r else (k, x) :: putF f v r) from rfl]
    by_cases hk : k = f
    · rw [if_pos hk]
      by_cases h : g = k
      · have hb : (g == k) = true := beq_iff_eq.mpr h
        simp only [List.lookup, hb, if_pos (h.trans hk)]
      · have hb : (g == k) = false := beq_eq_false_iff_ne.mpr h
        simp only [List.lookup, hb, if_neg (fun e : g = f => h (e.trans hk.symm))]
    · rw [if_neg hk]
      by_cases h : g = k
      · have hb : (g == k) = true := beq_iff_eq.mpr h
        simp only [List.lookup, hb, if_neg (fun e : g = f => hk (h.symm.trans e))]
      · have hb : (g == k) = false := beq_eq_false_iff_ne.mpr h
        simp only [List.lookup, hb]
        exact ih
theorem keys_putF (f : Str) (v : V) : ∀ fs : List (Str × V), f ∈ (putF f v fs).map (·.1) ∧ ∀ g, g ∈ fs.map (·.1) → g ∈ (putF f v fs).map (·.1)
  | [] => ⟨by simp [putF], fun g h => by simp at h⟩
  | (k, x) :: r => by
    obtain ⟨i1, i2⟩ := keys_putF f v r
    rw [show putF f v ((k, x) :: r) = (if k = f then (k, v) :: r else (k, x) :: putF f v r) from rfl]
    by_cases hk : k = f
    · rw [if_pos hk]
      subst hk
      exact ⟨by simp, fun g h => by simpa using h⟩
    · rw [if_neg hk]
      refine ⟨?_, fun g h => ?_⟩
      · rw [List.map_cons]
        exact List.mem_cons_of_mem _ i1
      · rw [List.map_cons] at h ⊢
        rcases List.mem_cons.mp h with e | e
        · exact List.mem_cons.mpr (.inl e)
        · exact List.mem_cons_of_mem _ (i2 g e)
theorem length_putF (f : Str) (v : V) : ∀ fs : List (Str × V), (putF f v fs).length ≤ fs.length + 1
  | [] => by simp [putF]
  | (k, x) :: r => by
    have ih := length_putF f v r
    rw [show putF f v ((k, x) :: r) = (if k = f then (k, v) :: r else (k, x) :: putF f v r) from rfl]
    by_cases hk : k = f
    · rw [if_pos hk, List.length_cons, List.length_cons]; omega
    · rw [if_neg hk, List.length_cons, List.length_cons]; omega

theorem RelO.some_of {v : V} {o : Option Value} (r : RelO (some v) o) : ∃ u, o = some u ∧ RelV v u := by
  cases o with
  | none => exact (show False from r).elim
  | some u => exact ⟨u, rfl, r⟩
theorem RelO.none_of {o : Option Value} (r : RelO none o) : o = none := by
  cases o with
  | none => rfl
  | some u => exact (show False from r).elim
theorem handed_of {v : V} {u : Value} (r : RelV v u) : PySem.W.handedIn u = true := by
  cases v with
  | non => cases (show u = Value.none from r); rfl
  | bl b => cases (show u = Value.bool b from r); rfl
  | int i => obtain ⟨t, e⟩ := (show ∃ t, u = Value.int i t from r); cases e; rfl
  | str x => obtain ⟨t, e⟩ := (show ∃ t, u = Value.str x t from r); cases e; rfl
  | byt b => obtain ⟨t, e⟩ := (show ∃ t, u = Value.bytes b t from r); cases e; rfl
  | flt b => obtain ⟨t, e⟩ := (show ∃ t, u = Value.float b t from r); cases e; rfl
  | ref a => cases (show u = Value.ref a from r); rfl
  | ty n => cases (show u = Value.type n from r); rfl

section
variable {P : Program} {w : World} {H H' : Hp} {h h' : Heap} {a C dx : Addr} {fs fs' : List (Str × V)}
theorem ins_get (hok : HOk P w H h) (e : H a = some (.ins C dx fs)) : ∃ mA, ObjM h a dx C mA ∧ (∀ f, RelO (fs.lookup f) (mA f)) ∧ PySem.Within mA (fs.map (·.1)) ∧ fs.length ≤ 1000 ∧ H dx = some (.own a) := by
  obtain ⟨d, z, ne, ob, mA, n, r, q⟩ := (show ObjOk P w H h a (.ins C dx fs) from hok a _ e)
  exact ⟨mA, ⟨ob, n, ne⟩, r, q, z, d⟩
end

/-! ### what of the text a class must have -/
structure Cls (K : PySem.W.Frag) (C : Addr) : Prop where
  pg : PySem.W.plainGet K C Str.empty = true
  hd : PySem.W.hasDictIn K C = true
  po : PySem.W.plainOver K C = true
  sa : PySem.W.findIn K (.ref C) "__setattr__" = some (some (.builtin "object.__setattr__"))
theorem Cls.get {K : PySem.W.Frag} {C : Addr} (c : Cls K C) (f : Str) : PySem.W.plainGet K C f = true := c.pg
/-- no class of it has the name -/
def NoAttr (K : PySem.W.Frag) (C : Addr) (f : Str) : Prop := PySem.W.findIn K (.ref C) f = some none
theorem NoAttr.taker {K : PySem.W.Frag} {C : Addr} {f : Str} (n : NoAttr K C f) : PySem.W.takerIn K C f = some none := by
  unfold PySem.W.takerIn
  rw [show PySem.W.findIn K (.ref C) f = some none from n]
  rfl
/-- a constant of the class -/
structure Con (K : PySem.W.Frag) (C : Addr) (f : Str) (v : V) (u : Value) : Prop where
  at_ : PySem.W.findIn K (.ref C) f = some (some u)
  rel : RelV v u
  get : PySem.W.specialIn K u "__get__" = some none
  cp : PySem.W.copiedNames.contains f = false
/-- a method: a plain def of the class or of one above it -/
structure Meth (K : PySem.W.Frag) (C : Addr) (m : Str) (f : Addr) : Prop where
  at_ : PySem.W.findIn K (.ref C) m = some (some (.ref f))
  fn : PySem.W.isFn K (.ref f) = true
  kp : PySem.W.keepIn K (.ref f) = true

section
variable {X : Cx} {pins : List (Addr × Obj)} {σ : St} {H : Hp} {s : Shared} {a C dx : Addr} {fs : List (Str × V)} {f : Str} {v : V} {A : Around} {E : Value → Shared → Prop}

theorem getattr_ok {b : Bool} {Q : Value → Shared → Prop} (I : Inv X pins σ H s) (e : H a = some (.ins C dx fs)) (c : Cls X.K C) (n : NoAttr X.K C f) (l : fs.lookup f = some v)
    (h : ∀ u s', Inv X pins σ H s' → RelV v u → Q u s') : wpAny (model X.prog X.w) A (getAttr (.ref a) f b) Q E s := by
  obtain ⟨mA, O, r, _, _, _⟩ := ins_get I.hok e
  obtain ⟨u, hu, ru⟩ := RelO.some_of (v := v) (o := mA f) (by rw [← l]; exact r f)
  exact get_map I.kIn O (c.get f) c.hd n hu (handed_of ru) (h u _ (I.tok _) ru)

theorem getcon_ok {b : Bool} {u : Value} {Q : Value → Shared → Prop} (I : Inv X pins σ H s) (e : H a = some (.ins C dx fs)) (c : Cls X.K C) (k : Con X.K C f v u) (l : fs.lookup f = none)
    (h : ∀ s', Inv X pins σ H s' → Q u s') : wpAny (model X.prog X.w) A (getAttr (.ref a) f b) Q E s := by
  obtain ⟨mA, O, r, _, _, _⟩ := ins_get I.hok e
  have hn : mA f = none := RelO.none_of (by rw [← l]; exact r f)
  exact get_const I.kIn O (c.get f) c.hd k.at_ k.get k.cp hn (handed_of k.rel) (h _ (I.tok _))

theorem getmeth_ok {m : Str} {g : Addr} {pl : Sem Bool} {Q : Value × List Value → Shared → Prop} (I : Inv X pins σ H s) (e : H a = some (.ins C dx fs)) (c : Cls X.K C) (k : Meth X.K C m g) (l : fs.lookup m = none)
    (h : Q (.ref g, [.ref a]) s) : wpAny (model X.prog X.w) A (getMethod (.ref a) m pl) Q E s := by
  obtain ⟨mA, O, r, _, _, _⟩ := ins_get I.hok e
  have hn : mA m = none := RelO.none_of (by rw [← l]; exact r m)
  exact get_meth I.kIn O (c.get m) k.at_ k.fn hn h

theorem setattr_ok {y : V} {u : Value} {Q : Unit → Shared → Prop} (I : Inv X pins σ H s) (e : H a = some (.ins C dx fs)) (c : Cls X.K C) (n : NoAttr X.K C f) (hl : fs.length < 1000) (ry : RelV y u)
    (h : ∀ s', Inv X pins σ (upd H a (.ins C dx (putF f y fs))) s' → Q () s') : wpAny (model X.prog X.w) A (setAttr (.ref a) f u) Q E s := by
  obtain ⟨mA, O, r, wi, _, ho⟩ := ins_get I.hok e
  have hz : (fs.map (·.1)).length ≤ sizeLine := by rw [List.length_map, sizeLine_eq]; omega
  refine set_map I.kIn O c.sa c.po n.taker c.hd wi hz fun h' O' sb => h _ ?_
  have hd : ∃ o, h'.get? dx = some o := let ⟨o, _, _, e', _⟩ := O'.ns; ⟨o, e'⟩
  refine I.write (x := a) (e := dx) (by rw [e]; exact True.intro) (.inr ho) (fun b q hb z => (sb.2 b hb).trans z) hd ?_
  refine ⟨by rw [upd_ne O.ne]; exact ho, ?_, O.ne, O'.obj, _, O'.ns, fun g => ?_, fun g hg => ?_⟩
  · have := length_putF f y fs; omega
  · show RelO ((putF f y fs).lookup g) (if g = f then some u else mA g)
    rw [lookup_putF]
    by_cases q : g = f
    · rw [if_pos q, if_pos q]; exact ry
    · rw [if_neg q, if_neg q]; exact r g
  · by_cases q : g = f
    · rw [q]; exact (keys_putF f y fs).1
    · refine (keys_putF f y fs).2 g (wi g fun z => hg ?_)
      show (if g = f then some u else mA g) = none
      rw [if_neg q]; exact z

/-- a new instance, tracked, without attributes -/
theorem Inv.made (I : Inv X pins σ H s) : Inv X pins σ (upd (upd H s.heap.objs.size (.own (s.heap.objs.size + 1))) (s.heap.objs.size + 1) (.ins C s.heap.objs.size []))
    { s with heap := (s.heap.push PySem.W.emptyDict).push (PySem.W.instObj C s.heap.objs.size) } := by
  have e1 : (s.heap.push PySem.W.emptyDict).get? s.heap.objs.size = some PySem.W.emptyDict := Heap.get?_push_size s.heap rfl
  have e2 : ((s.heap.push PySem.W.emptyDict).push (PySem.W.instObj C s.heap.objs.size)).get? (s.heap.objs.size + 1) = some (PySem.W.instObj C s.heap.objs.size) := by
    have := Heap.get?_push_size (s.heap.push PySem.W.emptyDict) (o := PySem.W.instObj C s.heap.objs.size) rfl
    rwa [Heap.size_push] at this
  have e3 : (s.heap.push PySem.W.emptyDict).Ns s.heap.objs.size (fun _ => none) := ⟨PySem.W.emptyDict, #[], _, e1, rfl, (fun e he => absurd he (by simp)), fun _ => rfl⟩
  have I1 := I.laid (a := s.heap.objs.size) (o := .own (s.heap.objs.size + 1)) (h' := s.heap.push PySem.W.emptyDict) (t' := s.toks) (fun b u q => Heap.get?_push_of_some _ q) (Nat.le_refl _) ⟨_, e1⟩
  refine I1.laid (a := s.heap.objs.size + 1) (o := .ins C s.heap.objs.size []) (t' := s.toks) (fun b u q => Heap.get?_push_of_some _ q) (Nat.le_of_eq (Heap.size_push _ _)) ?_
  have ne : s.heap.objs.size ≠ s.heap.objs.size + 1 := Nat.ne_of_lt (Nat.lt_succ_self _)
  refine ⟨by rw [upd_ne ne, upd_same], Nat.zero_le _, ne, e2, fun _ => none, (Heap.Ns1.of_empty e3).at fun o q => Heap.get?_push_of_some _ q, fun _ => True.intro, fun y hy => absurd rfl hy⟩

/-- e.f where nothing but the object is asked: through attributeBase (super) and the last hold -/
theorem attr_of {prog : Program} {w : World} {env : Env} {e : Expr} {f : Str} {pos : Pos} {s : Shared} {Q : Value → Shared → Prop} (hb : attributeBase e f env (eval e env) = eval e env)
    (h : wpAny (model prog w) A (eval e env) (fun o s₁ => wpAny (model prog w) A (getAttr o f true) Q E s₁) E s) : wpAny (model prog w) A (eval (.Attribute e f pos) env) Q E s :=
  Attribute_any_ h (by rw [arm_eval_Attribute, hb])
end

/-! ### readings and rules -/
/-- e.f, an attribute of the instance -/
def tFld (K : PySem.W.Frag) (ta : TE) (f : Str) : TE := fun σ H Q => ta σ H fun x H1 => ∃ a C dx fs v, x = .ref a ∧ H1 a = some (.ins C dx fs) ∧ Cls K C ∧ NoAttr K C f ∧ fs.lookup f = some v ∧ Q v H1
/-- e.f, a constant of the class -/
def tCon (K : PySem.W.Frag) (ta : TE) (f : Str) : TE := fun σ H Q => ta σ H fun x H1 => ∃ a C dx fs v u, x = .ref a ∧ H1 a = some (.ins C dx fs) ∧ Cls K C ∧ Con K C f v u ∧ fs.lookup f = none ∧ Q v H1
/-- e.f = value -/
def sFld (K : PySem.W.Frag) (ta tv : TE) (f : Str) : TS := fun D σ H => tv σ H fun y H1 => ta σ H1 fun x H2 => ∃ a C dx fs, x = .ref a ∧ H2 a = some (.ins C dx fs) ∧ Cls K C ∧ NoAttr K C f ∧ fs.length < 1000 ∧
  D.nx σ (upd H2 a (.ins C dx (putF f y fs)))
/-- an augmented operator on two values -/
def InOp (X : Cx) (op : Operator) (rd : V → V → Hp → VK → Prop) : Prop :=
  ∀ (pins : List (Addr × Obj)) (s : Shared) (σ : St) (H : Hp) (x y : V) (u v : Value) (Q : VK), Inv X pins σ H s → RelV x u → RelV y v → rd x y H Q → wpAny (model X.prog X.w) X.A (inplaceOp op u v) (EP X pins σ Q) X.xe s
/-- e.f op= value -/
def sFldAug (K : PySem.W.Frag) (ta tv : TE) (rd : V → V → Hp → VK → Prop) (f : Str) : TS := fun D σ H => ta σ H fun x H1 => ∃ a C dx fs v, x = .ref a ∧ H1 a = some (.ins C dx fs) ∧ Cls K C ∧ NoAttr K C f ∧ fs.lookup f = some v ∧
  tv σ H1 fun y H2 => rd v y H2 fun z H3 => ∃ dx' fs', H3 a = some (.ins C dx' fs') ∧ fs'.length < 1000 ∧ D.nx σ (upd H3 a (.ins C dx' (putF f z fs')))

section
variable {X : Cx} {o e value : Expr} {f : Str} {pos pos' tpos : Pos} {ta tv : TE}
theorem pe_fld (he : PE X e ta) (hb : attributeBase e f X.env (eval e X.env) = eval e X.env) : PE X (.Attribute e f pos) (tFld X.K ta f) := by
  intro pins s σ H Q I h
  refine attr_of hb (thn (he pins s σ H _ I h) fun u s1 ⟨x, H1, I1, rx, a, C, dx, fs, v, ex, ea, c, n, l, q⟩ => ?_)
  subst ex
  obtain rfl : u = Value.ref a := rx
  exact getattr_ok I1 ea c n l fun u' s2 I2 ru => ⟨v, H1, I2, ru, q⟩
theorem pe_con (he : PE X e ta) (hb : attributeBase e f X.env (eval e X.env) = eval e X.env) : PE X (.Attribute e f pos) (tCon X.K ta f) := by
  intro pins s σ H Q I h
  refine attr_of hb (thn (he pins s σ H _ I h) fun u s1 ⟨x, H1, I1, rx, a, C, dx, fs, v, u0, ex, ea, c, k, l, q⟩ => ?_)
  subst ex
  obtain rfl : u = Value.ref a := rx
  exact getcon_ok I1 ea c k l fun s2 I2 => ⟨v, H1, I2, k.rel, q⟩
theorem ps_fld (ha : PE X o ta) (hv : PE X value tv) (hs : swapsWith value (some (.Attribute o f pos')) pos.line X.env = pure false) : PS X (.Assign [.Attribute o f pos'] value pos) (sFld X.K ta tv f) := by
  intro pins s σ H D I h
  refine plainObj_wpAny_Assign_Attribute (thn (hv pins s σ H _ I h) fun u s1 ⟨y, H1, I1, ry, q⟩ => thn (ha pins s1 σ H1 _ I1 q) fun ov s2 ⟨x, H2, I2, rx, a, C, dx, fs, ex, ea, c, n, l, q2⟩ => ?_) hs
  subst ex
  obtain rfl : ov = Value.ref a := rx
  exact setattr_ok I2 ea c n l ry fun s3 I3 => ⟨σ, _, I3, q2⟩
theorem ps_fldaug {op : Operator} {rd : V → V → Hp → VK → Prop} (ha : PE X o ta) (hv : PE X value tv) (hop : InOp X op rd) : PS X (.AugAssign (.Attribute o f tpos) op value pos) (sFldAug X.K ta tv rd f) := by
  intro pins s σ H D I h
  refine wpAny_AugAssign_AttributeAny (thn (ha pins s σ H _ I h) fun ov s1 ⟨x, H1, I1, rx, a, C, dx, fs, v, ex, ea, c, n, l, q⟩ => ?_)
  subst ex
  obtain rfl : ov = Value.ref a := rx
  refine getattr_ok I1 ea c n l fun u s2 I2 ru => thn (hv pins s2 σ H1 _ I2 q) fun w3 s3 ⟨y, H2, I3, ry, q3⟩ => thn (hop pins s3 σ H2 v y u w3 _ I3 ru ry q3) fun w4 s4 ⟨z, H3, I4, rz, dx', fs', ea', l', q4⟩ => ?_
  exact setattr_ok I4 ea' c n l' rz fun s5 I5 => ⟨σ, _, I5, q4⟩
def rAdd : V → V → Hp → VK → Prop := fun x y H Q => ∃ i j, x = .int i ∧ y = .int j ∧ Q (.int (i + j)) H
def rSub : V → V → Hp → VK → Prop := fun x y H Q => ∃ i j, x = .int i ∧ y = .int j ∧ Q (.int (i - j)) H
theorem in_add : InOp X .Add rAdd := by
  rintro pins s σ H x y u v Q I rx ry ⟨i, j, rfl, rfl, q⟩
  obtain ⟨t, rfl⟩ := (show ∃ t, u = Value.int i t from rx)
  obtain ⟨t', rfl⟩ := (show ∃ t', v = Value.int j t' from ry)
  exact PyProof.Rows.iadd_int ⟨.int (i + j), H, I.tok _, ⟨_, rfl⟩, q⟩
theorem in_sub : InOp X .Sub rSub := by
  rintro pins s σ H x y u v Q I rx ry ⟨i, j, rfl, rfl, q⟩
  obtain ⟨t, rfl⟩ := (show ∃ t, u = Value.int i t from rx)
  obtain ⟨t', rfl⟩ := (show ∃ t', v = Value.int j t' from ry)
  exact PyProof.Rows.isub_int ⟨.int (i - j), H, I.tok _, ⟨_, rfl⟩, q⟩

/-- what is between an instance and its method: the tree of a method call -/
theorem methcall_of {pl : Sem Bool} {m : Str} {apos : Pos} {args : List Expr} {pins : List (Addr × Obj)} {s : Shared} {σ : St} {H : Hp} {Q : Value → Shared → Prop} {te : TE} (he : PE X e te) (I : Inv X pins σ H s)
    (h : te σ H fun x H1 => ∃ a C dx fs g, x = .ref a ∧ H1 a = some (.ins C dx fs) ∧ Cls X.K C ∧ Meth X.K C m g ∧ fs.lookup m = none ∧
      ∀ s1, Inv X pins σ H1 s1 → wpAny (model X.prog X.w) X.A (callWith pos (.ref g) [.ref a] (backTo pos (starEach args X.env)) (backToKw pos (keywordEach [] X.env))) Q X.xe s1)
    (ht : eval (.Call (.Attribute e m apos) args [] pos) X.env = (do
      let ov ← eval e X.env
      standAt apos.atName
      let (f, first) ← holding [ov] (getMethod ov m pl)
      callWith pos f first (backTo pos (starEach args X.env)) (backToKw pos (keywordEach [] X.env)))) :
    wpAny (model X.prog X.w) X.A (eval (.Call (.Attribute e m apos) args [] pos) X.env) Q X.xe s := by
  refine PySem.W.methodCall_KW (pl := pl) (thn (he pins s σ H _ I h) fun u s1 ⟨x, H1, I1, rx, a, C, dx, fs, g, ex, ea, c, k, l, q⟩ => ?_) ht
  subst ex
  obtain rfl : u = Value.ref a := rx
  exact getmeth_ok I1 ea c k l (q s1 I1)
end

/-! ### isinstance -/
section
variable {X : Cx} {pins : List (Addr × Obj)} {σ : St} {H : Hp} {s : Shared} {A : Around} {E : Value → Shared → Prop} {Q : Value → Shared → Prop} {c : Value} {b : Bool}
/-- the type of a value, as the fragment's deciders take it; for an instance its class -/
inductive TyOf (K : PySem.W.Frag) (H : Hp) : V → Value → Prop where
  | non : TyOf K H .non (.type "NoneType")
  | bl (x : Bool) : TyOf K H (.bl x) (.type "bool")
  | int (i : Int) : TyOf K H (.int i) (.type "int")
  | str (x : Str) : TyOf K H (.str x) (.type "str")
  | flt (x : UInt64) : TyOf K H (.flt x) (.type "float")
  | lst {a : Addr} {xs : List V} (e : H a = some (.lst xs)) : TyOf K H (.ref a) (.type "list")
  | frz {a : Addr} {o : Obj} {xs : List V} (e : H a = some (.frz o (.lst xs))) : TyOf K H (.ref a) (.type "list")
  | tup {a : Addr} {xs : List V} (e : H a = some (.tup xs)) : TyOf K H (.ref a) (.type "tuple")
  | dK {a : Addr} {kvs : List (Key × V)} (e : H a = some (.dK kvs)) : TyOf K H (.ref a) (.type "dict")
  | dT {a : Addr} {kvs : List (List Key × V)} (e : H a = some (.dT kvs)) : TyOf K H (.ref a) (.type "dict")
  | ins {a C dx : Addr} {fs : List (Str × V)} (e : H a = some (.ins C dx fs)) (cl : Cls K C) (ha : PySem.W.findIn K (.ref C) "__class__" = some (some (.builtin "object.__class__")))
      (hn : PySem.W.specialIn K (.builtin "object.__class__") "__get__" = some (some (.builtin "getset_descriptor.__get__"))) (htk : PySem.W.takesIn K (.builtin "object.__class__") = some true)
      (hm : PySem.W.mroIn K C (.type "object") = some true) : TyOf K H (.ref a) (.ref C)
/-- isinstance(x, c) for one class c, a built-in or an own one: kitOne's answer -/
theorem isinst_ok {x : V} {u t : Value} (I : Inv X pins σ H s) (rx : RelV x u) (ty : TyOf X.K H x t) (e : PySem.W.kitOne X.K t c = some b) (h : ∀ tk, Q (.bool b) { s with toks := tk }) :
    wpAny (model X.prog X.w) A (call (.builtin "isinstance") [u, c]) Q E s := by
  cases ty with
  | non => cases (show u = Value.none from rx); exact PySem.W.kia_one PySem.W.kitx_none I.kIn True.intro e (fun z => nomatch z) h
  | bl y => cases (show u = Value.bool y from rx); exact PySem.W.kia_one PySem.W.kitx_bool I.kIn True.intro e (fun z => nomatch z) h
  | int i => obtain ⟨t, q⟩ := (show ∃ t, u = Value.int i t from rx); cases q; exact PySem.W.kia_one PySem.W.kitx_int I.kIn True.intro e (fun z => nomatch z) h
  | str y => obtain ⟨t, q⟩ := (show ∃ t, u = Value.str y t from rx); cases q; exact PySem.W.kia_one PySem.W.kitx_str I.kIn True.intro e (fun z => nomatch z) h
  | flt y => obtain ⟨t, q⟩ := (show ∃ t, u = Value.float y t from rx); cases q; exact PySem.W.kia_one PySem.W.kitx_float I.kIn True.intro e (fun z => nomatch z) h
  | @lst a xs ea =>
    cases (show u = Value.ref a from rx)
    obtain ⟨_, _, n, _, h1⟩ := (show ObjOk X.prog X.w H s.heap a (.lst xs) from I.hok a _ ea)
    exact PySem.W.kia_one PySem.W.kitx_list I.kIn ⟨_, h1, rfl⟩ e (fun z => nomatch z) h
  | @frz a ob xs ea =>
    cases (show u = Value.ref a from rx)
    obtain ⟨_, _, _, n, _, h1⟩ := (show ObjOk X.prog X.w H s.heap a (.frz ob (.lst xs)) from I.hok a _ ea)
    exact PySem.W.kia_one PySem.W.kitx_list I.kIn ⟨_, h1, rfl⟩ e (fun z => nomatch z) h
  | @tup a xs ea =>
    cases (show u = Value.ref a from rx)
    obtain ⟨_, _, _, p⟩ := (show ObjOk X.prog X.w H s.heap a (.tup xs) from I.hok a _ ea)
    obtain ⟨o, h1, h2, _⟩ := p
    exact PySem.W.kia_one PySem.W.kitx_tuple I.kIn ⟨o, h1, h2⟩ e (fun z => nomatch z) h
  | @dK a kvs ea =>
    cases (show u = Value.ref a from rx)
    obtain ⟨_, _, vs, _, p⟩ := (show ObjOk X.prog X.w H s.heap a (.dK kvs) from I.hok a _ ea)
    obtain ⟨o, es, ep, h1, h2, _⟩ := p
    exact PySem.W.kia_one PySem.W.kitx_dict I.kIn ⟨o, h1, h2.1⟩ e (fun z => nomatch z) h
  | @dT a kvs ea =>
    cases (show u = Value.ref a from rx)
    obtain ⟨_, _, xs, _, o, es, ep, h1, h2, _⟩ := (show ObjOk X.prog X.w H s.heap a (.dT kvs) from I.hok a _ ea)
    exact PySem.W.kia_one PySem.W.kitx_dict I.kIn ⟨o, h1, h2.1⟩ e (fun z => nomatch z) h
  | @ins a C dx fs ea cl ha hn htk hm =>
    cases (show u = Value.ref a from rx)
    obtain ⟨mA, O, _⟩ := ins_get I.hok ea
    obtain ⟨od, J, _⟩ := O.look
    exact PySem.W.kia_one (PySem.W.kitx_own (cl.get _) cl.hd ha hn htk hm) I.kIn J e (fun z => nomatch z) h
end
end L2

namespace L2
open PySem PySem.Spec PyProof.Rows

/-! ### room -/
structure Room (k : Nat) (A : Around) : Prop where
  hd : A.handled = none
  dp : A.depth + 3 * k + 5 < recursionLimit
  un : A.units + 16 * k + 200 < cLine
theorem Room.mono {j k : Nat} {A : Around} (r : Room k A) (h : j ≤ k) : Room j A := ⟨r.hd, by have := r.dp; omega, by have := r.un; omega⟩
theorem Room.deeper {k : Nat} {A : Around} (r : Room (k + 1) A) (env : Env) : Room k (A.deeper env) :=
  ⟨r.hd, by have := r.dp; show A.depth + 1 + 3 * k + 5 < _; omega, by have := r.un; show A.units + 3 + 16 * k + 200 < _; omega⟩
theorem Room.in1 {k : Nat} {A : Around} (r : Room (k + 1) A) : Room k A.in1 :=
  ⟨r.hd, by have := r.dp; show A.depth + 3 * k + 5 < _; omega, by have := r.un; show A.units + 1 + 16 * k + 200 < _; omega⟩
theorem make_depth {A : Around} {C : Addr} {us : List Value} {kw : List (Str × Value)} : (A.under (.builtin "type.__call__" ⟨.ref C :: us, kw⟩)).depth = A.depth + 1 := by
  first | rfl | simp [Around.under, Code.weight, Code.isCreation, Code.isGuard, Code.isCaller, Code.frames, Code.isFrame, guardIds]
theorem make_units {A : Around} {C : Addr} {us : List Value} {kw : List (Str × Value)} : (A.under (.builtin "type.__call__" ⟨.ref C :: us, kw⟩)).units = A.units + 1 := by
  first | rfl | simp [Around.under, Code.cUnits, Code.frames, Code.isFrame]
theorem Room.make {k : Nat} {A : Around} (r : Room (k + 1) A) (C : Addr) (us : List Value) (kw : List (Str × Value)) : Room k (A.under (.builtin "type.__call__" ⟨.ref C :: us, kw⟩)) :=
  ⟨r.hd, by have := r.dp; rw [make_depth]; omega, by have := r.un; rw [make_units]; omega⟩
theorem Room.depth {k : Nat} {A : Around} (r : Room k A) : A.depth < recursionLimit := by have := r.dp; omega
theorem Room.units {k : Nat} {A : Around} (r : Room k A) : A.units + 64 < cLine := by have := r.un; omega
theorem Room.units0 {k : Nat} {A : Around} (r : Room k A) : A.units < cLine := by have := r.un; omega

/-! ### argument lists and displays -/
def tNil : TA := fun _ H Q => Q [] H
def tCons (ta : TE) (tr : TA) : TA := fun σ H Q => ta σ H fun x H1 => tr σ H1 fun xs H2 => Q (x :: xs) H2
section
variable {X : Cx} {e : Expr} {es : List Expr} {te : TE} {t : TA} {pos : Pos}
theorem pa_nil : PA X [] tNil := fun _ _ _ _ H Q I h => Calls.spliced_nil ⟨[], H, I, .nil, h⟩
theorem pa_cons (ha : PE X e te) (hr : PA X es t) (hs : starEach (e :: es) X.env = (false, eval e X.env) :: starEach es X.env := by rfl) : PA X (e :: es) (tCons te t) := by
  intro pos pins s σ H Q I h
  rw [hs]
  show wpAny _ _ (spliced ((false, eval e X.env) :: backTo pos (starEach es X.env))) _ _ s
  refine Calls.spliced_cons (thn (ha pins s σ H _ I h) fun u s1 ⟨x, H1, I1, r1, q1⟩ => ?_)
  exact thn (hr pos pins s1 σ H1 _ I1 q1) fun us s2 ⟨xs, H2, I2, r2, q2⟩ => ⟨x :: xs, H2, I2, .cons r1 r2, q2⟩

/-- a tuple, a list of written items -/
def tTup (t : TA) : TE := fun σ H Q => t σ H fun xs H1 => xs.length ≤ sizeLine ∧ ∀ p, H1 p = none → Q (.ref p) (upd H1 p (.tup xs))
def tLst (t : TA) : TE := fun σ H Q => t σ H fun xs H1 => xs.length ≤ sizeLine ∧ ∀ p, H1 p = none → Q (.ref p) (upd H1 p (.lst xs))
theorem pe_tup {x1} (h : PA X es t) : PE X (.Tuple es x1 pos) (tTup t) := by
  intro pins s σ H Q I hq
  refine wpAny_Tuple_spliced (thn (h pos pins s σ H _ I hq) fun us s1 ⟨xs, H1, I1, r, z, q⟩ => ⟨by rw [← r.length]; exact z, ?_⟩)
  have hf : H1 s1.heap.objs.size = none := I1.hok.fresh (Nat.le_refl _)
  refine ⟨.ref s1.heap.objs.size, upd H1 s1.heap.objs.size (.tup xs), I1.laid (t' := s1.toks) (fun b u e => Heap.get?_push_of_some _ e) (Nat.le_refl _) ?_, rfl, q _ hf⟩
  exact ⟨z, us, r, ⟨_, Heap.get?_push_size _ rfl, rfl, _, rfl⟩⟩
theorem pe_lst (h : PA X es t) : PE X (.List es pos) (tLst t) := by
  intro pins s σ H Q I hq
  refine wpAny_List_spliced (thn (h pos pins s σ H _ I hq) fun us s1 ⟨xs, H1, I1, r, z, q⟩ => ⟨by rw [← r.length]; exact z, ?_⟩)
  have hf : H1 s1.heap.objs.size = none := I1.hok.fresh (Nat.le_refl _)
  refine ⟨.ref s1.heap.objs.size, upd H1 s1.heap.objs.size (.lst xs), I1.laid (t' := s1.toks) (fun b u e => Heap.get?_push_of_some _ e) (Nat.le_refl _) ?_, rfl, q _ hf⟩
  exact ⟨z, us, 0, r, Heap.get?_push_size _ rfl⟩
end

/-! ### what a def promises -/
/-- a def's promise: the bound arguments in the parameters' order, the heap, the wanted end, the wanted exception -/
abbrev Sp := List V → Hp → VK → XK → Prop
/-- how an exception lies behind a call (file 08 gives it): the callers' frames, abstract heap and state ahead of the call, the wish, the exception, the state -/
abbrev CXT := List Env → Hp → Shared → XK → Value → Shared → Prop

/-- the state at a call -/
structure Env0 (P : Program) (w : World) (K : PySem.W.Frag) (mg : Str → Option Value) (base : Heap) (A : Around) (outer : List Env) (s : Shared) (H : Hp) : Prop where
  frames : A.frames = some outer
  mod : Mod K mg base
  bs : ∀ b o, base.get? b = some o → s.heap.get? b = some o ∧ H b = none
  bsz : base.objs.size ≤ s.heap.objs.size
  funs : s.heap.FunFrames base outer
  frf : ∀ b ∈ frs outer, H b = none
  hok : HOk P w H s.heap
  bare : AllBare s.gens
/-- a call's end -/
def CE (outer : List Env) (P : Program) (w : World) (H : Hp) (s : Shared) (Q : VK) (u : Value) (s' : Shared) : Prop :=
  ∃ v H', s'.os = s.os ∧ AllBare s'.gens ∧ Un (frs outer) [] H H' s.heap s'.heap ∧ HOk P w H' s'.heap ∧ RelV v u ∧ Q v H'
def CR (CX : CXT) (outer : List Env) (P : Program) (w : World) (H : Hp) (s : Shared) (Q : VK) (E : XK) (r : Result) (s' : Shared) : Prop :=
  match r with
  | .ok (.ret u) => CE outer P w H s Q u s'
  | .ok _ => False
  | .error e => CX outer H s E e s'
structure FnOk (P : Program) (w : World) (K : PySem.W.Frag) (mg : Str → Option Value) (base : Heap) (CX : CXT) (k : Nat) (f : Addr) (fd : FuncData) (ps : List Str) (sp : Sp) : Prop where
  len : ∀ vs H Q E, sp vs H Q E → vs.length = ps.length
  run : ∀ (A : Around) (outer : List Env) (s : Shared) (H : Hp) (args : Args) (us : List Value) (vs : List V) (Q : VK) (E : XK), Room k A → Env0 P w K mg base A outer s H → BindsTo s fd args (ps.zip us) → Vals vs us → sp vs H Q E →
    codeAny (model P w) A (.call (.ref f) args) (CR CX outer P w H s Q E) s
theorem FnOk.mono {P : Program} {w : World} {K : PySem.W.Frag} {mg : Str → Option Value} {base : Heap} {CX : CXT} {j k : Nat} {f : Addr} {fd : FuncData} {ps : List Str} {sp : Sp} (F : FnOk P w K mg base CX j f fd ps sp) (h : j ≤ k) :
    FnOk P w K mg base CX k f fd ps sp := ⟨F.len, fun A outer s H args us vs Q E hr => F.run A outer s H args us vs Q E (hr.mono h)⟩
/-- a weaker promise -/
theorem FnOk.imp {P : Program} {w : World} {K : PySem.W.Frag} {mg : Str → Option Value} {base : Heap} {CX : CXT} {k : Nat} {f : Addr} {fd : FuncData} {ps : List Str} {sp sp' : Sp} (F : FnOk P w K mg base CX k f fd ps sp)
    (h : ∀ vs H Q E, sp' vs H Q E → sp vs H Q E) : FnOk P w K mg base CX k f fd ps sp' :=
  ⟨fun vs H Q E q => F.len vs H Q E (h _ _ _ _ q), fun A outer s H args us vs Q E hr he hb hv hs => F.run A outer s H args us vs Q E hr he hb hv (h _ _ _ _ hs)⟩

theorem Env0.make {P : Program} {w : World} {K : PySem.W.Frag} {mg : Str → Option Value} {base : Heap} {A : Around} {outer : List Env} {s : Shared} {H : Hp} (e : Env0 P w K mg base A outer s H) (C : Addr) (us : List Value) (kw : List (Str × Value)) :
    Env0 P w K mg base (A.under (.builtin "type.__call__" ⟨.ref C :: us, kw⟩)) outer s H := ⟨by first | exact e.frames | (simpa [Around.under, Code.envs, Code.isFrame, pushEnvs] using e.frames), e.mod, e.bs, e.bsz, e.funs, e.frf, e.hok, e.bare⟩
theorem Env0.in1 {P : Program} {w : World} {K : PySem.W.Frag} {mg : Str → Option Value} {base : Heap} {A : Around} {outer : List Env} {s : Shared} {H : Hp} (e : Env0 P w K mg base A outer s H) :
    Env0 P w K mg base A.in1 outer s H := ⟨e.frames, e.mod, e.bs, e.bsz, e.funs, e.frf, e.hok, e.bare⟩

section
variable {X : Cx} {pins : List (Addr × Obj)} {σ : St} {H : Hp} {s s' : Shared}
/-- from a body: what a callee wants -/
theorem Inv.env0 (I : Inv X pins σ H s) : Env0 X.prog X.w X.K X.mg X.base X.A X.stack s H :=
  ⟨I.ok.frames, I.ok.mod, I.bs, Nat.le_trans I.ok.bsz I.sz, I.stack, I.stkFree, I.hok, I.bare⟩
/-- behind a call -/
theorem Inv.after {Q : VK} {u : Value} (I : Inv X pins σ H s) (h : CE X.stack X.prog X.w H s Q u s') : EP X pins σ Q u s' := by
  obtain ⟨v, H', os, bare, un, hok, r, q⟩ := h
  obtain ⟨hh, g, d, t, os'⟩ := s'
  obtain rfl : os' = s.os := os
  exact ⟨v, H', I.call (h' := hh) (g' := g) (d' := d) (t' := t) (ch := []) un hok bare (fun b z => absurd z (by simp)), r, q⟩
end

/-! ### calls -/
/-- f(..): the written arguments, then the defaults dvs; E: what is wanted of an exception -/
def tCall (sp : Sp) (dvs : List V) (E : XK) (t : TA) : TE := fun σ H Q => t σ H fun vs H1 => sp (vs ++ dvs) H1 Q E
/-- o.m(..) of an instance of the class at C -/
def tMeth (C : Addr) (m : Str) (sp : Sp) (dvs : List V) (E : XK) (ta : TE) (t : TA) : TE := fun σ H Q => ta σ H fun x H1 => ∃ a dx fs, x = .ref a ∧ H1 a = some (.ins C dx fs) ∧ fs.lookup m = none ∧
  t σ H1 fun vs H2 => sp (x :: (vs ++ dvs)) H2 Q E
/-- C(..): a new instance and its dict, then __init__ -/
def tMake (C : Addr) (sp : Sp) (dvs : List V) (E : XK) (t : TA) : TE := fun σ H Q => t σ H fun vs H1 => ∀ x dx, H1 x = none → H1 dx = none → dx ≠ x →
  sp (.ref x :: (vs ++ dvs)) (upd (upd H1 dx (.own x)) x (.ins C dx [])) (fun v H2 => v = .non ∧ Q (.ref x) H2) E

/-- how the parameters are bound: us the positional arguments, kw the keywords' values by name, ds the defaults that fill up -/
def Binds (K : PySem.W.Frag) (fd : FuncData) (ps : List Str) (ds : List Value) : Prop :=
  ∀ (s : Shared) (us : List Value), K.In s.heap → (us ++ ds).length = ps.length → BindsTo s fd ⟨us, []⟩ (ps.zip (us ++ ds))
/-- every parameter is given -/
theorem Binds.all {K : PySem.W.Frag} {fd : FuncData} {ps : List Str} (h : ∀ us : List Value, us.length = ps.length → bindArgs fd ⟨us, []⟩ = pure (ps.zip us)) : Binds K fd ps [] := fun s us _ hl => by
  rw [List.append_nil] at hl ⊢
  exact .of_eq (h us hl)

/-- an exception of a callee reaches what this body wants of exceptions -/
def Passes (CX : CXT) (X : Cx) (E : XK) : Prop := ∀ (pins : List (Addr × Obj)) (σ : St) (H : Hp) (s : Shared) (e : Value) (s' : Shared), Inv X pins σ H s → CX X.stack H s E e s' → X.xe e s'

section
variable {X : Cx} {CX : CXT} {k : Nat} {f C : Addr} {fd : FuncData} {ps : List Str} {sp : Sp} {dvs : List V} {ds : List Value} {E : XK} {x m : Str} {p pos apos : Pos} {e o : Expr} {es : List Expr} {ta : TE} {t : TA}

/-- the callee runs -/
theorem run_fn {pins : List (Addr × Obj)} {σ : St} {H : Hp} {s : Shared} {Q : VK} {us : List Value} {vs : List V} (F : FnOk X.prog X.w X.K X.mg X.base CX k f fd ps sp) (hr : Room k X.A) (hb : Binds X.K fd ps ds) (hd : Vals dvs ds) (hx : Passes CX X E)
    (I : Inv X pins σ H s) (r : Vals vs us) (h : sp (vs ++ dvs) H Q E) : wpAny (model X.prog X.w) X.A (call (.ref f) us) (EP X pins σ Q) X.xe s := by
  have r2 : Vals (vs ++ dvs) (us ++ ds) := r.append hd
  have hl : (us ++ ds).length = ps.length := by rw [← r2.length]; exact F.len _ _ _ _ h
  refine wpAny_call (codeAny_mono (F.run X.A X.stack s H ⟨us, []⟩ (us ++ ds) (vs ++ dvs) Q E hr I.env0 (hb s us I.kIn hl) r2 h) fun r s' hq => ?_)
  cases r with
  | error e => exact hx pins σ H s e s' I hq
  | ok fl =>
    cases fl with
    | ret u => exact I.after hq
    | next => exact False.elim hq
    | brk => exact False.elim hq
    | cont => exact False.elim hq

theorem pe_call (F : FnOk X.prog X.w X.K X.mg X.base CX k f fd ps sp) (hr : Room k X.A) (hg : Gl X x) (hm : X.mg x = some (.ref f)) (hk : PySem.W.keepIn X.K (.ref f) = true) (hb : Binds X.K fd ps ds) (hd : Vals dvs ds) (hx : Passes CX X E)
    (ha : PA X (e :: es) t) (hdb : (x == ("__debug__" : Str)) = false := by decide) (he : starEach (e :: es) X.env = (false, eval e X.env) :: starEach es X.env := by rfl) (hpl : (backTo pos (starEach es X.env)).any (·.1) = false := by rfl) :
    PE X (.Call (.Name x p) (e :: es) [] pos) (tCall sp dvs E t) := by
  intro pins s σ H Q I h
  refine wpAny_Call_Name_kw (ld_glob I hg hm ?_ hdb)
  refine PySem.W.callWith_K (h₀ := X.base) I.ok.mod.kin hk (thn (ha pos pins s σ H _ I h) fun us s1 ⟨vs, H1, I1, r, q⟩ => ⟨I1.kIn, ?_⟩) he hpl
  exact run_fn F hr hb hd hx I1 r q
theorem pe_call0 (F : FnOk X.prog X.w X.K X.mg X.base CX k f fd ps sp) (hr : Room k X.A) (hg : Gl X x) (hm : X.mg x = some (.ref f)) (hk : PySem.W.keepIn X.K (.ref f) = true) (hb : Binds X.K fd ps ds) (hd : Vals dvs ds) (hx : Passes CX X E)
    (hdb : (x == ("__debug__" : Str)) = false := by decide) : PE X (.Call (.Name x p) [] [] pos) (tCall sp dvs E tNil) := by
  intro pins s σ H Q I h
  refine wpAny_Call_Name_kw (ld_glob I hg hm ?_ hdb)
  exact PySem.W.callWith_K0 I.kIn hk (run_fn (us := []) F hr hb hd hx I .nil h)

/-- o.m(e, ..) -/
theorem pe_meth {pl : Sem Bool} (he : PE X o ta) (c : Cls X.K C) (hm : Meth X.K C m f) (F : FnOk X.prog X.w X.K X.mg X.base CX k f fd ps sp) (hr : Room k X.A) (hb : Binds X.K fd ps ds) (hd : Vals dvs ds) (hx : Passes CX X E) (ha : PA X (e :: es) t)
    (hst : starEach (e :: es) X.env = (false, eval e X.env) :: starEach es X.env := by rfl) (hpl : (backTo pos (starEach es X.env)).any (·.1) = false := by rfl)
    (ht : eval (.Call (.Attribute o m apos) (e :: es) [] pos) X.env = (do
      let ov ← eval o X.env
      standAt apos.atName
      let (f, first) ← holding [ov] (getMethod ov m pl)
      callWith pos f first (backTo pos (starEach (e :: es) X.env)) (backToKw pos (keywordEach [] X.env))) := by rfl) :
    PE X (.Call (.Attribute o m apos) (e :: es) [] pos) (tMeth C m sp dvs E ta t) := by
  intro pins s σ H Q I h
  refine PySem.W.methodCall_KW (pl := pl) (thn (he pins s σ H _ I h) fun u s1 ⟨x, H1, I1, rx, a, dx, fs, ex, ea, l, q⟩ => ?_) ht
  subst ex
  obtain rfl : u = Value.ref a := rx
  refine getmeth_ok I1 ea c hm l ?_
  refine PySem.W.callWith_K (first := [.ref a]) (h₀ := X.base) I.ok.mod.kin hm.kp (thn (ha pos pins s1 σ H1 _ I1 q) fun us s2 ⟨vs, H2, I2, r, q2⟩ => ⟨I2.kIn, ?_⟩) hst hpl
  exact run_fn (us := .ref a :: us) (vs := .ref a :: vs) F hr hb hd hx I2 (.cons rfl r) q2
/-- o.m() -/
theorem pe_meth0 {pl : Sem Bool} (he : PE X o ta) (c : Cls X.K C) (hm : Meth X.K C m f) (F : FnOk X.prog X.w X.K X.mg X.base CX k f fd ps sp) (hr : Room k X.A) (hb : Binds X.K fd ps ds) (hd : Vals dvs ds) (hx : Passes CX X E)
    (ht : eval (.Call (.Attribute o m apos) [] [] pos) X.env = (do
      let ov ← eval o X.env
      standAt apos.atName
      let (f, first) ← holding [ov] (getMethod ov m pl)
      callWith pos f first (backTo pos (starEach [] X.env)) (backToKw pos (keywordEach [] X.env))) := by rfl) :
    PE X (.Call (.Attribute o m apos) [] [] pos) (tMeth C m sp dvs E ta tNil) := by
  intro pins s σ H Q I h
  refine PySem.W.methodCall_KW (pl := pl) (thn (he pins s σ H _ I h) fun u s1 ⟨x, H1, I1, rx, a, dx, fs, ex, ea, l, q⟩ => ?_) ht
  subst ex
  obtain rfl : u = Value.ref a := rx
  refine getmeth_ok I1 ea c hm l ?_
  exact PySem.W.callWith_K0 (first := [.ref a]) I1.kIn hm.kp (run_fn (us := [.ref a]) (vs := [.ref a]) F hr hb hd hx I1 (.cons rfl .nil) q)

/-- what a class must have to be made -/
structure Mk (K : PySem.W.Frag) (C f : Addr) : Prop where
  makes : PySem.W.makesIn K C = true
  init : PySem.W.findIn K (.ref C) "__init__" = some (some (.ref f))
  fn : PySem.W.isFn K (.ref f) = true
  kp : PySem.W.keepIn K (.ref C) = true

theorem run_make {pins : List (Addr × Obj)} {σ : St} {H : Hp} {s : Shared} {Q : VK} {us : List Value} {vs : List V} (M : Mk X.K C f) (F : FnOk X.prog X.w X.K X.mg X.base CX k f fd ps sp) (hr : Room (k + 1) X.A) (hb : Binds X.K fd ps ds) (hd : Vals dvs ds)
    (hx : Passes CX X E) (I : Inv X pins σ H s) (r : Vals vs us)
    (h : ∀ x dx, H x = none → H dx = none → dx ≠ x → sp (.ref x :: (vs ++ dvs)) (upd (upd H dx (.own x)) x (.ins C dx [])) (fun v H2 => v = .non ∧ Q (.ref x) H2) E) :
    wpAny (model X.prog X.w) X.A (call (.ref C) us) (EP X pins σ Q) X.xe s := by
  have hq := h (s.heap.objs.size + 1) s.heap.objs.size (I.hok.fresh (Nat.le_succ _)) (I.hok.fresh (Nat.le_refl _)) (Nat.ne_of_lt (Nat.lt_succ_self _))
  have I2 := Inv.made (C := C) I
  have r2 : Vals (V.ref (s.heap.objs.size + 1) :: (vs ++ dvs)) (Value.ref (s.heap.objs.size + 1) :: (us ++ ds)) := .cons rfl (r.append hd)
  have hl : (Value.ref (s.heap.objs.size + 1) :: us ++ ds).length = ps.length := by
    have e := r2.length
    rw [F.len _ _ _ _ hq] at e
    exact e.symm
  refine wpAny_call (make_map (f := f) I.kIn M.makes M.init (beq_iff_eq.mp M.fn) (codeAny_mono (F.run _ X.stack _ _ ⟨Value.ref (s.heap.objs.size + 1) :: us, []⟩ (Value.ref (s.heap.objs.size + 1) :: (us ++ ds)) _ _ E (hr.make C us [])
    (I2.env0.make C us []) (hb _ (Value.ref (s.heap.objs.size + 1) :: us) I2.kIn hl) r2 hq) fun r s' hq' => ?_))
  cases r with
  | error e => exact hx pins σ _ _ e s' I2 hq'
  | ok fl =>
    cases fl with
    | ret u =>
      obtain ⟨v, H', I3, rv, ev, q3⟩ := I2.after hq'
      subst ev
      exact ⟨rv, ⟨V.ref (s.heap.objs.size + 1), H', I3, rfl, q3⟩⟩
    | next => exact False.elim hq'
    | brk => exact False.elim hq'
    | cont => exact False.elim hq'
theorem pe_make (M : Mk X.K C f) (F : FnOk X.prog X.w X.K X.mg X.base CX k f fd ps sp) (hr : Room (k + 1) X.A) (hg : Gl X x) (hm : X.mg x = some (.ref C)) (hb : Binds X.K fd ps ds) (hd : Vals dvs ds) (hx : Passes CX X E)
    (ha : PA X (e :: es) t) (hdb : (x == ("__debug__" : Str)) = false := by decide) (he : starEach (e :: es) X.env = (false, eval e X.env) :: starEach es X.env := by rfl) (hpl : (backTo pos (starEach es X.env)).any (·.1) = false := by rfl) :
    PE X (.Call (.Name x p) (e :: es) [] pos) (tMake C sp dvs E t) := by
  intro pins s σ H Q I h
  refine wpAny_Call_Name_kw (ld_glob I hg hm ?_ hdb)
  refine PySem.W.callWith_K (h₀ := X.base) I.ok.mod.kin M.kp (thn (ha pos pins s σ H _ I h) fun us s1 ⟨vs, H1, I1, r, q⟩ => ⟨I1.kIn, ?_⟩) he hpl
  exact run_make M F hr hb hd hx I1 r q
theorem pe_make0 (M : Mk X.K C f) (F : FnOk X.prog X.w X.K X.mg X.base CX k f fd ps sp) (hr : Room (k + 1) X.A) (hg : Gl X x) (hm : X.mg x = some (.ref C)) (hb : Binds X.K fd ps ds) (hd : Vals dvs ds) (hx : Passes CX X E)
    (hdb : (x == ("__debug__" : Str)) = false := by decide) : PE X (.Call (.Name x p) [] [] pos) (tMake C sp dvs E tNil) := by
  intro pins s σ H Q I h
  refine wpAny_Call_Name_kw (ld_glob I hg hm ?_ hdb)
  exact PySem.W.callWith_K0 I.kIn M.kp (run_make (us := []) M F hr hb hd hx I .nil h)
end

/-! ### keywords -/
/-- the values of the keywords, from the left -/
def PK (X : Cx) (kws : List Keyword) (t : TA) : Prop :=
  ∀ (pos : Pos) (pins : List (Addr × Obj)) (s : Shared) (σ : St) (H : Hp) (Q : List V → Hp → Prop), Inv X pins σ H s → t σ H Q → wpAny (model X.prog X.w) X.A (evalAll ((backToKw pos (keywordEach kws X.env)).map (·.2))) (AP X pins σ Q) X.xe s
section
variable {X : Cx} {CX : CXT} {k : Nat} {f C : Addr} {fd : FuncData} {ps ks : List Str} {sp : Sp} {E : XK} {x m : Str} {p pos apos kpos : Pos} {e o : Expr} {es : List Expr} {kws : List Keyword} {te ta : TE} {t tk : TA} {nm : Option Str}
theorem pk_nil : PK X [] tNil := fun _ _ _ _ H Q I h => wpAny_evalAll_nil ⟨[], H, I, .nil, h⟩
theorem pk_cons (ha : PE X e te) (hr : PK X kws t) : PK X (⟨nm, e, kpos⟩ :: kws) (tCons te t) := by
  intro pos pins s σ H Q I h
  show wpAny _ _ (evalAll ((do let v ← eval e X.env; standAt pos; pure v) :: (backToKw pos (keywordEach kws X.env)).map (·.2))) _ _ s
  refine wpAny_evalAll_cons (wpAny_bind (thn (ha pins s σ H _ I h) fun u s1 ⟨x, H1, I1, r1, q1⟩ => wpAny_bind (wpAny_standAt (wpAny_pure ?_))))
  exact thn (hr pos pins s1 σ H1 _ I1 q1) fun us s2 ⟨xs, H2, I2, r2, q2⟩ => ⟨x :: xs, H2, I2, .cons r1 r2, q2⟩

/-- how a call with keywords binds: g puts the positional values us and the keywords' values ws (names ks) in the parameters' order, defaults among them -/
structure KBinds (K : PySem.W.Frag) (fd : FuncData) (ps ks : List Str) (g : List Value → List Value → List Value) (gV : List V → List V → List V) : Prop where
  to : ∀ (s : Shared) (us ws : List Value), K.In s.heap → (g us ws).length = ps.length → BindsTo s fd ⟨us, ks.zip ws⟩ (ps.zip (g us ws))
  rel : ∀ {vs : List V} {us : List Value} {zs : List V} {ws : List Value}, Vals vs us → Vals zs ws → Vals (gV vs zs) (g us ws)
def tCallK (sp : Sp) (gV : List V → List V → List V) (E : XK) (t tk : TA) : TE := fun σ H Q => t σ H fun vs H1 => tk σ H1 fun zs H2 => sp (gV vs zs) H2 Q E
variable {g : List Value → List Value → List Value} {gV : List V → List V → List V}
theorem run_fnk {pins : List (Addr × Obj)} {σ : St} {H : Hp} {s : Shared} {Q : VK} {us ws : List Value} {vs zs : List V} (F : FnOk X.prog X.w X.K X.mg X.base CX k f fd ps sp) (hr : Room k X.A) (hb : KBinds X.K fd ps ks g gV) (hx : Passes CX X E)
    (I : Inv X pins σ H s) (r : Vals vs us) (rz : Vals zs ws) (h : sp (gV vs zs) H Q E) : wpAny (model X.prog X.w) X.A (call (.ref f) us (ks.zip ws)) (EP X pins σ Q) X.xe s := by
  have r2 := hb.rel r rz
  have hl : (g us ws).length = ps.length := by rw [← r2.length]; exact F.len _ _ _ _ h
  refine wpAny_call (codeAny_mono (F.run X.A X.stack s H ⟨us, ks.zip ws⟩ (g us ws) (gV vs zs) Q E hr I.env0 (hb.to s us ws I.kIn hl) r2 h) fun r s' hq => ?_)
  cases r with
  | error e => exact hx pins σ H s e s' I hq
  | ok fl =>
    cases fl with
    | ret u => exact I.after hq
    | next => exact False.elim hq
    | brk => exact False.elim hq
    | cont => exact False.elim hq
/-- f(e, .., k = v, ..) -/
theorem pe_callK (F : FnOk X.prog X.w X.K X.mg X.base CX k f fd ps sp) (hr : Room k X.A) (hg : Gl X x) (hm : X.mg x = some (.ref f)) (hk : PySem.W.keepIn X.K (.ref f) = true) (hb : KBinds X.K fd ps ks g gV) (hx : Passes CX X E)
    (ha : PA X (e :: es) t) (hkw : PK X kws tk) (hall : (backToKw pos (keywordEach kws X.env)).all (·.1.isSome) = true := by rfl) (hks : (backToKw pos (keywordEach kws X.env)).filterMap (·.1) = ks := by rfl)
    (hdb : (x == ("__debug__" : Str)) = false := by decide) (he : starEach (e :: es) X.env = (false, eval e X.env) :: starEach es X.env := by rfl)
    (hpl : ((backTo pos (starEach (e :: es) X.env)).any (·.1) || (backToKw pos (keywordEach kws X.env)).any (·.1.isNone)) = false := by rfl) :
    PE X (.Call (.Name x p) (e :: es) kws pos) (tCallK sp gV E t tk) := by
  intro pins s σ H Q I h
  refine wpAny_Call_Name_kw (ld_glob I hg hm ?_ hdb)
  refine PySem.W.callWith_KW (h₀ := X.base) I.ok.mod.kin hk hall (thn (ha pos pins s σ H _ I h) fun us s1 ⟨vs, H1, I1, r, q⟩ => ?_) hpl he
  refine thn (hkw pos pins s1 σ H1 _ I1 q) fun ws s2 ⟨zs, H2, I2, rz, q2⟩ => ⟨I2.kIn, ?_⟩
  rw [hks]
  exact run_fnk F hr hb hx I2 r rz q2
end

/-! ### a def's body keeps its promise -/
/-- names: the parameters first -/
structure FnScope (N P : List Str) (sc : Scope) : Prop where
  kind : sc.kind = .function
  co : sc.isCoroutine = false
  gen : sc.isGenerator = false
  nd : N.Nodup
  pre : N.take P.length = P
  par : ∀ x ∈ P, sc.names.lookup x = some .local ∨ sc.names.lookup x = some .cell
  nofree : ∀ y ∈ sc.names, y.2 ≠ .free

theorem bindL_out {kindOf : Str → Option NameKind} {x : Str} : ∀ {binds : List (Str × Value)} {m : Str → Option Value}, (∀ v, (x, v) ∉ binds) → bindL kindOf binds m x = m x
  | [], _, _ => rfl
  | (n, v) :: r, m, h => by
    unfold bindL
    rw [bindL_out fun w hw => h w (List.mem_cons_of_mem _ hw)]
    split
    · have : x ≠ n := by rintro rfl; exact h v List.mem_cons_self
      simp [this]
    · rfl
theorem bindC_out {kindOf : Str → Option NameKind} {x : Str} : ∀ {binds : List (Str × Value)} {m : Str → Option Value}, (∀ v, (x, v) ∉ binds) → bindC kindOf binds m x = m x
  | [], _, _ => rfl
  | (n, v) :: r, m, h => by
    unfold bindC
    rw [bindC_out fun w hw => h w (List.mem_cons_of_mem _ hw)]
    split
    · rfl
    · have : x ≠ n := by rintro rfl; exact h v List.mem_cons_self
      simp [this]
theorem bindL_get {kindOf : Str → Option NameKind} {x : Str} {v : Value} : ∀ {P : List Str} {vs : List Value} {i : Nat} {m : Str → Option Value}, P.Nodup → P[i]? = some x → vs[i]? = some v → kindOf x = some .local →
    bindL kindOf (P.zip vs) m x = some v
  | [], _, _, _, _, h, _, _ => by simp at h
  | _ :: _, [], _, _, _, _, h, _ => by simp at h
  | p :: P, w :: vs, 0, m, nd, h1, h2, hk => by
    simp at h1 h2; subst h1; subst h2
    show bindL kindOf ((p, w) :: P.zip vs) m p = _
    unfold bindL
    rw [bindL_out fun v hv => (List.nodup_cons.mp nd).1 (List.of_mem_zip hv).1, if_pos hk]
    simp
  | p :: P, w :: vs, i + 1, m, nd, h1, h2, hk => by
    show bindL kindOf ((p, w) :: P.zip vs) m x = _
    unfold bindL
    exact bindL_get (i := i) (List.nodup_cons.mp nd).2 (by simpa using h1) (by simpa using h2) hk
theorem bindC_get {kindOf : Str → Option NameKind} {x : Str} {v : Value} : ∀ {P : List Str} {vs : List Value} {i : Nat} {m : Str → Option Value}, P.Nodup → P[i]? = some x → vs[i]? = some v → kindOf x ≠ some .local →
    bindC kindOf (P.zip vs) m x = some v
  | [], _, _, _, _, h, _, _ => by simp at h
  | _ :: _, [], _, _, _, _, h, _ => by simp at h
  | p :: P, w :: vs, 0, m, nd, h1, h2, hk => by
    simp at h1 h2; subst h1; subst h2
    show bindC kindOf ((p, w) :: P.zip vs) m p = _
    unfold bindC
    rw [bindC_out fun v hv => (List.nodup_cons.mp nd).1 (List.of_mem_zip hv).1, if_neg hk]
    simp
  | p :: P, w :: vs, i + 1, m, nd, h1, h2, hk => by
    show bindC kindOf ((p, w) :: P.zip vs) m x = _
    unfold bindC
    exact bindC_get (i := i) (List.nodup_cons.mp nd).2 (by simpa using h1) (by simpa using h2) hk

/-- the names' values at the entry -/
def start (N : List Str) (vs : List V) : St := vs.map some ++ List.replicate (N.length - vs.length) none

/-- the context of a def's body, at its entry; an exception leaves the frame, then lies as CX says -/
def cxOf (CX : CXT) (P : Program) (w : World) (K : PySem.W.Frag) (mg : Str → Option Value) (base : Heap) (N : List Str) (qual : Str) (scope : Scope) (f : Addr) (cd : Value) (A : Around) (outer : List Env) (s : Shared) (H : Hp) (E : XK) : Cx where
  prog := P
  w := w
  K := K
  mg := mg
  base := base
  A := A.deeper (envOfC qual scope s.heap.objs.size f cd)
  N := N
  s₀ := s
  H₀ := H
  env := envOfC qual scope s.heap.objs.size f cd
  outer := outer
  stack := envOfC qual scope s.heap.objs.size f cd :: outer
  ex := []
  calm := true
  fn := fun _ => true
  pn := []
  xe := fun e s' => wpAny (model P w) (A.deeper (envOfC qual scope s.heap.objs.size f cd)) (leaving (envOfC qual scope s.heap.objs.size f cd) e) (fun _ s'' => CX outer H s E e s'') (fun e' s'' => CX outer H s E e' s'') s'

theorem cell_has {sc : Scope} {n : Nat} {x : Str} (h : sc.names.lookup x = some .cell) : ∃ c, (cellsFrom n sc.names []).lookup x = some c := by
  have q := PySem.W.cellsFrom_some sc.names n [] (.inl h)
  exact Option.isSome_iff_exists.mp q

theorem inv_start {CX : CXT} {P : Program} {w : World} {K : PySem.W.Frag} {mg : Str → Option Value} {base : Heap} {N ps : List Str} {qual : Str} {scope : Scope} {f : Addr} {cd : Value} {A : Around} {outer : List Env} {s s1 : Shared} {H : Hp} {E : XK} {us : List Value} {vs : List V}
    (S : FnScope N ps scope) (hd : A.handled = none) (e0 : Env0 P w K mg base A outer s H) (hl : vs.length = ps.length) (r : Vals vs us)
    (x : InCallC s s.heap.objs.size (bindL (envOfC qual scope s.heap.objs.size f cd).kindOf (ps.zip us) fun _ => none) (cellsFrom (s.heap.objs.size + 1) scope.names []) (bindC (envOfC qual scope s.heap.objs.size f cd).kindOf (ps.zip us) fun _ => none) s1) :
    Inv (cxOf CX P w K mg base N qual scope f cd A outer s H E) [] (start N vs) H s1 := by
  have hpl : ps.length ≤ N.length := by have := congrArg List.length S.pre; rw [List.length_take] at this; omega
  obtain ⟨h1, tk, rfl, hk⟩ := x.done
  have noA : ∀ b : Addr, b ∉ (cxOf CX P w K mg base N qual scope f cd A outer s H E).ex := fun b z => absurd (show b ∈ ([] : List Addr) from z) (by simp)
  refine ⟨⟨e0.mod, S.kind, rfl, rfl, Nat.le_refl _, fun y z c h1 h2 => ?_, fun y hy => ?_, fun y c _ h => ?_, fun _ => hd, Around.frames_deeper e0.frames, .inr ⟨rfl, rfl⟩, fun b z => absurd z (noA b), e0.bs, e0.bsz, fun b _ _ => noA b, fun b z => absurd z (noA b), e0.funs, e0.frf⟩,
    rfl, e0.bare, Un.kept hk, ⟨_, x.toInCall.ns, fun i y v h1 h2 h3 => ?_⟩, fun y c h => ⟨_, x.cell y c h⟩, e0.hok.fresh (Nat.le_refl _), fun y c h => ?_, fun p hp => absurd (show p ∈ ([] : List (Addr × Obj)) from hp) (by simp), e0.hok.kept hk, ?_⟩
  · exact name_of_addr x.apart (PySem.mem_of_lookup h1) (PySem.mem_of_lookup h2)
  · have hy : scope.names.lookup y = some .cell ∨ scope.names.lookup y = some .free := hy
    rcases hy with hy | hy
    · exact cell_has hy
    · exact absurd rfl (S.nofree _ (PySem.mem_of_lookup hy))
  · exact Nat.le_of_lt (x.above y c (PySem.mem_of_lookup h))
  · have hi : i < vs.length := by
      unfold start at h2
      by_cases hi : i < vs.length
      · exact hi
      · rw [List.getElem?_append_right (by simpa using hi)] at h2
        rw [List.getElem?_replicate] at h2
        split at h2 <;> cases h2
    have ha : vs[i]? = some v := by
      unfold start at h2
      rw [List.getElem?_append_left (by simpa using hi), List.getElem?_map] at h2
      cases e : vs[i]? with
      | none => rw [e] at h2; cases h2
      | some a => rw [e] at h2; cases h2; rfl
    obtain ⟨u, hu, rv⟩ := r.get ha
    have hp : ps[i]? = some y := by
      rw [← S.pre, List.getElem?_take_of_lt (by omega)]; exact h1
    have ndP : ps.Nodup := by rw [← S.pre]; exact S.nd.sublist (List.take_sublist _ _)
    refine ⟨u, rv, ?_⟩
    rcases S.par y (List.mem_of_getElem? hp) with k | k
    · exact .inl ⟨k, bindL_get ndP hp hu k⟩
    · obtain ⟨c, e⟩ := cell_has (n := s.heap.objs.size + 1) k
      refine .inr ⟨.inl k, c, e, ?_⟩
      have q := x.cell y c e
      rw [bindC_get ndP hp hu (by show scope.names.lookup y ≠ _; rw [k]; decide)] at q
      exact q
  · exact e0.hok.fresh (Nat.le_of_lt (x.above y c (PySem.mem_of_lookup h)))
  · unfold start
    show _ = N.length
    rw [List.length_append, List.length_map, List.length_replicate]
    omega

/-- THE RULE: a def (or a method) of the text, by its body. The body's reading t is chosen for each entry; it is run at the parameters' values -/
theorem fn_of {CX : CXT} {P : Program} {w : World} {K : PySem.W.Frag} {mg : Str → Option Value} {base : Heap} {k : Nat} {f : Addr} {name qual : Str} {params : Arguments} {body : List Stmt} {scope : Scope} {dV kV doc pm cdv ct oc : Value} {an od : Option Addr}
    {osl : Array (Option Value)} {N ps : List Str} {sp : Sp} (lk : K.lookup f = some ⟨oc, od, .func (PySem.W.fnOf name qual params body scope dV kV doc pm an cdv ct), osl⟩) (hcd : PySem.W.codeIn K cdv qual = true) (S : FnScope N ps scope)
    (len : ∀ vs H Q E, sp vs H Q E → vs.length = ps.length)
    (hbody : ∀ (A : Around) (outer : List Env) (s : Shared) (H : Hp) (vs : List V) (Q : VK) (E : XK), Room k (A.deeper (envOfC qual scope s.heap.objs.size f cdv)) → sp vs H Q E →
      ∃ t, PSs (cxOf CX P w K mg base N qual scope f cdv A outer s H E) body t ∧ t { nx := fun _ H' => Q .non H', rt := Q } (start N vs) H) :
    FnOk P w K mg base CX (k + 1) f (PySem.W.fnOf name qual params body scope dV kV doc pm an cdv ct) ps sp := by
  refine ⟨len, fun A outer s H args us vs Q E hr e0 hb r hsp => ?_⟩
  have hl := len _ _ _ _ hsp
  have KX : K.In s.heap := e0.mod.kin.keeps fun b o e => (e0.bs b o e).1
  have lim : s.heap.NoLimit := e0.mod.nolimit.keeps fun b o e => (e0.bs b o e).1
  have hkind : ∀ y ∈ ps.zip us, scope.names.lookup y.1 = some .local ∨ (scope.names.lookup y.1 = some .cell ∧ ((cellsFrom (s.heap.objs.size + 1) scope.names []).lookup y.1).isSome = true) := fun ⟨n, v⟩ hy => by
    rcases S.par n (List.of_mem_zip hy).1 with q | q
    · exact .inl q
    · exact .inr ⟨q, PySem.W.cellsFrom_some _ _ _ (.inl q)⟩
  refine codeAny_call_function hr.depth (KX _ _ lk) rfl S.co S.gen rfl (PySem.W.codeRec_of KX hcd) (hb _ _ _ _ ?_)
  refine wpAny_newFunctionEnv_cells S.kind hkind fun env he s1 x => ?_
  subst he
  refine ⟨lim.keeps x.toInCall.keep, codeAny_func ?_⟩
  obtain ⟨t, ht, hq⟩ := hbody A outer s H vs Q E (hr.deeper _) hsp
  have I : Inv (cxOf CX P w K mg base N qual scope f cdv A outer s H E) [] (start N vs) H s1 := inv_start S hr.hd e0 hl r x
  refine wpAny_mono (ht [] s1 (start N vs) H _ I hq) (fun fl s' hs => ?_) fun e s' hs => hs
  have fin : ∀ {σ' : St} {H' : Hp} {v : V} {u : Value}, Inv (cxOf CX P w K mg base N qual scope f cdv A outer s H E) [] σ' H' s' → RelV v u → Q v H' → CE outer P w H s Q u s' :=
    fun {σ' H' v u} J rv q => ⟨v, H', J.os, J.bare, J.base, J.hok, rv, q⟩
  cases fl with
  | ret u =>
    obtain ⟨v, σ', H', J, rv, q⟩ := hs
    exact fin J rv q
  | next =>
    obtain ⟨σ', H', J, q⟩ := hs
    exact fin (v := V.non) (u := Value.none) J rfl q
  | brk =>
    obtain ⟨_, _, _, q⟩ := hs
    exact False.elim q
  | cont =>
    obtain ⟨_, _, _, q⟩ := hs
    exact False.elim q
end L2

namespace L2
open PySem PySem.Spec PyProof.Rows
section
variable {X : Cx} {x : Str} {p pos : Pos} {e : Expr} {es : List Expr} {t : TA} {id T : String} {r : List V → Hp → VK → Prop}

def tCB (r : List V → Hp → VK → Prop) (t : TA) : TE := fun σ H Q => t σ H fun vs H1 => r vs H1 Q
/-- f(e, ..), f a built-in function -/
theorem pe_callB (hc : CallR X (.builtin id) r) (hg : Gl X x) (hm : X.mg x = none) (hv : bootBuiltins x = some (.builtin id)) (ha : PA X (e :: es) t) (hn : x ≠ "__name__" := by decide) (hdb : (x == ("__debug__" : Str)) = false := by decide)
    (he : starEach (e :: es) X.env = (false, eval e X.env) :: starEach es X.env := by rfl) (hpl : (backTo pos (starEach es X.env)).any (·.1) = false := by rfl) : PE X (.Call (.Name x p) (e :: es) [] pos) (tCB r t) := by
  intro pins s σ H Q I h
  refine wpAny_Call_Name_kw (ld_blt I hg hm hv ?_ hn hdb)
  exact PyProof.Rows.callWith_builtin1 (thn (ha pos pins s σ H _ I h) fun us s1 ⟨vs, H1, I1, r1, q1⟩ => hc pins s1 σ H1 vs us Q I1 r1 q1) he hpl
/-- T(e, ..), T a built-in type -/
theorem pe_callTy (hc : CallR X (.type T) r) (hg : Gl X x) (hm : X.mg x = none) (hv : bootBuiltins x = some (.type T)) (ha : PA X (e :: es) t) (hn : x ≠ "__name__" := by decide) (hdb : (x == ("__debug__" : Str)) = false := by decide)
    (he : starEach (e :: es) X.env = (false, eval e X.env) :: starEach es X.env := by rfl) (hpl : (backTo pos (starEach es X.env)).any (·.1) = false := by rfl) : PE X (.Call (.Name x p) (e :: es) [] pos) (tCB r t) := by
  intro pins s σ H Q I h
  refine wpAny_Call_Name_kw (ld_blt I hg hm hv ?_ hn hdb)
  exact PyProof.Rows.callWith_type1 (thn (ha pos pins s σ H _ I h) fun us s1 ⟨vs, H1, I1, r1, q1⟩ => hc pins s1 σ H1 vs us Q I1 r1 q1) he hpl
/-- T() -/
theorem pe_callTy0 (hc : CallR X (.type T) r) (hg : Gl X x) (hm : X.mg x = none) (hv : bootBuiltins x = some (.type T)) (hn : x ≠ "__name__" := by decide) (hdb : (x == ("__debug__" : Str)) = false := by decide) :
    PE X (.Call (.Name x p) [] [] pos) (tCB r tNil) := by
  intro pins s σ H Q I h
  refine wpAny_Call_Name_kw (ld_blt I hg hm hv ?_ hn hdb)
  exact PyProof.Rows.callWith_type0 (hc pins s σ H [] [] Q I .nil h)
end
end L2

namespace HT
open PySem PyProof.Rows

/-- t < u of tuples of ints -/
def lexLt : List Int → List Int → Bool
  | [], [] => false
  | [], _ :: _ => true
  | _ :: _, [] => false
  | x :: xs, y :: ys => if x = y then lexLt xs ys else decide (x < y)
theorem lexLt_cons (x y : Int) (xs ys : List Int) : lexLt (x :: xs) (y :: ys) = if x = y then lexLt xs ys else decide (x < y) := rfl
theorem lexLt_nil_nil : lexLt [] [] = false := rfl
theorem lexLt_nil_cons (y : Int) (ys : List Int) : lexLt [] (y :: ys) = true := rfl
theorem lexLt_cons_nil (x : Int) (xs : List Int) : lexLt (x :: xs) [] = false := rfl

theorem eqAt_int (A : Around) (s : Shared) (a : Int) (t : Tok) (c : Int) (u : Tok) : ∃ e, SeqAt.EqAt A s (.int a t) (.int c u) e ∧ (e = true ↔ a = c) :=
  ⟨(a == c), SeqAt.EqAt.int_int a t c u, by simp⟩
theorem rcLt_int (A : Around) (s : Shared) (a : Int) (t : Tok) (c : Int) (u : Tok) (prog : Program) (w : World) (E : Value → Shared → Prop) (Q : Value → Shared → Prop) (h : Q (.bool (decide (a < c))) s) :
    wpAny (model prog w) A (richCompare .Lt (.int a t) (.int c u)) Q E s :=
  (PyProof.Rows.lt_int h : wpAny (model prog w) A (compareOp .Lt (.int a t) (.int c u)) Q E s)

section
open PySem.SeqAt
open PySem.AutoSeq1 (wpAny_loadPart')
open PySem.MeetsSeq PySem.MeetsSeq2 PySem.MeetsSeq3

theorem tuple_lt_ints (l b : Addr) (items items2 : Array Value) (n n2 : Nat) (dd dd2 : Option Addr) (sl sl2 : Array (Option Value)) (ns ms : List Int) (hi : IntsAre items.toList ns) (hj : IntsAre items2.toList ms) :
    Meets (Builtin.«tuple.__lt__» ⟨[.ref l, .ref b], []⟩)
      (fun _ R s => s.heap.get? l = some { cls := .type "tuple", dict := dd, data := .seq items n, slots := sl } ∧ s.heap.get? b = some { cls := .type "tuple", dict := dd2, data := .seq items2 n2, slots := sl2 } ∧
        R (.ok (.ret (.bool (lexLt ns ms)))) s) :=
  .of_wp fun prog w A R s h => by
    obtain ⟨hp, g, d, tk, os⟩ := s; obtain ⟨hl, hb, h⟩ := h
    have f2 := AutoSeq1.sub_tuple_tuple
    have z1 : items.size = ns.length := by rw [← hi.length]; simp
    have z2 : items2.size = ms.length := by rw [← hj.length]; simp
    wp_walk using wpAny_loadPart' hl, wpAny_loadPart' hb, wpAny_forIn_list _ (fun rest b s' => b.1 = none ∧ s' = ⟨hp, g, d, tk, os⟩ ∧ ∃ (vs ws : List Value) (ns' ms' : List Int), rest = vs.zip ws ∧
      IntsAre vs ns' ∧ IntsAre ws ms' ∧ ns'.length + items2.size = ms'.length + items.size ∧ R (.ok (.ret (.bool (lexLt ns' ms')))) ⟨hp, g, d, tk, os⟩) _
    case turn =>
      rintro ⟨y, x⟩ rest b s' ⟨hb', rfl, vs, ws, ns', ms', hz, hvi, hwi, hlen, hR⟩
      cases hvi with
      | nil => rw [List.zip_nil_left] at hz; cases hz
      | cons a t hvi' =>
        cases hwi with
        | nil => rw [List.zip_nil_right] at hz; cases hz
        | cons c u hwi' =>
          rw [List.zip_cons_cons] at hz
          injection hz with hyx hrest
          injection hyx with hy hx
          subst hy hx
          rw [lexLt_cons] at hR
          simp only [List.length_cons] at hlen
          obtain ⟨e, he, hiff⟩ := eqAt_int A.in1 ⟨hp, g, d, tk, os⟩ a t c u
          refine wpAny_bind (he prog w _ _ ?_)
          cases e with
          | true =>
            rw [if_pos (hiff.mp rfl)] at hR
            wp_walk
            exact ⟨rfl, rfl, _, _, _, _, hrest, hvi', hwi', by omega, hR⟩
          | false =>
            rw [if_neg (fun q => absurd (hiff.mpr q) Bool.false_ne_true)] at hR
            have hri := rcLt_int A.in1 ⟨hp, g, d, tk, os⟩ a t c u prog w
            wp_walk using hri
            exact ⟨_, rfl, by simpa using hR⟩
    case fin =>
      rintro ⟨b1, b2⟩ s' ⟨hb', rfl, vs, ws, ns', ms', hz, hvi, hwi, hlen, hR⟩
      simp only at hb'
      subst hb'
      have hv : lexLt ns' ms' = decide (items.size < items2.size) := by
        cases hvi with
        | nil =>
          cases hwi with
          | nil =>
            simp only [List.length_nil] at hlen
            rw [lexLt_nil_nil]
            exact (decide_eq_false (by omega)).symm
          | cons c u hw =>
            simp only [List.length_nil, List.length_cons] at hlen
            rw [lexLt_nil_cons]
            exact (decide_eq_true (by omega)).symm
        | cons a t hv =>
          cases hwi with
          | nil =>
            simp only [List.length_nil, List.length_cons] at hlen
            rw [lexLt_cons_nil]
            exact (decide_eq_false (by omega)).symm
          | cons c u hw =>
            rw [List.zip_cons_cons] at hz
            cases hz
      rw [hv] at hR
      wp_walk
      exact ⟨_, rfl, by simpa [Builtin.Tuple.tupleCompareSizes] using hR⟩
    case h =>
      exact ⟨rfl, rfl, items.toList, items2.toList, ns, ms, rfl, hi, hj, by omega, h⟩
end

section
variable {prog : Program} {w : World} {A : Around} {E : Value → Shared → Prop} {s : Shared}

theorem lt_tupInts {l b : Addr} {items items2 : Array Value} {ns ms : List Int} {Q : Value → Shared → Prop} (hl : IsTup s.heap l items) (hb : IsTup s.heap b items2) (hi : IntsAre items.toList ns) (hj : IntsAre items2.toList ms)
    (hu : A.units < cLine) (h : Q (.bool (lexLt ns ms)) s) : wpAny (model prog w) A (compareOp .Lt (.ref l) (.ref b)) Q E s := by
  obtain ⟨⟨cls, dd, data, sl⟩, ho, hc, n, hd⟩ := id hl
  obtain ⟨⟨cls2, dd2, data2, sl2⟩, ho2, hc2, n2, hd2⟩ := id hb
  simp only at hc hd hc2 hd2
  subst hc hd hc2 hd2
  exact richCompare_meets_room (op := .Lt) ⟨_, ho, rfl⟩ ⟨_, ho2, rfl⟩ PySem.F.slot_tuple_lt PySem.F.entry_tuple_lt (PySem.F.args_tuple_lt_2 _ _) (tuple_lt_ints l b items items2 n n2 dd dd2 sl sl2 ns ms hi hj)
    ⟨ho, ho2, show Value.bool (lexLt ns ms) ≠ Value.notImplemented ∧ Q (.bool (lexLt ns ms)) s from ⟨(fun x => nomatch x), h⟩⟩ hu

/-- t + u, t not empty -/
theorem cat_tup {t b : Addr} {vs ws : List Value} {Q : Value → Shared → Prop} (ht : IsTup s.heap t vs.toArray) (hb : IsTup s.heap b ws.toArray) (hv : vs ≠ [])
    (h1 : ws = [] → Q (.ref t) s) (h2 : ws ≠ [] → Q (.ref s.heap.objs.size) { s with heap := s.heap.push { cls := .type "tuple", data := .seq (vs ++ ws).toArray } })
    (hsz : vs.length + ws.length ≤ sizeLine) : wpAny (model prog w) A (binaryOp .Add (.ref t) (.ref b)) Q E s := by
  obtain ⟨⟨cls, dd, data, sl⟩, ho, hc, n, hd⟩ := id ht
  obtain ⟨⟨cls2, dd2, data2, sl2⟩, ho2, hc2, n2, hd2⟩ := id hb
  simp only at hc hd hc2 hd2
  subst hc hd hc2 hd2
  have e : vs.toArray ++ ws.toArray = (vs ++ ws).toArray := by simp
  by_cases hw : ws = []
  · exact concat_meets ⟨_, ho, rfl⟩ ⟨_, ho2, rfl⟩ noFill_tuple_add seq_tuple_add PySem.F.slot_tuple_add PySem.F.entry_tuple_add (PySem.F.args_tuple_add_2 _ _)
      (tuple_addW1 t b vs.toArray ws.toArray n n2 dd dd2 sl sl2 (by simpa using hv) (by simp [hw])) ⟨ho, ho2, h1 hw⟩
  · refine concat_meets ⟨_, ho, rfl⟩ ⟨_, ho2, rfl⟩ noFill_tuple_add seq_tuple_add PySem.F.slot_tuple_add PySem.F.entry_tuple_add (PySem.F.args_tuple_add_2 _ _)
      (tuple_addW2 t b vs.toArray ws.toArray n n2 dd dd2 sl sl2 (by simpa using hv) (by simpa using hw) (by rw [List.size_toArray, List.size_toArray]; exact hsz)) ⟨ho, ho2, ?_⟩
    rw [e]
    exact h2 hw

/-! ### t[a:b], not the whole -/
/-- a slice's bound as a place among n (d where it is left out) -/
def sIx (n d : Nat) : Option Int → Nat
  | none => d
  | some v => if v < 0 then (v + (n : Int)).toNat else min v.toNat n
theorem sIx_none (n d : Nat) : sIx n d none = d := rfl
theorem sIx_nat (n d k : Nat) : sIx n d (some (k : Int)) = min k n := by
  show (if (k : Int) < 0 then ((k : Int) + (n : Int)).toNat else min (k : Int).toNat n) = min k n
  rw [if_neg (by omega), Int.toNat_natCast]
theorem sIx_le (n d : Nat) (hd : d ≤ n) (o : Option Int) : sIx n d o ≤ n := by
  cases o with
  | none => exact hd
  | some v =>
    show (if v < 0 then (v + (n : Int)).toNat else min v.toNat n) ≤ n
    by_cases hv : v < 0
    · rw [if_pos hv]; omega
    · rw [if_neg hv]; exact Nat.min_le_right _ _
theorem clip_eq (v : Int) (n d : Nat) : (if v < 0 then max (v + (n : Int)) 0 else min v (n : Int)) = ((sIx n d (some v) : Nat) : Int) := by
  show (if v < 0 then max (v + (n : Int)) 0 else min v (n : Int)) = (((if v < 0 then (v + (n : Int)).toNat else min v.toNat n) : Nat) : Int)
  by_cases hv : v < 0
  · simp only [if_pos hv]; omega
  · simp only [if_neg hv]; omega
theorem adjust_gen (lo hi : Option Int) (n : Nat) : Builtin.Slice.sliceAdjust lo hi 1 (n : Int) = (((sIx n 0 lo : Nat) : Int), ((sIx n n hi : Nat) : Int)) := by
  have h1 : ¬ ((1 : Int) < 0) := by omega
  unfold Builtin.Slice.sliceAdjust
  simp only [h1, if_false]
  refine Prod.ext ?_ ?_
  · cases lo with
    | none => rfl
    | some v => exact clip_eq v n 0
  · cases hi with
    | none => rfl
    | some v => exact clip_eq v n n
theorem places_gen (i j : Nat) : Builtin.Slice.slicePlaces (i : Int) (j : Int) 1 = j - i := by
  unfold Builtin.Slice.slicePlaces
  have h1 : (1 : Int) > 0 := by omega
  simp only [h1, if_true, Int.ediv_one]
  split <;> omega
theorem slicePart_ {v : Value} {o : Option Int} {Q : Option Int → Shared → Prop} (p : IsPart v o) (h : Q o s) : wpAny (model prog w) A (Builtin.Slice.slicePartIndex v) Q E s := by
  cases p with
  | none => exact slicePart_none h
  | int i t => exact slicePart_int h
theorem sliceApplied_gen {sl : Addr} {vl vu : Value} {lo hi : Option Int} {n : Nat} {Q : Int × Int × Nat → Shared → Prop} (hs : s.heap.IsSliceOf sl vl vu .none) (pl : IsPart vl lo) (pu : IsPart vu hi)
    (h : Q (((sIx n 0 lo : Nat) : Int), 1, sIx n n hi - sIx n 0 lo) s) : wpAny (model prog w) A (Builtin.Slice.sliceApplied (.ref sl) (pure (n : Int))) Q E s := by
  obtain ⟨os, hos, hcs, hds⟩ := id hs
  unfold Builtin.Slice.sliceApplied Builtin.Slice.sliceFields
  refine wpAny_bind (wpAny_bind (wpAny_field hos hds (x := vl) rfl (wpAny_bind (wpAny_field hos hds (x := vu) rfl (wpAny_bind (wpAny_field hos hds (x := .none) rfl (wpAny_pure ?_)))))))
  refine wpAny_bind (slicePart_none ?_)
  show wpAny _ _ (if ((1 : Int) == 0) = true then _ else _) _ _ s
  rw [if_neg (by decide)]
  refine wpAny_bind (slicePart_ pl (wpAny_bind (slicePart_ pu (wpAny_bind (wpAny_pure ?_)))))
  show wpAny _ _ (match Builtin.Slice.sliceAdjust lo hi 1 (n : Int) with | (lo, hi) => pure (lo, (1 : Int), Builtin.Slice.slicePlaces lo hi 1)) _ _ s
  rw [adjust_gen lo hi n]
  show wpAny _ _ (pure (((sIx n 0 lo : Nat) : Int), (1 : Int), Builtin.Slice.slicePlaces ((sIx n 0 lo : Nat) : Int) ((sIx n n hi : Nat) : Int) 1)) _ _ s
  rw [places_gen]
  exact wpAny_pure h
theorem pick_gen (xs : Array Value) (i k : Nat) : ((List.range k).filterMap fun (m : Nat) => xs[((i : Int) + (m : Int) * 1).toNat]?).toArray = ((xs.toList.drop i).take k).toArray := by
  have e : (fun (m : Nat) => xs[((i : Int) + (m : Int) * 1).toNat]?) = fun m => xs[i + m]? := by
    funext m
    have : ((i : Int) + (m : Int) * 1).toNat = i + m := by omega
    rw [this]
  rw [e]
  have := pick_run xs i k
  rw [List.filterMap_map] at this
  have e2 : ((fun x => xs[x]?) ∘ fun x => i + x) = fun m => xs[i + m]? := rfl
  rw [e2] at this
  rw [this]

theorem getItem_tuple_cut {t sl : Addr} {items : Array Value} {vl vu : Value} {lo hi : Option Int} {Q : Value → Shared → Prop} (ht : IsTup s.heap t items) (hs : s.heap.IsSliceOf sl vl vu .none) (pl : IsPart vl lo) (pu : IsPart vu hi)
    (hw : ¬ (sIx items.size 0 lo = 0 ∧ sIx items.size items.size hi = items.size))
    (h : Q (.ref s.heap.objs.size) { s with heap := s.heap.push { cls := .type "tuple", data := .seq ((items.toList.drop (sIx items.size 0 lo)).take (sIx items.size items.size hi - sIx items.size 0 lo)).toArray } })
    (hsz : items.size ≤ sizeLine) : wpAny (model prog w) A (getItem (.ref t) (.ref sl)) Q E s := by
  have htake : sizeOk (.seq ((items.toList.drop (sIx items.size 0 lo)).take (sIx items.size items.size hi - sIx items.size 0 lo)).toArray) := by
    show ((items.toList.drop (sIx items.size 0 lo)).take (sIx items.size items.size hi - sIx items.size 0 lo)).toArray.size ≤ sizeLine
    rw [List.size_toArray, List.length_take, List.length_drop, Array.length_toList]
    omega
  have hj : sIx items.size items.size hi ≤ items.size := sIx_le _ _ (Nat.le_refl _) hi
  obtain ⟨os, hos, hcs, hds⟩ := id hs
  have hTs : s.TypeIs (.ref sl) "slice" := ⟨os, hos, hcs⟩
  unfold getItem
  try with_reducible refine wpAny_holding ?_
  first | refine wpAny_bind (wpAny_pure ?_) | skip
  refine wpAny_bind (wpAny_sequenceKey ht.typeIs (by decide) ?_)
  refine wpAny_bind (wpAny_callSpecial?_slot (name := Str.ofString "__getitem__") ht.typeIs PyProof.Rows.slot_tuple_getitem
    (wpAny_call_entry PyProof.Rows.slot_tuple_getitem ht.typeIs entry_tuple_getitem ?_ (args_tuple_getitem _ _)))
  show wpAny _ _ (Builtin.Tuple.tupleItemsOf (.ref t) >>= _) _ _ s
  refine wpAny_bind (tupleItemsOf_ ht ?_)
  refine wpAny_bind (wpAny_typeOf hTs ?_)
  rw [if_pos (by decide)]
  refine wpAny_bind (sliceApplied_gen hs pl pu ?_)
  have hno : ¬ ((((sIx items.size 0 lo : Nat) : Int) == 0 && (1 : Int) == 1 && (sIx items.size items.size hi - sIx items.size 0 lo) == items.size) = true) := by
    intro q
    rw [Bool.and_eq_true, Bool.and_eq_true] at q
    have q1 : ((sIx items.size 0 lo : Nat) : Int) = 0 := eq_of_beq q.1.1
    have q2 : sIx items.size items.size hi - sIx items.size 0 lo = items.size := eq_of_beq q.2
    exact hw ⟨by omega, by omega⟩
  show wpAny _ _ (if (((sIx items.size 0 lo : Nat) : Int) == 0 && (1 : Int) == 1 && (sIx items.size items.size hi - sIx items.size 0 lo) == items.size) = true then _ else _) _ _ s
  rw [if_neg hno, pick_gen]
  first
    | exact wpAny_bind (m := Builtin.Tuple.tupleExact _) (wpAny_newObj_type (wpAny_pure ⟨_, rfl, wpAny_pure h⟩) htake)
    | exact wpAny_bind (m := Builtin.Tuple.tupleExact _) (wpAny_newObj_type (wpAny_bind (wpAny_pure (wpAny_pure ⟨_, rfl, wpAny_pure h⟩))) htake)
    | exact wpAny_bind (wpAny_bind (m := Builtin.Tuple.tupleExact _) (wpAny_newObj_type (wpAny_pure (wpAny_pure ⟨_, rfl, wpAny_pure h⟩)) htake))
    | exact wpAny_bind (wpAny_bind (m := Builtin.Tuple.tupleExact _) (wpAny_newObj_type (wpAny_pure ⟨_, rfl, wpAny_pure h⟩) htake))
end
end HT

namespace L2
open PySem PySem.Spec PyProof.Rows

/-! ### the parts of a slice -/
abbrev TO := St → Hp → (Option Int → Hp → Prop) → Prop
/-- a slice's part (left out, or an int) -/
def PO (X : Cx) (e : Option Expr) (t : TO) : Prop :=
  ∀ (pins : List (Addr × Obj)) (s : Shared) (σ : St) (H : Hp) (Q : Option Int → Hp → Prop), Inv X pins σ H s → t σ H Q →
    wpAny (model X.prog X.w) X.A (evalPart e X.env) (fun u s' => ∃ o H', Inv X pins σ H' s' ∧ IsPart u o ∧ Q o H') X.xe s
def tNoPart : TO := fun _ H Q => Q none H
def tPart (t : TE) : TO := fun σ H Q => t σ H fun x H1 => ∃ i, x = .int i ∧ Q (some i) H1

theorem intsAre_of {ns : List Int} : ∀ {us : List Value}, Vals (ns.map V.int) us → IntsAre us ns := by
  induction ns with
  | nil => intro us r; rw [List.map_nil] at r; cases r; exact .nil
  | cons n ns ih =>
    intro us r
    rw [List.map_cons] at r
    cases r with
    | cons r1 r2 =>
      obtain ⟨t, e⟩ := r1
      subst e
      exact .cons n t (ih r2)

section
variable {X : Cx} {e : Expr} {te : TE} {lo hi : Option Expr} {tl th : TO} {pos p2 : Pos}

theorem po_none : PO X none tNoPart := by
  intro pins s σ H Q I h
  rw [evalPart_none]
  exact wpAny_pure ⟨none, H, I, .none, h⟩
theorem po_some (h : PE X e te) : PO X (some e) (tPart te) := by
  intro pins s σ H Q I hw
  rw [evalPart_some]
  refine thn (h pins s σ H _ I hw) fun u s1 ⟨x, H1, I1, r1, q1⟩ => ?_
  obtain ⟨i, rfl, q⟩ := q1
  obtain ⟨t, rfl⟩ := r1
  exact ⟨some i, H1, I1, .int i t, q⟩

/-- what a slice of a value is, by values: the slice object stands at sl -/
def SlR (X : Cx) (r : V → Option Int → Option Int → Hp → VK → Prop) : Prop :=
  ∀ (pins : List (Addr × Obj)) (s : Shared) (σ : St) (H : Hp) (x : V) (v vl vu : Value) (lo hi : Option Int) (sl : Addr) (Q : VK), Inv X pins σ H s → RelV x v → s.heap.IsSliceOf sl vl vu .none → IsPart vl lo → IsPart vu hi → r x lo hi H Q →
    ∃ T id, typeLookup (.type T) "__getitem__" = pure (some (.builtin id)) ∧ s.TypeIs v T ∧ wpAny (model X.prog X.w) X.A (getItem v (.ref sl)) (EP X pins σ Q) X.xe s
theorem SlR.or {r r' : V → Option Int → Option Int → Hp → VK → Prop} (h : SlR X r) (h' : SlR X r') : SlR X (fun x lo hi H Q => r x lo hi H Q ∨ r' x lo hi H Q) := by
  intro pins s σ H x v vl vu lo hi sl Q I rx hs pl pu q
  rcases q with q | q
  · exact h pins s σ H x v vl vu lo hi sl Q I rx hs pl pu q
  · exact h' pins s σ H x v vl vu lo hi sl Q I rx hs pl pu q
def tSl (r : V → Option Int → Option Int → Hp → VK → Prop) (te : TE) (tl th : TO) : TE := fun σ H Q => te σ H fun x H1 => tl σ H1 fun l H2 => th σ H2 fun u H3 => r x l u H3 Q
/-- a[lo:hi], any a -/
theorem pe_slice {r : V → Option Int → Option Int → Hp → VK → Prop} (hr : SlR X r) (he : PE X e te) (hl : PO X lo tl) (hu : PO X hi th) : PE X (.Subscript e (.Slice lo hi none p2) pos) (tSl r te tl th) := by
  intro pins s σ H Q I h
  refine Subscript_ (thn (he pins s σ H _ I h) fun v s1 ⟨x, H1, I1, r1, q1⟩ => ?_)
  refine wpAny_Slice (thn (hl pins s1 σ H1 _ I1 q1) fun vl s2 ⟨l, H2, I2, pl, q2⟩ => thn (hu pins s2 σ H2 _ I2 q2) fun vu s3 ⟨u, H3, I3, pu, q3⟩ => ?_)
  rw [evalPart_none]
  refine wpAny_pure ?_
  have I4 : Inv X pins σ H3 { s3 with heap := s3.heap.push { cls := .type "slice", data := .fields #[vl, vu, .none] } } := I3.kept (t' := s3.toks) fun b ob q => Heap.get?_push_of_some _ q
  obtain ⟨T, id, hT, ht, hg⟩ := hr pins { s3 with heap := s3.heap.push { cls := .type "slice", data := .fields #[vl, vu, .none] } } σ H3 x v vl vu l u s3.heap.objs.size Q I4 r1 (Heap.IsSliceOf.new ..) pl pu q3
  show wpAny (model X.prog X.w) X.A (subscriptTail e (.Slice lo hi none p2) v (.ref s3.heap.objs.size)) (EP X pins σ Q) X.xe { s3 with heap := s3.heap.push { cls := .type "slice", data := .fields #[vl, vu, .none] } }
  exact tail_any (ops := [.ref s3.heap.objs.size, v]) ht hT hg (by with_unfolding_all rfl)

/-- the items of xs[lo:hi] -/
def cutV (xs : List V) (lo hi : Option Int) : List V := (xs.drop (HT.sIx xs.length 0 lo)).take (HT.sIx xs.length xs.length hi - HT.sIx xs.length 0 lo)
theorem cutV_length (xs : List V) (lo hi : Option Int) : (cutV xs lo hi).length ≤ xs.length := by
  unfold cutV
  rw [List.length_take, List.length_drop]
  omega
/-- t[lo:hi], not the whole of it (the whole would be t itself) -/
def rSlT (K : PySem.W.Frag) : V → Option Int → Option Int → Hp → VK → Prop := fun x lo hi H Q => ∃ a xs, x = .ref a ∧ SqT K H a xs ∧
  ¬ (HT.sIx xs.length 0 lo = 0 ∧ HT.sIx xs.length xs.length hi = xs.length) ∧ ∀ p, H p = none → Q (.ref p) (upd H p (.tup (cutV xs lo hi)))
theorem sl_tup : SlR X (rSlT X.K) := by
  intro pins s σ H x v vl vu lo hi sl Q I rx hs pl pu h
  obtain ⟨a, xs, rfl, hx, hw, q⟩ := h
  cases rx
  obtain ⟨its, r, ht, hz⟩ := I.tuple hx
  have hlen : its.toArray.size = xs.length := by rw [List.size_toArray]; exact r.length.symm
  refine ⟨"tuple", _, PyProof.Rows.slot_tuple_getitem.lookup, ht.typeIs, ?_⟩
  refine HT.getItem_tuple_cut ht hs pl pu (by rw [hlen]; exact hw) ?_ (by rw [hlen]; exact hz)
  rw [hlen]
  refine ⟨.ref s.heap.objs.size, _, I.laid (t' := s.toks) (o := .tup (cutV xs lo hi)) (fun b ob q => Heap.get?_push_of_some _ q) (Nat.le_refl _) ?_, rfl, q _ (I.hok.fresh (Nat.le_refl _))⟩
  exact ⟨Nat.le_trans (cutV_length xs lo hi) hz, _, (r.drop (HT.sIx xs.length 0 lo)).take (HT.sIx xs.length xs.length hi - HT.sIx xs.length 0 lo), IsTup.new _ _⟩

/-! ### t < u, t + u -/
def rLtT (K : PySem.W.Frag) : R2 := fun x y H Q => ∃ a b ns ms, x = .ref a ∧ y = .ref b ∧ SqT K H a (ns.map V.int) ∧ SqT K H b (ms.map V.int) ∧ Q (.bl (HT.lexLt ns ms)) H
theorem op_ltT (hu : X.A.units < cLine) : OpR X (compareOp .Lt) (rLtT X.K) := by
  intro pins s σ H x y v u Q I rx ry h
  obtain ⟨a, b, ns, ms, rfl, rfl, ha, hb, q⟩ := h
  cases rx
  cases ry
  obtain ⟨its, r1, p1, _⟩ := I.tuple ha
  obtain ⟨its2, r2, p2, _⟩ := I.tuple hb
  have i1 : IntsAre its.toArray.toList ns := intsAre_of r1
  have i2 : IntsAre its2.toArray.toList ms := intsAre_of r2
  exact HT.lt_tupInts p1 p2 i1 i2 hu ⟨.bl (HT.lexLt ns ms), H, I, rfl, q⟩
/-- t + u, t not empty: u empty gives t itself -/
def rCatT (K : PySem.W.Frag) : R2 := fun x y H Q => ∃ a b xs ys, x = .ref a ∧ y = .ref b ∧ SqT K H a xs ∧ SqT K H b ys ∧ xs ≠ [] ∧ xs.length + ys.length ≤ sizeLine ∧
  (ys = [] → Q (.ref a) H) ∧ (ys ≠ [] → ∀ p, H p = none → Q (.ref p) (upd H p (.tup (xs ++ ys))))
theorem Vals.nil_iff {xs : List V} {us : List Value} (r : Vals xs us) : us = [] ↔ xs = [] := by
  cases r with
  | nil => simp
  | cons _ _ => simp
theorem op_catT : OpR X (binaryOp .Add) (rCatT X.K) := by
  intro pins s σ H x y v u Q I rx ry h
  obtain ⟨a, b, xs, ys, rfl, rfl, ha, hb, hx, hz, q1, q2⟩ := h
  cases rx
  cases ry
  obtain ⟨its, r1, p1, _⟩ := I.tuple ha
  obtain ⟨its2, r2, p2, _⟩ := I.tuple hb
  refine HT.cat_tup p1 p2 (fun z => hx (r1.nil_iff.mp z)) (fun z => ⟨.ref a, H, I, rfl, q1 (r2.nil_iff.mp z)⟩) (fun z => ?_) (by rw [← r1.length, ← r2.length]; exact hz)
  refine ⟨.ref s.heap.objs.size, _, I.laid (t' := s.toks) (o := .tup (xs ++ ys)) (fun b ob q => Heap.get?_push_of_some _ q) (Nat.le_refl _) ?_, rfl, q2 (fun w => z (r2.nil_iff.mpr w)) _ (I.hok.fresh (Nat.le_refl _))⟩
  exact ⟨by rw [List.length_append]; exact hz, _, r1.append r2, IsTup.new _ _⟩
/-- tuple(t) -/
theorem call_tupleT : CallR X (.type "tuple") (fun xs H Q => ∃ a ys, xs = [.ref a] ∧ SqT X.K H a ys ∧ Q (.ref a) H) := by
  intro pins s σ H xs us Q I r h
  obtain ⟨a, ys, rfl, ha, q⟩ := h
  obtain ⟨u, rfl, ru⟩ := vals1 r
  cases ru
  obtain ⟨its, _, p1, _⟩ := I.tuple ha
  exact call_tuple_same (items := its.toArray) p1 ⟨.ref a, H, I, rfl, q⟩
end
end L2

namespace L2
open PySem PySem.Spec PyProof.Rows

/-! ### places -/
/-- the place that an index of any sign means -/
def ixN (n : Nat) (i : Int) : Option Nat := if 0 ≤ i then (if i < n then some i.toNat else none) else if -(n : Int) ≤ i then some (i + n).toNat else none
def atI {α : Type} (xs : List α) (i : Int) : Option α := (ixN xs.length i).bind fun j => xs[j]?
theorem ixN_seq {n : Nat} {i : Int} {j : Nat} (h : ixN n i = some j) : seqIndex? i n = some j ∧ j < n ∧ -(n : Int) ≤ i ∧ i < n := by
  unfold ixN at h
  by_cases h0 : 0 ≤ i
  · rw [if_pos h0] at h
    by_cases h1 : i < n
    · rw [if_pos h1] at h
      have e : i.toNat = j := Option.some.inj h
      exact ⟨by rw [seqIndex_of h0 h1, e], by omega, by omega, h1⟩
    · rw [if_neg h1] at h; cases h
  · rw [if_neg h0] at h
    by_cases h1 : -(n : Int) ≤ i
    · rw [if_pos h1] at h
      have e : (i + n).toNat = j := Option.some.inj h
      exact ⟨by rw [seqIndex_neg (by omega) h1, e], by omega, h1, by omega⟩
    · rw [if_neg h1] at h; cases h
theorem atI_get {α : Type} {xs : List α} {i : Int} {v : α} (h : atI xs i = some v) : ∃ j, seqIndex? i xs.length = some j ∧ xs[j]? = some v ∧ j < xs.length ∧ -(xs.length : Int) ≤ i ∧ i < xs.length := by
  unfold atI at h
  cases e : ixN xs.length i with
  | none => rw [e] at h; cases h
  | some j =>
    rw [e] at h
    obtain ⟨h1, h2, h3, h4⟩ := ixN_seq e
    exact ⟨j, h1, h, h2, h3, h4⟩
theorem atI_nat {α : Type} {xs : List α} {j : Nat} {v : α} (h : xs[j]? = some v) : atI xs (j : Int) = some v := by
  have hj : j < xs.length := (List.getElem?_eq_some_iff.mp h).1
  have e : ixN xs.length (j : Int) = some j := by
    unfold ixN
    rw [if_pos (by omega), if_pos (by omega)]; simp
  unfold atI; rw [e]; exact h
theorem atI_last {α : Type} (xs : List α) (v : α) : atI (xs ++ [v]) (-1) = some v := by
  have hl : (xs ++ [v]).length = xs.length + 1 := by simp
  have e : ixN (xs ++ [v]).length (-1) = some xs.length := by
    unfold ixN
    rw [hl, if_neg (by decide), if_pos (by omega)]
    congr 1
    omega
  unfold atI
  rw [e]
  show (xs ++ [v])[xs.length]? = some v
  simp

/-! ### what may be subscripted -/
/-- what stands as an index of a plain subscript -/
def PlainIx (b : Expr) : Prop := ∀ o i, subscripted b false o i = operate [o, i] (getItem o i)
/-- a subscript by values -/
def IxR (X : Cx) (r : R2) : Prop :=
  ∀ (value slice : Expr) (pins : List (Addr × Obj)) (s : Shared) (σ : St) (H : Hp) (x y : V) (v u : Value) (Q : VK), Inv X pins σ H s → RelV x v → RelV y u → r x y H Q →
    subscripted slice false v u = operate [v, u] (getItem v u) → wpAny (model X.prog X.w) X.A (subscriptTail value slice v u) (EP X pins σ Q) X.xe s
/-- a call of a builtin's method by values: the receiver, the arguments -/
def MtR (X : Cx) (id : String) (r : V → List V → Hp → VK → Prop) : Prop :=
  ∀ (pins : List (Addr × Obj)) (s : Shared) (σ : St) (H : Hp) (x : V) (xs : List V) (v : Value) (us : List Value) (Q : VK), Inv X pins σ H s → RelV x v → Vals xs us → r x xs H Q →
    wpAny (model X.prog X.w) X.A (call (.builtin id) (v :: us)) (EP X pins σ Q) X.xe s
section
variable {X : Cx} {a b : Expr} {ta tb : TE} {pos : Pos}
theorem IxR.or {r r' : R2} (h : IxR X r) (h' : IxR X r') : IxR X (fun x y H Q => r x y H Q ∨ r' x y H Q) := by
  intro value slice pins s σ H x y v u Q I rx ry q hs
  rcases q with q | q
  · exact h value slice pins s σ H x y v u Q I rx ry q hs
  · exact h' value slice pins s σ H x y v u Q I rx ry q hs
theorem MtR.or {id : String} {r r' : V → List V → Hp → VK → Prop} (h : MtR X id r) (h' : MtR X id r') : MtR X id (fun x xs H Q => r x xs H Q ∨ r' x xs H Q) := by
  intro pins s σ H x xs v us Q I rx rs q
  rcases q with q | q
  · exact h pins s σ H x xs v us Q I rx rs q
  · exact h' pins s σ H x xs v us Q I rx rs q
/-- a[b] -/
theorem pe_ix {r : R2} (hr : IxR X r) (ha : PE X a ta) (hb : PE X b tb) (hs : PlainIx b) : PE X (.Subscript a b pos) (tOp r ta tb) := by
  intro pins s σ H Q I h
  exact Subscript_ (binT ha hb I h fun v u s2 x y H2 I2 rx ry q => hr a b pins s2 σ H2 x y v u Q I2 rx ry q (hs _ _))

def rIxL (K : PySem.W.Frag) : R2 := fun x y H Q => ∃ p xs i v, x = .ref p ∧ y = .int i ∧ SqL K H p xs ∧ atI xs i = some v ∧ Q v H
def rIxT (K : PySem.W.Frag) : R2 := fun x y H Q => ∃ p xs i v, x = .ref p ∧ y = .int i ∧ SqT K H p xs ∧ atI xs i = some v ∧ Q v H
def rIxS : R2 := fun x y H Q => ∃ z i c, x = .str z ∧ y = .int i ∧ z.length ≤ sizeLine ∧ atI z.cps.toList i = some c ∧ Q (.str ⟨#[c]⟩) H
theorem ix_list : IxR X (rIxL X.K) := by
  intro value slice pins s σ H x y v u Q I rx ry h hs
  obtain ⟨p, xs, i, z, rfl, rfl, hq, he, q⟩ := h
  cases rx
  obtain ⟨t, rfl⟩ := ry
  obtain ⟨its, r, pl, hz⟩ := I.list hq
  obtain ⟨j, h1, h2, h3, h4, h5⟩ := atI_get he
  obtain ⟨w, ew, rw'⟩ := r.get h2
  have hl := r.length
  have hn := line63
  have fin : EP X pins σ Q w s := ⟨z, H, I, rw', q⟩
  by_cases h0 : 0 ≤ i
  · have hj : i.toNat = j := by
      rw [seqIndex_of h0 h5] at h1
      exact Option.some.inj h1
    exact item_listR pl.isList h0 (by omega) (by rw [hj]; simpa using ew) fin hs
  · have hj : (i + (its.toArray.size : Int)).toNat = j := by
      rw [seqIndex_neg (by omega) h4] at h1
      rw [List.size_toArray, ← hl]
      exact Option.some.inj h1
    exact subscriptTail_builtinR (x := w) pl.isList.typeIs slot_list_getitem.lookup
      (wpAny_getItem_list_neg (Q := fun r s' => r = w ∧ EP X pins σ Q r s') pl.isList (by omega) (by rw [List.size_toArray] <;> omega) (by omega) (by rw [hj]; simpa using ew) ⟨rfl, fin⟩) hs
theorem ix_tup : IxR X (rIxT X.K) := by
  intro value slice pins s σ H x y v u Q I rx ry h hs
  obtain ⟨p, xs, i, z, rfl, rfl, hq, he, q⟩ := h
  cases rx
  obtain ⟨t, rfl⟩ := ry
  obtain ⟨its, r, pl, hz⟩ := I.tuple hq
  obtain ⟨j, h1, h2, h3, h4, h5⟩ := atI_get he
  obtain ⟨w, ew, rw'⟩ := r.get h2
  have hl := r.length
  have hn := line63
  have fin : EP X pins σ Q w s := ⟨z, H, I, rw', q⟩
  exact subscriptTail_builtinR (x := w) pl.typeIs slot_tuple_getitem.lookup
    (getItem_tuple (j := j) (Q := fun r s' => r = w ∧ EP X pins σ Q r s') pl (by omega) (by omega) (by rw [List.size_toArray, ← hl]; exact h1) (by simpa using ew) ⟨rfl, fin⟩) hs
theorem ix_str : IxR X rIxS := by
  intro value slice pins s σ H x y v u Q I rx ry h hs
  obtain ⟨z, i, c, rfl, rfl, hz, he, q⟩ := h
  obtain ⟨t, rfl⟩ := rx
  obtain ⟨t', rfl⟩ := ry
  obtain ⟨j, h1, h2, h3, h4, h5⟩ := atI_get he
  have hl : z.cps.toList.length = z.length := by simp [Str.length]
  rw [hl] at h1 h4 h5
  have hn := line63
  exact tail_any (typeIs_str s z t) slot_str_getitem.lookup (getItem_str (c := c) (by
    have e1 : decide (i < -(2 ^ 63 : Int)) = false := decide_eq_false (by omega)
    have e2 : decide (i ≥ 2 ^ 63) = false := decide_eq_false (by omega)
    rw [e1, e2, Bool.or_false]) (by rw [h1]; simpa using h2) ⟨.str ⟨#[c]⟩, H, I.tok _, ⟨_, rfl⟩, q⟩) hs
/-- list, tuple or str -/
def rIx (K : PySem.W.Frag) : R2 := fun x y H Q => rIxL K x y H Q ∨ rIxT K x y H Q ∨ rIxS x y H Q
theorem ix_seq : IxR X (rIx X.K) := ix_list.or (ix_tup.or ix_str)

/-! ### xs[i] = v, any sign -/
/-- the list's object behind a store -/
theorem mapSeq_set (its : List Value) (n j : Nat) (u : Value) : Obj.mapSeq (·.setIfInBounds j u) { cls := .type "list", data := .seq its.toArray n } = { cls := .type "list", data := .seq (its.set j u).toArray n } := by
  simp [Obj.mapSeq]
theorem Inv.lst {pins : List (Addr × Obj)} {σ : St} {H : Hp} {s : Shared} {p : Addr} {xs : List V} (I : Inv X pins σ H s) (h : H p = some (.lst xs)) :
    ∃ (its : List Value) (n : Nat), Vals xs its ∧ s.heap.get? p = some { cls := .type "list", data := .seq its.toArray n } ∧ xs.length ≤ sizeLine := by
  obtain ⟨z, its, n, r, e⟩ := I.hok p _ h
  exact ⟨its, n, r, e, z⟩
/-- the list at p is written by an update of its object -/
theorem Inv.lstUpd {pins : List (Addr × Obj)} {σ : St} {H : Hp} {s : Shared} {p : Addr} {xs ys : List V} {its its' : List Value} {n n' : Nat} {f : Obj → Obj} (I : Inv X pins σ H s) (h : H p = some (.lst xs))
    (ho : s.heap.get? p = some { cls := .type "list", data := .seq its.toArray n }) (hf : f { cls := .type "list", data := .seq its.toArray n } = { cls := .type "list", data := .seq its'.toArray n' }) (r : Vals ys its') (hz : ys.length ≤ sizeLine) (t : Nat) :
    Inv X pins σ (upd H p (.lst ys)) { s with heap := s.heap.update p f, toks := t } := by
  have e : (s.heap.update p f).get? p = some { cls := .type "list", data := .seq its'.toArray n' } := by
    rw [Heap.get?_update_self f ho (by rw [hf] <;> rfl), hf]
  refine I.write (x := p) (e := p) (by rw [h]; trivial) (.inl rfl) (fun b u hb q => (Heap.get?_update_other _ _ (Ne.symm hb)).trans q) ⟨_, e⟩ ?_
  exact ⟨hz, its', n', r, e⟩
def rSetL : V → V → V → Hp → (Hp → Prop) → Prop := fun o i v H Q => ∃ p xs k j, o = .ref p ∧ i = .int k ∧ H p = some (.lst xs) ∧ ixN xs.length k = some j ∧ Q (upd H p (.lst (xs.set j v)))
theorem set_list : PSet X rSetL := by
  intro pins s σ H o i v ov iv u Q I ro ri rv h
  obtain ⟨p, xs, k, j, rfl, rfl, hp, hj, q⟩ := h
  cases ro
  obtain ⟨t, rfl⟩ := ri
  obtain ⟨its, n, r, ho, hz⟩ := I.lst hp
  obtain ⟨h1, h2, h3, h4⟩ := ixN_seq hj
  have hl := r.length
  have hn := line63
  have I' : Inv X pins σ (upd H p (.lst (xs.set j v))) { s with heap := s.heap.update p (Obj.mapSeq (·.setIfInBounds j u)) } :=
    I.lstUpd hp ho (mapSeq_set its n j u) (r.set rv j) (by rw [List.length_set]; exact hz) s.toks
  by_cases h0 : 0 ≤ k
  · have hk : k.toNat = j := by
      rw [seqIndex_of h0 h4] at h1
      exact Option.some.inj h1
    exact PySem.W.ki_setAt ho h0 (by omega) (by rw [List.size_toArray, ← hl]; exact h4) (by rw [hk]; exact ⟨_, I', q⟩)
  · have hk : (k + (its.toArray.size : Int)).toNat = j := by
      rw [seqIndex_neg (by omega) h3] at h1
      rw [List.size_toArray, ← hl]
      exact Option.some.inj h1
    exact PySem.W.ki_setBack ho (by omega) (by rw [List.size_toArray, ← hl]; exact h3) (by omega) (by rw [hk]; exact ⟨_, I', q⟩)

/-! ### slices -/
theorem slice_bounds (lo hi : Option Int) (n : Nat) : (sliceBounds lo hi none n).1 = ((HT.sIx n 0 lo : Nat) : Int) ∧ (sliceBounds lo hi none n).2.1 = ((HT.sIx n n hi : Nat) : Int) ∧ (sliceBounds lo hi none n).2.2 = 1 := by
  refine ⟨?_, ?_, rfl⟩
  · cases lo with
    | none => simp [sliceBounds, HT.sIx]
    | some i =>
      simp only [sliceBounds, HT.sIx, Option.getD_none, show (1 : Int) > 0 by decide, if_true]
      by_cases h : i < 0
      · simp only [h, if_true] <;> omega
      · simp only [h, if_false] <;> omega
  · cases hi with
    | none => simp [sliceBounds, HT.sIx]
    | some i =>
      simp only [sliceBounds, HT.sIx, Option.getD_none, show (1 : Int) > 0 by decide, if_true]
      by_cases h : i < 0
      · simp only [h, if_true] <;> omega
      · simp only [h, if_false] <;> omega
theorem slicePick_cut (its : List Value) (lo hi : Option Int) : slicePick its.toArray lo hi none = ((its.drop (HT.sIx its.length 0 lo)).take (HT.sIx its.length its.length hi - HT.sIx its.length 0 lo)).toArray := by
  obtain ⟨h1, h2, h3⟩ := slice_bounds lo hi its.toArray.size
  unfold slicePick
  rw [h1, h2, h3]
  simp only [sliceRange_one, pick_run, List.size_toArray] <;> rfl
/-- xs[lo:hi] of a list: a new list -/
def rSlL (K : PySem.W.Frag) : V → Option Int → Option Int → Hp → VK → Prop := fun x lo hi H Q => ∃ a xs, x = .ref a ∧ SqL K H a xs ∧ ∀ p, H p = none → Q (.ref p) (upd H p (.lst (cutV xs lo hi)))
theorem sl_list : SlR X (rSlL X.K) := by
  intro pins s σ H x v vl vu lo hi sl Q I rx hs pl pu h
  obtain ⟨a, xs, rfl, hx, q⟩ := h
  cases rx
  obtain ⟨its, r, ht, hz⟩ := I.list hx
  have hlen := r.length
  refine ⟨"list", _, slot_list_getitem.lookup, ht.isList.typeIs, ?_⟩
  refine wpAny_getItem_list_slice ht.isList hs pl pu .none (by simp) ?_ (by rw [List.size_toArray] <;> omega)
  rw [slicePick_cut, ← hlen]
  refine ⟨.ref s.heap.objs.size, _, I.laid (t' := s.toks) (o := .lst (cutV xs lo hi)) (fun b ob q => Heap.get?_push_of_some _ q) (Nat.le_refl _) ?_, rfl, q _ (I.hok.fresh (Nat.le_refl _))⟩
  exact ⟨Nat.le_trans (cutV_length xs lo hi) hz, _, 0, (r.drop (HT.sIx xs.length 0 lo)).take (HT.sIx xs.length xs.length hi - HT.sIx xs.length 0 lo), Heap.get?_push_size _ rfl⟩

/-! ### in, not in: flat items -/
def flatV : V → Bool
  | .non => true
  | .bl _ => true
  | .int _ => true
  | .str _ => true
  | _ => false
/-- == of flat values -/
def eqV : V → V → Bool
  | .non, .non => true
  | .bl a, .bl b => a == b
  | .bl a, .int b => (if a then 1 else 0) == b
  | .int a, .bl b => a == (if b then 1 else 0)
  | .int a, .int b => a == b
  | .str a, .str b => a == b
  | _, _ => false
theorem eqAt_V {A : Around} {s : Shared} {y x : V} {u v : Value} (ry : RelV y u) (rx : RelV x v) (fy : flatV y = true) (fx : flatV x = true) : SeqAt.EqAt A s u v (eqV y x) := by
  cases y with
  | non =>
    cases ry
    cases x with
    | non => cases rx; exact SeqAt.EqAt.same _
    | bl b => cases rx; exact SeqAt.EqAt.none_bool b
    | int b => obtain ⟨t, rfl⟩ := rx; exact SeqAt.EqAt.none_int b t
    | str b => obtain ⟨t, rfl⟩ := rx; exact SeqAt.EqAt.none_str b t
    | _ => exact absurd (show false = true from fx) Bool.false_ne_true
  | bl a =>
    cases ry
    cases x with
    | non => cases rx; exact SeqAt.EqAt.bool_none a
    | bl b => cases rx; exact SeqAt.EqAt.bool_bool a b
    | int b => obtain ⟨t, rfl⟩ := rx; exact SeqAt.EqAt.bool_int a b t
    | str b => obtain ⟨t, rfl⟩ := rx; exact SeqAt.EqAt.bool_str a b t
    | _ => exact absurd (show false = true from fx) Bool.false_ne_true
  | int a =>
    obtain ⟨t', rfl⟩ := ry
    cases x with
    | non => cases rx; exact SeqAt.EqAt.int_none a t'
    | bl b => cases rx; exact SeqAt.EqAt.int_bool a t' b
    | int b => obtain ⟨t, rfl⟩ := rx; exact SeqAt.EqAt.int_int a t' b t
    | str b => obtain ⟨t, rfl⟩ := rx; exact SeqAt.EqAt.int_str a t' b t
    | _ => exact absurd (show false = true from fx) Bool.false_ne_true
  | str a =>
    obtain ⟨t', rfl⟩ := ry
    cases x with
    | non => cases rx; exact SeqAt.EqAt.str_none a t'
    | bl b => cases rx; exact SeqAt.EqAt.str_bool a t' b
    | int b => obtain ⟨t, rfl⟩ := rx; exact SeqAt.EqAt.str_int a t' b t
    | str b => obtain ⟨t, rfl⟩ := rx; exact SeqAt.EqAt.str_str a t' b t
    | _ => exact absurd (show false = true from fx) Bool.false_ne_true
  | _ => exact absurd (show false = true from fy) Bool.false_ne_true
/-- the items' answers, read off the values (a value's own answer does not lean on its token) -/
def eqU (x : V) (u : Value) : Bool := match u with
  | .none => eqV .non x
  | .bool b => eqV (.bl b) x
  | .int i _ => eqV (.int i) x
  | .str z _ => eqV (.str z) x
  | _ => false
theorem eqU_of {x y : V} {u : Value} (r : RelV y u) (f : flatV y = true) : eqU x u = eqV y x := by
  cases y with
  | non => cases r; rfl
  | bl b => cases r; rfl
  | int i => obtain ⟨t, rfl⟩ := r; rfl
  | str z => obtain ⟨t, rfl⟩ := r; rfl
  | _ => exact absurd (show false = true from f) Bool.false_ne_true
theorem any_eqU {x : V} : ∀ {xs : List V} {us : List Value}, Vals xs us → xs.all flatV = true → us.any (eqU x) = xs.any fun y => eqV y x
  | _, _, .nil, _ => rfl
  | y :: xs, u :: us, .cons r t, f => by
    rw [List.all_cons, Bool.and_eq_true] at f
    rw [List.any_cons, List.any_cons, eqU_of r f.1, any_eqU t f.2]
theorem mem_eqAt {A : Around} {s : Shared} {x : V} {v : Value} (rx : RelV x v) (fx : flatV x = true) : ∀ {xs : List V} {us : List Value}, Vals xs us → xs.all flatV = true → ∀ u ∈ us, SeqAt.EqAt A s u v (eqU x u)
  | _, _, .nil, _ => fun u hu => by cases hu
  | y :: xs, u :: us, .cons r t, f => fun u' hu => by
    rw [List.all_cons, Bool.and_eq_true] at f
    rcases List.mem_cons.mp hu with rfl | hu
    · rw [eqU_of r f.1]; exact eqAt_V r rx f.1 fx
    · exact mem_eqAt rx fx t f.2 u' hu
def inV (x : V) (xs : List V) : Bool := xs.any fun y => eqV y x
/-- x in a list or tuple of flat items -/
def rIn (K : PySem.W.Frag) (neg : Bool) : R2 := fun x y H Q => ∃ p xs, y = .ref p ∧ (SqL K H p xs ∨ SqT K H p xs) ∧ flatV x = true ∧ xs.all flatV = true ∧ Q (.bl (if neg then !inV x xs else inV x xs)) H
theorem op_in_seq : OpR X (compareOp .In) (rIn X.K false) := by
  intro pins s σ H x y v u Q I rx ry h
  obtain ⟨p, xs, rfl, hq, fx, fs, q⟩ := h
  cases ry
  rcases hq with hq | hq
  · obtain ⟨its, r, pl, hz⟩ := I.list hq
    refine SeqAt.in_listAt (eqU x) pl.isList (fun w hw => mem_eqAt rx fx r fs w (by simpa using hw)) ⟨.bl _, H, I, rfl, ?_⟩
    rw [show its.toArray.any (eqU x) = its.any (eqU x) by simp, any_eqU r fs]
    exact q
  · obtain ⟨its, r, pl, hz⟩ := I.tuple hq
    refine SeqAt.in_tupleAt (eqU x) pl (fun w hw => mem_eqAt rx fx r fs w (by simpa using hw)) ⟨.bl _, H, I, rfl, ?_⟩
    rw [show its.toArray.any (eqU x) = its.any (eqU x) by simp, any_eqU r fs]
    exact q
theorem op_notIn_seq : OpR X (compareOp .NotIn) (rIn X.K true) := by
  intro pins s σ H x y v u Q I rx ry h
  obtain ⟨p, xs, rfl, hq, fx, fs, q⟩ := h
  cases ry
  rcases hq with hq | hq
  · obtain ⟨its, r, pl, hz⟩ := I.list hq
    refine SeqAt.notIn_listAt (eqU x) pl.isList (fun w hw => mem_eqAt rx fx r fs w (by simpa using hw)) ⟨.bl _, H, I, rfl, ?_⟩
    rw [show its.toArray.any (eqU x) = its.any (eqU x) by simp, any_eqU r fs]
    exact q
  · obtain ⟨its, r, pl, hz⟩ := I.tuple hq
    refine SeqAt.notIn_tupleAt (eqU x) pl (fun w hw => mem_eqAt rx fx r fs w (by simpa using hw)) ⟨.bl _, H, I, rfl, ?_⟩
    rw [show its.toArray.any (eqU x) = its.any (eqU x) by simp, any_eqU r fs]
    exact q
theorem op_notIn_str : OpR X (compareOp .NotIn) (fun x y H Q => ∃ i j, x = .str i ∧ y = .str j ∧ Q (.bl (!(!(Builtin.Str.occurrences j i 0 j.length 1).isEmpty))) H) := by
  intro pins s σ H x y v u Q I rx ry h
  obtain ⟨i, j, rfl, rfl, q⟩ := h
  obtain ⟨t, rfl⟩ := rx
  obtain ⟨t', rfl⟩ := ry
  exact notIn_str ⟨.bl _, H, I, rfl, q⟩

/-! ### len, list(x), tuple(x) of any list or tuple that is read -/
theorem call_len_seq : CallR X (.builtin "len") (fun xs H Q => ∃ p ys, xs = [.ref p] ∧ (SqL X.K H p ys ∨ SqT X.K H p ys) ∧ Q (.int ys.length) H) := by
  intro pins s σ H xs us Q I r h
  obtain ⟨p, ys, rfl, hq, q⟩ := h
  obtain ⟨u, rfl, rx⟩ := vals1 r
  cases rx
  have hn := line63
  rcases hq with hq | hq
  · obtain ⟨its, r', pl, hz⟩ := I.list hq
    have hlen := r'.length
    exact Calls.call_len_list pl.isList (by simp only [List.size_toArray] <;> omega) ⟨.int ys.length, H, I.tok _, ⟨s.toks + 1, by rw [List.size_toArray, hlen]⟩, q⟩
  · obtain ⟨its, r', pl, hz⟩ := I.tuple hq
    have hlen := r'.length
    exact len_tuple pl (by simp only [List.size_toArray] <;> omega) ⟨.int ys.length, H, I.tok _, ⟨s.toks + 1, by rw [List.size_toArray, hlen]⟩, q⟩
theorem call_len_str : CallR X (.builtin "len") (fun xs H Q => ∃ z, xs = [.str z] ∧ z.length ≤ sizeLine ∧ Q (.int z.length) H) := by
  intro pins s σ H xs us Q I r h
  obtain ⟨z, rfl, hz, q⟩ := h
  obtain ⟨u, rfl, t, rfl⟩ := vals1 r
  have hn := line63
  exact len_str (by omega) ⟨.int z.length, H, I.tok _, ⟨_, rfl⟩, q⟩
theorem CallR.or {f : Value} {r r' : List V → Hp → VK → Prop} (h : CallR X f r) (h' : CallR X f r') : CallR X f (fun xs H Q => r xs H Q ∨ r' xs H Q) := by
  intro pins s σ H xs us Q I rs q
  rcases q with q | q
  · exact h pins s σ H xs us Q I rs q
  · exact h' pins s σ H xs us Q I rs q
theorem call_list_of : CallR X (.type "list") (fun xs H Q => ∃ p ys, xs = [.ref p] ∧ (SqL X.K H p ys ∨ SqT X.K H p ys) ∧ ∀ l, H l = none → Q (.ref l) (upd H l (.lst ys))) := by
  intro pins s σ H xs us Q I r h
  obtain ⟨p, ys, rfl, hq, q⟩ := h
  obtain ⟨u, rfl, rx⟩ := vals1 r
  cases rx
  have fin : ∀ (its : List Value), Vals ys its → ys.length ≤ sizeLine → ∀ (h' : Heap) (c' : Nat), (∀ b o', s.heap.get? b = some o' → h'.get? b = some o') →
      h'.get? s.heap.objs.size = some { cls := .type "list", dict := none, data := .seq its.toArray c', slots := #[] } → EP X pins σ Q (.ref s.heap.objs.size) { s with heap := h' } := fun its r' hz h' c' kp e =>
    ⟨.ref s.heap.objs.size, _, I.laid (t' := s.toks) kp (Nat.le_refl _) (show ObjOk X.prog X.w _ h' _ (.lst ys) from ⟨hz, its, c', r', e⟩), rfl, q _ (I.hok.fresh (Nat.le_refl _))⟩
  rcases hq with hq | hq
  · obtain ⟨its, r', pl, hz⟩ := I.list hq
    have hlen := r'.length
    obtain ⟨o, ho, hc, n, hd⟩ := pl.isList
    exact call_list_seq p (.inl rfl) ho hc hd (fun h' c' kp e => fin its r' hz h' c' kp e) (by simp only [List.size_toArray] <;> omega)
  · obtain ⟨its, r', pl, hz⟩ := I.tuple hq
    have hlen := r'.length
    obtain ⟨o, ho, hc, n, hd⟩ := pl
    exact call_list_seq p (.inr rfl) ho hc hd (fun h' c' kp e => fin its r' hz h' c' kp e) (by simp only [List.size_toArray] <;> omega)
theorem call_tuple_of : CallR X (.type "tuple") (fun xs H Q => ∃ p ys, xs = [.ref p] ∧ ((SqL X.K H p ys ∧ ∀ l, H l = none → Q (.ref l) (upd H l (.tup ys))) ∨ (SqT X.K H p ys ∧ Q (.ref p) H))) := by
  intro pins s σ H xs us Q I r h
  obtain ⟨p, ys, rfl, h⟩ := h
  obtain ⟨u, rfl, rx⟩ := vals1 r
  cases rx
  rcases h with ⟨hq, q⟩ | ⟨hq, q⟩
  · obtain ⟨its, r', pl, hz⟩ := I.list hq
    have hlen := r'.length
    refine call_tuple_list pl.isList (fun h' kp => ?_) (by simp only [List.size_toArray] <;> omega)
    have I1 : Inv X pins σ H { s with heap := h' } := I.kept (t' := s.toks) kp
    have I2 : Inv X pins σ (upd H h'.objs.size (.tup ys)) { s with heap := h'.push { cls := .type "tuple", data := .seq its.toArray } } :=
      I1.laid (t' := s.toks) (fun b o e => Heap.get?_push_of_some _ e) (Nat.le_refl _) (show ObjOk X.prog X.w _ _ _ (.tup ys) from ⟨hz, its, r', IsTup.new _ _⟩)
    exact ⟨.ref h'.objs.size, _, I2, rfl, q _ (I1.hok.fresh (Nat.le_refl _))⟩
  · obtain ⟨its, r', pl, hz⟩ := I.tuple hq
    exact call_tuple_same pl ⟨.ref p, H, I, rfl, q⟩

/-! ### the call of a builtin's method: o.m(..) -/
/-- the value is of that builtin type -/
def tyV (K : PySem.W.Frag) (T : String) (x : V) (H : Hp) : Prop := match x with
  | .str _ => T = "str"
  | .int _ => T = "int"
  | .ref p => (T = "list" ∧ ∃ xs, SqL K H p xs) ∨ (T = "tuple" ∧ ∃ o, K.lookup p = some o ∧ o.cls = .type "tuple" ∧ o.dict = none) ∨
      (T = "dict" ∧ ((∃ kvs, H p = some (.dK kvs)) ∨ ∃ kvs, H p = some (.dT kvs))) ∨ (T = "set" ∧ ∃ S n, H p = some (.set S n))
  | _ => False
theorem tyV_is {pins : List (Addr × Obj)} {σ : St} {H : Hp} {s : Shared} {T : String} {x : V} {v : Value} (I : Inv X pins σ H s) (r : RelV x v) (ty : tyV X.K T x H) :
    s.TypeIs v T ∧ ∀ a, v = .ref a → ∃ ob, s.heap.get? a = some ob ∧ ob.dict = none := by
  cases x with
  | str z =>
    obtain ⟨t, rfl⟩ := r
    cases (show T = "str" from ty)
    exact ⟨typeIs_str s z t, fun _ e => nomatch e⟩
  | int i =>
    obtain ⟨t, rfl⟩ := r
    cases (show T = "int" from ty)
    exact ⟨typeIs_int s i t, fun _ e => nomatch e⟩
  | ref p =>
    cases r
    rcases ty with ⟨rfl, xs, hq⟩ | ⟨rfl, o, hk, hc, hd⟩ | ⟨rfl, hk⟩ | ⟨rfl, S, n, hk⟩
    · obtain ⟨its, _, pl, _⟩ := I.list hq
      refine ⟨pl.isList.typeIs, fun a e => ?_⟩
      cases e
      obtain ⟨o, n, e, c, hd, _⟩ := pl
      exact ⟨o, e, hd⟩
    · refine ⟨⟨o, I.kIn p o hk, hc⟩, fun a e => ?_⟩
      cases e
      exact ⟨o, I.kIn _ o hk, hd⟩
    · have z : ∃ o, s.heap.get? p = some o ∧ o.ExactDict := by
        rcases hk with ⟨kvs, hk⟩ | ⟨kvs, hk⟩
        · obtain ⟨_, _, _, _, o, _, _, e, ex, _⟩ := I.hok p _ hk
          exact ⟨o, e, ex⟩
        · obtain ⟨_, _, _, _, o, _, _, e, ex, _⟩ := I.hok p _ hk
          exact ⟨o, e, ex⟩
      obtain ⟨o, e, ex⟩ := z
      refine ⟨⟨o, e, ex.1⟩, fun a e2 => ?_⟩
      cases e2
      exact ⟨o, e, ex.2.1⟩
    · obtain ⟨o, _, _, _, e, ex, _⟩ := I.hok p _ hk
      refine ⟨⟨o, e, ex.1⟩, fun a e2 => ?_⟩
      cases e2
      exact ⟨o, e, ex.2.1⟩
  | _ => exact False.elim ty
def tBM0 (K : PySem.W.Frag) (T : String) (r : V → List V → Hp → VK → Prop) (to : TE) : TE := fun σ H Q => to σ H fun x H1 => tyV K T x H1 ∧ r x [] H1 Q
def tBM (K : PySem.W.Frag) (T : String) (r : V → List V → Hp → VK → Prop) (to : TE) (t : TA) : TE := fun σ H Q => to σ H fun x H1 => tyV K T x H1 ∧ t σ H1 fun xs H2 => r x xs H2 Q
variable {o e : Expr} {es : List Expr} {to : TE} {t : TA} {name : Str} {apos cpos : Pos} {T id : String} {r : V → List V → Hp → VK → Prop}
theorem pe_bm0 (pa : PlainAttrs T) (slot : Slot T name id) (hty : typeOf (.builtin id) = pure (.type "method_descriptor")) (hm : MtR X id r) (ho : PE X o to)
    (hbase : attributeBase o name X.env (eval o X.env) = eval o X.env := by rfl) (hline : (apos.endLine == cpos.line) = true := by rfl) : PE X (.Call (.Attribute o name apos) [] [] cpos) (tBM0 X.K T r to) := by
  intro pins s σ H Q I h
  refine wpAny_Call_method0_late hbase hline (thn (ho pins s σ H _ I h) fun v s1 ⟨x, H1, I1, r1, ty, q1⟩ => ?_)
  obtain ⟨h1, h2⟩ := tyV_is I1 r1 ty
  exact ⟨T, id, pa, slot, hty, h1, h2, Calls.callWith_builtin rfl (PySem.evalArgs_none (hm pins s1 σ H1 x [] v [] Q I1 r1 .nil q1))⟩
theorem pe_bm (pa : PlainAttrs T) (slot : Slot T name id) (hty : typeOf (.builtin id) = pure (.type "method_descriptor")) (hm : MtR X id r) (ho : PE X o to) (ha : PA X (e :: es) t)
    (hbase : attributeBase o name X.env (eval o X.env) = eval o X.env := by rfl)
    (hfew : ((backTo cpos (starEach (e :: es) X.env)).all (fun x => !x.1) && (backToKw cpos (keywordEach [] X.env)).all (fun x => x.1.isSome)
      && decide ((e :: es).length + ([] : List Keyword).length + (if ([] : List Keyword).isEmpty then 0 else 1) < 30)) = true := by rfl)
    (hline : (apos.endLine == cpos.line) = true := by rfl) (hs : starEach (e :: es) X.env = (false, eval e X.env) :: starEach es X.env := by rfl) (hplain : (backTo cpos (starEach es X.env)).any (·.1) = false := by rfl) :
    PE X (.Call (.Attribute o name apos) (e :: es) [] cpos) (tBM X.K T r to t) := by
  intro pins s σ H Q I h
  refine wpAny_Call_method_late hbase hfew hline rfl (thn (ho pins s σ H _ I h) fun v s1 ⟨x, H1, I1, r1, ty, q1⟩ => ?_)
  obtain ⟨h1, h2⟩ := tyV_is I1 r1 ty
  refine ⟨T, id, pa, slot, hty, h1, h2, ?_⟩
  have hA := ha cpos pins s1 σ H1 _ I1 q1
  rw [hs] at hA ⊢
  refine Calls.callWith_builtin (by show (false || (backTo cpos (starEach es X.env)).any (·.1)) = false; rw [hplain] <;> rfl) (Calls.evalArgs_plain ?_)
  exact thn hA fun us s2 ⟨vs, H2, I2, r2, q2⟩ => hm pins s2 σ H2 x vs v us Q I2 r1 r2 q2
/- xs.append(e), list.index on a module's tuple .. are MtR facts of 06m -/
end
end L2

namespace L2
open PySem PySem.Spec PyProof.Rows

def MtM (X : Cx) (id : String) (r : V → List V → Hp → VK → Prop) : Prop :=
  ∀ (pins : List (Addr × Obj)) (s : Shared) (σ : St) (H : Hp) (x : V) (xs : List V) (v : Value) (us : List Value) (Q : VK), Inv X pins σ H s → RelV x v → Vals xs us → r x xs H Q →
    wpAny (model X.prog X.w) X.A (call (.builtin id) (v :: us)) (EP X pins σ Q) X.xe s

/-! ### lists of values -/
theorem Vals.one : ∀ {x : V} {us : List Value}, Vals [x] us → ∃ u, us = [u] ∧ RelV x u
  | _, _, .cons r .nil => ⟨_, rfl, r⟩
theorem Vals.two : ∀ {x y : V} {us : List Value}, Vals [x, y] us → ∃ u v, us = [u, v] ∧ RelV x u ∧ RelV y v
  | _, _, _, .cons r (.cons q .nil) => ⟨_, _, rfl, r, q⟩
theorem Vals.zero : ∀ {us : List Value}, Vals [] us → us = []
  | _, .nil => rfl
theorem Vals.dropLast {xs : List V} {us : List Value} (h : Vals xs us) : Vals xs.dropLast us.dropLast := by
  induction h with
  | nil => exact .nil
  | cons r t ih =>
    cases t with
    | nil => exact .nil
    | cons q t' => exact .cons r ih
theorem Vals.eraseIdx : ∀ {xs : List V} {us : List Value} (i : Nat), Vals xs us → Vals (xs.eraseIdx i) (us.eraseIdx i)
  | _, _, _, .nil => .nil
  | _, _, 0, .cons _ t => t
  | _, _, i + 1, .cons r t => .cons r (Vals.eraseIdx i t)
theorem Vals.reverse {xs : List V} {us : List Value} (h : Vals xs us) : Vals xs.reverse us.reverse := by
  induction h with
  | nil => exact .nil
  | cons r t ih => rw [List.reverse_cons, List.reverse_cons]; exact Vals.append ih (.cons r .nil)
theorem Vals.rep {xs : List V} {us : List Value} (h : Vals xs us) : ∀ k : Nat, Vals (List.replicate k xs).flatten (List.replicate k us).flatten
  | 0 => .nil
  | k + 1 => by
    rw [List.replicate_succ, List.replicate_succ, List.flatten_cons, List.flatten_cons]
    exact Vals.append h (Vals.rep h k)
theorem erase_last {α : Type} (l : List α) : l.eraseIdx (l.length - 1) = l.dropLast := by
  induction l with
  | nil => rfl
  | cons a r ih =>
    cases r with
    | nil => rfl
    | cons b r =>
      have e : (a :: b :: r).length - 1 = ((b :: r).length - 1) + 1 := by
        have h1 : (a :: b :: r).length = r.length + 2 := rfl
        have h2 : (b :: r).length = r.length + 1 := rfl
        omega
      rw [e, List.eraseIdx_cons_succ, ih]
      all_goals rfl
theorem len_erase {α : Type} : ∀ (l : List α) (i : Nat), (l.eraseIdx i).length ≤ l.length
  | [], _ => Nat.le_refl _
  | _ :: _, 0 => Nat.le_succ _
  | _ :: r, i + 1 => Nat.succ_le_succ (len_erase r i)
theorem foldl_rep (its : List Value) : ∀ (k : Nat) (acc : List Value),
    List.foldl (fun x1 x2 => x1 ++ x2) acc.toArray (List.replicate k its.toArray) = (acc ++ (List.replicate k its).flatten).toArray
  | 0, acc => by simp
  | k + 1, acc => by
    have e : acc.toArray ++ its.toArray = (acc ++ its).toArray := by simp
    have e2 : (acc ++ its) ++ (List.replicate k its).flatten = acc ++ (List.replicate (k + 1) its).flatten := by
      rw [List.replicate_succ, List.flatten_cons, List.append_assoc]
    rw [← e2, ← foldl_rep its k (acc ++ its), ← e, List.replicate_succ, List.foldl_cons]

section
variable {X : Cx} {pins : List (Addr × Obj)} {σ : St} {H : Hp} {s : Shared} {l b : Addr} {xs ys zs : List V}

/-! ### the two steps: a tracked list is rewritten, a new list is laid -/
theorem Inv.lset {its its' : List Value} {n : Nat} {f : Array Value → Array Value} {t' : Nat} (I : Inv X pins σ H s) (hH : H l = some (.lst xs))
    (e : s.heap.get? l = some { cls := .type "list", data := .seq its.toArray n }) (hf : f its.toArray = its'.toArray) (hv : Vals ys its') (hz : ys.length ≤ sizeLine) :
    Inv X pins σ (upd H l (.lst ys)) { s with heap := s.heap.update l (Obj.mapSeq f), toks := t' } := by
  have q := PySem.IsL.update e f
  rw [hf] at q
  refine I.write (x := l) (e := l) (by rw [hH]; exact trivial) (.inl rfl) (fun b' u hb hu => (Heap.get?_update_other s.heap (Obj.mapSeq f) (Ne.symm hb)).trans hu) ⟨_, q⟩ ?_
  exact ⟨hz, its', _, hv, q⟩
theorem Inv.lnew {its : List Value} {t' : Nat} (I : Inv X pins σ H s) (hv : Vals ys its) (hz : ys.length ≤ sizeLine) :
    Inv X pins σ (upd H s.heap.objs.size (.lst ys)) { s with heap := s.heap.push { cls := .type "list", data := .seq its.toArray }, toks := t' } :=
  I.laid (fun _ _ q => Heap.get?_push_of_some _ q) (Nat.le_refl _) ⟨hz, its, 0, hv, Heap.get?_push_size _ rfl⟩
theorem Inv.fresh (I : Inv X pins σ H s) : H s.heap.objs.size = none := I.hok.fresh (Nat.le_refl _)
theorem Inv.lstM (I : Inv X pins σ H s) (hH : H l = some (.lst xs)) : xs.length ≤ sizeLine ∧ ∃ (its : List Value) (n : Nat), Vals xs its ∧ xs.length = its.length ∧ s.heap.get? l = some { cls := .type "list", data := .seq its.toArray n } := by
  obtain ⟨z, its, n, r, e⟩ := I.hok l _ hH
  exact ⟨z, its, n, r, r.length, e⟩

theorem notLongL {n : Nat} (h : n ≤ sizeLine) : Builtin.List.listTooLong n = false := by
  unfold Builtin.List.listTooLong
  exact decide_eq_false (by omega)
end

section
variable {X : Cx}

/-! ### methods -/
def rAppend : V → List V → Hp → VK → Prop := fun x vs H Q => ∃ l xs y, x = .ref l ∧ vs = [y] ∧ H l = some (.lst xs) ∧ xs.length < sizeLine ∧ Q .non (upd H l (.lst (xs ++ [y])))
theorem mt_append : MtM X "list.append" rAppend := by
  intro pins s σ H x vs v us Q I rx rv h
  obtain ⟨l, xs, y, rfl, rfl, hH, hz, q⟩ := h
  cases rx
  obtain ⟨u, rfl, ru⟩ := rv.one
  obtain ⟨z, its, n, r, hl, e⟩ := I.lstM hH
  refine call_meets F.slot_list_append ⟨_, e, rfl⟩ F.entry_list_append (F.args_list_append_2 _ _) (PySem.list_append l its.toArray n u (by rw [List.size_toArray]; omega)) ⟨e, ?_⟩
  refine ⟨.non, _, I.lset (its' := its ++ [u]) hH e (by simp) (r.append (.cons ru .nil)) ?_, rfl, q⟩
  rw [List.length_append, List.length_singleton]
  omega

def rExtend : V → List V → Hp → VK → Prop := fun x vs H Q => ∃ l b xs zs, x = .ref l ∧ vs = [.ref b] ∧ H l = some (.lst xs) ∧ H b = some (.lst zs) ∧ xs.length + zs.length ≤ sizeLine ∧ Q .non (upd H l (.lst (xs ++ zs)))
theorem mt_extend : MtM X "list.extend" rExtend := by
  intro pins s σ H x vs v us Q I rx rv h
  obtain ⟨l, b, xs, zs, rfl, rfl, hH, hB, hz, q⟩ := h
  cases rx
  obtain ⟨u, rfl, ru⟩ := rv.one
  cases ru
  obtain ⟨z, its, n, r, hl, e⟩ := I.lstM hH
  obtain ⟨z2, its2, n2, r2, hl2, e2⟩ := I.lstM hB
  have hsz : its.toArray.size + its2.toArray.size ≤ sizeLine := by rw [List.size_toArray, List.size_toArray]; omega
  have hlong : ¬ (!its.toArray.isEmpty && Builtin.List.listTooLong (its.toArray.size + its2.toArray.size)) = true := by
    rw [notLongL hsz, Bool.and_false]
    exact Bool.false_ne_true
  refine call_meets F.slot_list_extend ⟨_, e, rfl⟩ F.entry_list_extend (F.args_list_extend_2 _ _)
    (AutoSeq1.list_extend_list_list_0 l its.toArray n b its2.toArray n2 hlong (by rw [List.size_toArray]; omega) (by omega)) ⟨e, e2, ?_⟩
  refine ⟨.non, _, I.lset (its' := its ++ its2) hH e (by simp) (r.append r2) ?_, rfl, q⟩
  rw [List.length_append]
  omega

def rPop : V → List V → Hp → VK → Prop := fun x vs H Q => ∃ l xs y, x = .ref l ∧ vs = [] ∧ H l = some (.lst xs) ∧ xs[xs.length - 1]? = some y ∧ Q y (upd H l (.lst xs.dropLast))
theorem mt_pop : MtM X "list.pop" rPop := by
  intro pins s σ H x vs v us Q I rx rv h
  obtain ⟨l, xs, y, rfl, rfl, hH, hy, q⟩ := h
  cases rx
  have hus := rv.zero
  subst hus
  obtain ⟨z, its, n, r, hl, e⟩ := I.lstM hH
  obtain ⟨u, hu, ru⟩ := r.get hy
  have hy' : its.toArray[its.toArray.size - 1]? = some u := by
    show its.toArray[its.length - 1]? = some u
    rw [← Array.getElem?_toList, ← hl]
    exact hu
  refine call_meets F.slot_list_pop ⟨_, e, rfl⟩ F.entry_list_pop (F.args_list_pop_1 _) (MeetsSeq.list_pop_last l its.toArray n u hy' (by rw [List.size_toArray]; omega)) ⟨e, ?_⟩
  refine ⟨y, _, I.lset (its' := its.dropLast) hH e ?_ r.dropLast ?_, ru, q⟩
  · show its.toArray.eraseIdxIfInBounds (its.toArray.size - 1) = its.dropLast.toArray
    rw [List.size_toArray, List.eraseIdxIfInBounds_toArray, erase_last]
  · rw [List.length_dropLast]
    omega

def rPopAt : V → List V → Hp → VK → Prop := fun x vs H Q => ∃ l xs i k y, x = .ref l ∧ vs = [.int i] ∧ H l = some (.lst xs) ∧ -(2 ^ 63) ≤ i ∧ i < 2 ^ 63 ∧ seqIndex? i xs.length = some k ∧ xs[k]? = some y ∧ Q y (upd H l (.lst (xs.eraseIdx k)))
theorem mt_popAt : MtM X "list.pop" rPopAt := by
  intro pins s σ H x vs v us Q I rx rv h
  obtain ⟨l, xs, i, k, y, rfl, rfl, hH, h1, h2, hk, hy, q⟩ := h
  cases rx
  obtain ⟨u, rfl, ru⟩ := rv.one
  obtain ⟨t, rfl⟩ := ru
  obtain ⟨z, its, n, r, hl, e⟩ := I.lstM hH
  obtain ⟨w, hw, rw'⟩ := r.get hy
  refine call_meets F.slot_list_pop ⟨_, e, rfl⟩ F.entry_list_pop (F.args_list_pop_2 _ _)
    (MeetsSeq.list_pop_at l its.toArray n i t k w (fitsIndex_both h1 h2) (by rw [List.size_toArray, ← hl]; exact hk) (by rw [← Array.getElem?_toList]; exact hw) (by rw [List.size_toArray]; omega)) ⟨e, ?_⟩
  refine ⟨y, _, I.lset (its' := its.eraseIdx k) hH e ?_ (r.eraseIdx k) ?_, rw', q⟩
  · show its.toArray.eraseIdxIfInBounds k = (its.eraseIdx k).toArray
    rw [List.eraseIdxIfInBounds_toArray]
  · have := len_erase xs k
    omega

def rReverse : V → List V → Hp → VK → Prop := fun x vs H Q => ∃ l xs, x = .ref l ∧ vs = [] ∧ H l = some (.lst xs) ∧ Q .non (upd H l (.lst xs.reverse))
theorem mt_reverse : MtM X "list.reverse" rReverse := by
  intro pins s σ H x vs v us Q I rx rv h
  obtain ⟨l, xs, rfl, rfl, hH, q⟩ := h
  cases rx
  have hus := rv.zero
  subst hus
  obtain ⟨z, its, n, r, hl, e⟩ := I.lstM hH
  refine call_meets F.slot_list_reverse ⟨_, e, rfl⟩ F.entry_list_reverse (F.args_list_reverse_1 _) (AutoSeq1.list_reverse_list_0 l its.toArray n (by rw [List.size_toArray]; omega)) ⟨e, ?_⟩
  refine ⟨.non, _, I.lset (its' := its.reverse) hH e (by simp) r.reverse ?_, rfl, q⟩
  rw [List.length_reverse]
  omega

def rClear : V → List V → Hp → VK → Prop := fun x vs H Q => ∃ l xs, x = .ref l ∧ vs = [] ∧ H l = some (.lst xs) ∧ Q .non (upd H l (.lst []))
theorem mt_clear : MtM X "list.clear" rClear := by
  intro pins s σ H x vs v us Q I rx rv h
  obtain ⟨l, xs, rfl, rfl, hH, q⟩ := h
  cases rx
  have hus := rv.zero
  subst hus
  obtain ⟨z, its, n, r, hl, e⟩ := I.lstM hH
  refine call_meets F.slot_list_clear ⟨_, e, rfl⟩ F.entry_list_clear (F.args_list_clear_1 _) (AutoSeq1.list_clear_list_0 l its.toArray n (by rw [List.size_toArray]; omega)) ⟨e, ?_⟩
  exact ⟨.non, _, I.lset (its' := []) (ys := []) hH e rfl .nil (Nat.zero_le _), rfl, q⟩

/-! ### list + list, list += list, list * int -/
def rCat : R2 := fun x y H Q => ∃ l b xs zs, x = .ref l ∧ y = .ref b ∧ H l = some (.lst xs) ∧ H b = some (.lst zs) ∧ xs.length + zs.length ≤ sizeLine ∧ ∀ p, H p = none → Q (.ref p) (upd H p (.lst (xs ++ zs)))
theorem op_cat : OpR X (binaryOp .Add) rCat := by
  intro pins s σ H x y v u Q I rx ry h
  obtain ⟨l, b, xs, zs, rfl, rfl, hH, hB, hz, q⟩ := h
  cases rx
  cases ry
  obtain ⟨z, its, n, r, hl, e⟩ := I.lstM hH
  obtain ⟨z2, its2, n2, r2, hl2, e2⟩ := I.lstM hB
  refine PySem.P.add_list e e2 ?_ (by rw [List.size_toArray, List.size_toArray]; omega)
  have ea : its.toArray ++ its2.toArray = (its ++ its2).toArray := by simp
  rw [ea]
  exact ⟨.ref _, _, I.lnew (t' := s.toks) (r.append r2) (by rw [List.length_append]; omega), rfl, q _ I.fresh⟩
/-- a list times an int (a negative one is nothing) -/
def rRep : R2 := fun x y H Q => ∃ l k xs, x = .ref l ∧ y = .int k ∧ H l = some (.lst xs) ∧ -(2 ^ 63) ≤ k ∧ k < 2 ^ 63 ∧ xs.length * k.toNat ≤ sizeLine ∧
  ∀ p, H p = none → Q (.ref p) (upd H p (.lst (List.replicate k.toNat xs).flatten))
theorem len_rep {α : Type} (xs : List α) (k : Nat) : (List.replicate k xs).flatten.length = k * xs.length := by
  induction k with
  | zero => simp
  | succ k ih => rw [List.replicate_succ, List.flatten_cons, List.length_append, ih, Nat.succ_mul, Nat.add_comm]
theorem op_rep : OpR X (binaryOp .Mult) rRep := by
  intro pins s σ H x y v u Q I rx ry h
  obtain ⟨l, k, xs, rfl, rfl, hH, h1, h2, hz, q⟩ := h
  cases rx
  obtain ⟨t, rfl⟩ := ry
  obtain ⟨z, its, n, r, hl, e⟩ := I.lstM hH
  have hlen : its.toArray.size * k.toNat ≤ sizeLine := by rw [List.size_toArray, ← hl]; exact hz
  have hcap : ¬ its.toArray.size * k.toNat > (2 ^ 63 - 1) / 8 := by
    have : (sizeLine : Nat) ≤ (2 ^ 63 - 1) / 8 := by decide
    omega
  have hfit : ¬ (!Builtin.List.listFitsIndex k) = true := by
    rw [fitsIndex_both h1 h2]
    exact Bool.false_ne_true
  have hlong : ¬ Builtin.List.listTooLong (its.toArray.size * k.toNat) = true := by
    rw [notLongL hlen]
    exact Bool.false_ne_true
  have hnew : List.foldl (fun x1 x2 => x1 ++ x2) #[] (List.replicate (if its.toArray.isEmpty = true then 0 else k.toNat) its.toArray) = (List.replicate k.toNat its).flatten.toArray := by
    have f0 : ∀ m : Nat, List.foldl (fun x1 x2 => x1 ++ x2) #[] (List.replicate m its.toArray) = (List.replicate m its).flatten.toArray := fun m => by
      have := foldl_rep its m []
      rw [List.nil_append] at this
      exact this
    rw [f0]
    cases its with
    | nil => simp
    | cons a r' => rw [if_neg (by simp)]
  refine wpAny_binaryOp_repeat_ref (T := "list") (U := "int") (by decide) ⟨_, e, rfl⟩ (fun s' => typeIs_int s' k t) noFill_list_mul F.fills_int_mul F.slot_int_rmul repeat_list F.slot_int_index.lookup
    (call_meets F.slot_int_rmul (typeIs_int s k t) F.entry_int_rmul (F.args_int_rmul_2 _ _) (int___rmul___int_list k t l its.toArray n)
      ⟨e, rfl, ⟨_, e, rfl⟩, call_meets F.slot_list_mul ⟨_, e, rfl⟩ F.entry_list_mul (F.args_list_mul_2 _ _) (AutoListH.list___mul___list_int_3 l its.toArray n k t hfit hcap hlong) ⟨e, ?_⟩⟩)
  rw [hnew]
  exact ⟨.ref _, _, I.lnew (t' := s.toks) (r.rep k.toNat) (by rw [len_rep, Nat.mul_comm]; exact hz), rfl, q _ I.fresh⟩

/-! ### del xs[i] -/
theorem del_list {pins : List (Addr × Obj)} {s : Shared} {σ : St} {H : Hp} {l : Addr} {xs : List V} {i : Int} {t : Tok} {k : Nat} {Q : Unit → Shared → Prop} (I : Inv X pins σ H s) (hH : H l = some (.lst xs))
    (h1 : -(2 ^ 63) ≤ i) (h2 : i < 2 ^ 63) (hk : seqIndex? i xs.length = some k) (h : ∀ s', Inv X pins σ (upd H l (.lst (xs.eraseIdx k))) s' → Q () s') :
    wpAny (model X.prog X.w) X.A (delItem (.ref l) (.int i t)) Q X.xe s := by
  obtain ⟨z, its, n, r, hl, e⟩ := I.lstM hH
  refine PySem.P.delItem_list (k := k) e (fitsIndex_both h1 h2) (by rw [List.size_toArray, ← hl]; exact hk) (h _ ?_) (by rw [List.size_toArray]; omega)
  refine I.lset (its' := its.eraseIdx k) (t' := s.toks) hH e ?_ (r.eraseIdx k) ?_
  · show its.toArray.eraseIdxIfInBounds k = (its.eraseIdx k).toArray
    rw [List.eraseIdxIfInBounds_toArray]
  · have := len_erase xs k
    omega
end

/-! ### xs[a:b] = ys -/
section
variable {prog : Program} {w : World} {A : Around} {E : Value → Shared → Prop} {s : Shared}
theorem splice_eq (its its2 : List Value) (a c : Nat) : its.toArray.extract 0 a ++ its2.toArray ++ its.toArray.extract c its.toArray.size = (its.take a ++ its2 ++ its.drop c).toArray := by
  apply Array.toList_inj.mp
  first
    | (simp
       exact List.take_of_length_le (by simp))
    | simp [List.take_of_length_le]
    | simp
theorem bounds_run {a c n : Nat} (hac : a ≤ c) (hc : c ≤ n) : sliceBounds (some (a : Int)) (some (c : Int)) none n = ((a : Int), (c : Int), 1) := by
  simp only [sliceBounds, Option.getD_none]
  have h1 : ¬ ((a : Int) < 0) := by omega
  have h2 : ¬ ((c : Int) < 0) := by omega
  simp only [h1, h2, if_false, show (1 : Int) > 0 by decide, if_true]
  congr 1
  · omega
  · congr 1; omega
set_option maxRecDepth 100000 in
/-- list.__setitem__ with a slice of step one and another list -/
theorem setItem_slice {l b sl : Addr} {items new : Array Value} {n n2 : Nat} {vl vu : Value} {a c : Nat} {Q : Unit → Shared → Prop}
    (e : s.heap.get? l = some { cls := .type "list", data := .seq items n }) (e2 : s.heap.get? b = some { cls := .type "list", data := .seq new n2 }) (hne : l ≠ b)
    (hs : s.heap.IsSliceOf sl vl vu .none) (pl : IsPart vl (some (a : Int))) (pu : IsPart vu (some (c : Int))) (hac : a ≤ c) (hc : c ≤ items.size)
    (hsz : items.size + new.size ≤ sizeLine) (h : Q () { s with heap := s.heap.update l (Obj.mapSeq fun xs => xs.extract 0 a ++ new ++ xs.extract c xs.size) }) :
    wpAny (model prog w) A (setItem (.ref l) (.ref sl) (.ref b)) Q E s := by
  have hl : s.heap.IsList l items := PySem.IsL.isList e
  have hb : s.heap.IsList b new := PySem.IsL.isList e2
  obtain ⟨os, hos, hcs, hds⟩ := id hs
  have hTs : s.TypeIs (.ref sl) "slice" := ⟨os, hos, hcs⟩
  have hstep : ¬ ((rawPart none == rawInt 0) = true) := Bool.false_ne_true
  have hsame : Builtin.List.listSameRef (.ref l) (.ref b) = false := by
    unfold Builtin.List.listSameRef
    exact beq_eq_false_iff_ne.mpr hne
  have hmax : (max (a : Int) (c : Int)).toNat = c := by omega
  have hz' : ((fun xs : Array Value => xs.extract 0 a ++ new ++ xs.extract c xs.size) items).size ≤ sizeLine + 1 := by
    simp only [Array.size_append, Array.size_extract]
    omega
  unfold setItem
  try with_reducible refine wpAny_holding ?_
  first | refine wpAny_bind (wpAny_pure ?_) | skip
  refine wpAny_bind (wpAny_sequenceKey hl.typeIs (by decide) ?_)
  refine wpAny_bind (wpAny_callSpecial?_slot (name := Str.ofString "__setitem__") hl.typeIs slot_list_setitem
    (wpAny_call_entry slot_list_setitem hl.typeIs entry_list_setitem ?_ (args_list_setitem _ _ _)))
  show wpAny _ _ (Builtin.List.listSubscript? (.ref sl) >>= _) _ _ s
  refine wpAny_bind ?_
  unfold Builtin.List.listSubscript?
  refine wpAny_bind (wpAny_specialOf hTs slice_no_index ?_)
  simp only [Option.isNone_none, if_true]
  refine wpAny_pure ?_
  show wpAny _ _ (typeOf (.ref sl) >>= _) _ _ s
  refine wpAny_bind (wpAny_typeOf hTs ?_)
  first
    | rw [if_neg (by decide)]
    | refine PySem.W.KFB.if_not (by decide) ?_
  rw [listSliceParts_eq]
  refine wpAny_bind (wpAny_bind (wpAny_field hos hds (x := .none) rfl (wpAny_bind (wpAny_listPart .none ?_))))
  rw [if_neg hstep]
  refine wpAny_bind (wpAny_field hos hds (x := vl) rfl (wpAny_bind (wpAny_listPart pl ?_)))
  refine wpAny_bind (wpAny_field hos hds (x := vu) rfl (wpAny_bind (wpAny_listPart pu (wpAny_pure ?_))))
  first
    | simp only [hsame, Bool.false_eq_true, if_false]
    | refine PySem.W.KFB.if_not hsame ?_
    | (dsimp only
       rw [if_neg (by rw [hsame]; exact Bool.false_ne_true)])
  refine wpAny_bind (m := Builtin.List.listAllItems (.ref b) "must assign iterable to extended slice") ?_
  unfold Builtin.List.listAllItems
  refine wpAny_bind (wpAny_typeOf hb.typeIs ?_)
  first
    | refine PySem.W.KFB.if_so (by decide) ?_
    | rw [if_pos (by decide)]
    | simp only [beq_self_eq_true, Bool.true_or, if_true]
  unfold Builtin.List.listItems
  refine wpAny_bind (wpAny_seqItems e2 rfl (wpAny_pure ?_))
  refine wpAny_bind (wpAny_bind (wpAny_seqItems e rfl (wpAny_pure ?_)))
  refine wpAny_bind (wpAny_of_eq ((sliceIndices_raw (some (a : Int)) (some (c : Int)) none items.size (by simp)).trans (congrArg (pure : Int × Int × Int → Sem (Int × Int × Int)) (bounds_run hac hc))) ?_)
  show wpAny _ _ (if ((1 : Int) == 1) = true then _ else _) _ _ s
  rw [if_pos (by decide)]
  refine wpAny_bind (wpAny_rule ?_)
  first
    | simp only [notLongL hsz, Bool.false_eq_true, if_false]
    | refine PySem.W.KFB.if_not (notLongL hsz) ?_
  first | refine wpAny_bind (wpAny_pure ?_) | skip
  show wpAny _ _ (updateSeq l (fun xs => xs.extract 0 ((a : Int)).toNat ++ new ++ xs.extract (max (a : Int) (c : Int)).toNat xs.size) >>= _) _ _ s
  rw [hmax, Int.toNat_natCast]
  refine wpAny_bind (wpAny_updateSeq (hz := Nat.le_trans (Nat.le_add_right _ _) hsz) (_hz' := hz') e rfl ?_)
  refine wpAny_bind (wpAny_letGo ?_)
  first
    | exact wpAny_bind (wpAny_pure (wpAny_pure ⟨.none, rfl, wpAny_pure h⟩))
    | exact wpAny_pure ⟨.none, rfl, wpAny_pure h⟩
end

section
variable {X : Cx}
/-- xs[a:c] = ys of another list, at the value level: sl is the slice object that was just made -/
theorem set_slice {pins : List (Addr × Obj)} {s : Shared} {σ : St} {H : Hp} {l b sl : Addr} {xs ys : List V} {a c : Int} {vl vu : Value} {Q : Unit → Shared → Prop} (I : Inv X pins σ H s)
    (hH : H l = some (.lst xs)) (hB : H b = some (.lst ys)) (hne : l ≠ b) (hs : s.heap.IsSliceOf sl vl vu .none) (ra : RelV (.int a) vl) (rc : RelV (.int c) vu) (h0 : 0 ≤ a) (hac : a ≤ c) (hc : c ≤ xs.length)
    (hz : xs.length + ys.length ≤ sizeLine) (h : ∀ s', Inv X pins σ (upd H l (.lst (xs.take a.toNat ++ ys ++ xs.drop c.toNat))) s' → Q () s') :
    wpAny (model X.prog X.w) X.A (setItem (.ref l) (.ref sl) (.ref b)) Q X.xe s := by
  obtain ⟨ta, rfl⟩ := ra
  obtain ⟨tc, rfl⟩ := rc
  obtain ⟨z, its, n, r, hl, e⟩ := I.lstM hH
  obtain ⟨z2, its2, n2, r2, hl2, e2⟩ := I.lstM hB
  obtain ⟨a', rfl⟩ := Int.eq_ofNat_of_zero_le h0
  obtain ⟨c', rfl⟩ := Int.eq_ofNat_of_zero_le (Int.le_trans h0 hac)
  simp only [Int.toNat_natCast] at h
  refine setItem_slice (a := a') (c := c') e e2 hne hs (.int _ _) (.int _ _) (by omega) (by rw [List.size_toArray]; omega) (by rw [List.size_toArray, List.size_toArray]; omega) (h _ ?_)
  refine I.lset (its' := its.take a' ++ its2 ++ its.drop c') (t' := s.toks) hH e ?_ (Vals.append (Vals.append (r.take _) r2) (r.drop _)) ?_
  · exact splice_eq its its2 a' c'
  · rw [List.length_append, List.length_append, List.length_take, List.length_drop]
    omega
end
end L2

namespace Att
open PySem PySem.W PySem.Calls PyProof.Rows

/-! ### the script -/
theorem ints_of_wellAll {P : Params} {h : Heap} : ∀ (ns : List Int) (vs : List Value), WellAll P h vs (ns.map WData.int) → IntsAre vs ns := by
  intro ns
  induction ns with
  | nil =>
    intro vs w
    rw [List.map_nil] at w
    cases w
    exact .nil
  | cons n ns ih =>
    intro vs w
    rw [List.map_cons] at w
    cases w with
    | cons a b =>
      cases a
      exact .cons _ _ (ih _ b)

theorem script_of {l : OpenLaw} {n : Nat} (hn : l.most = some n) {P : Params} {h : Heap} {args : List WData} {vals : List Value}
    (hpre : l.row.toRowW.claim.pre args = true) (hwl : WellAll P h vals args) :
    ∃ a vs ns, vals = [Value.ref a] ∧ args = [WData.list (ns.map WData.int)] ∧ h.get? a = some { cls := .type "list", data := .seq vs.toArray } ∧ IntsAre vs ns ∧ ns.length ≤ n := by
  have hsh : WShape.hasAll [] args [.list .int] = true := (pre_splitW hpre).1
  have hc : l.pre.holds [] { args := args } = true := (pre_splitW hpre).2
  obtain ⟨d, r, rfl, h1, h2⟩ := hasAllW_cons hsh
  obtain rfl := hasAllW_nil h2
  obtain ⟨xs, rfl, h3⟩ := hasW_list h1
  obtain ⟨ns, rfl⟩ := items_int h3
  have hlen : ns.length ≤ n := by
    unfold OpenLaw.pre at hc
    have h4 : (WTm.not (.lt (.lit (.int (n : Int))) (.len (.arg 0)))).holds [] { args := [.list (ns.map .int)] } = true := by
      have h4 := (holds_andW hc).1
      rw [hn] at h4
      exact h4
    have h5 := condW_of h4 (w_not (w_lt w_lit (w_len_list (w_arg rfl))))
    rw [List.length_map] at h5
    refine Nat.le_of_not_lt fun q => ?_
    have q' : (n : Int) < ((ns.length : Nat) : Int) := by omega
    first
      | (rw [decide_eq_true q'] at h5; exact absurd h5 (by decide))
      | (simp at h5; omega)
  cases hwl with
  | cons w1 w2 =>
    cases w2
    cases w1 with
    | list ho hall => exact ⟨_, _, ns, rfl, rfl, ho, ints_of_wellAll ns _ hall, hlen⟩

theorem post_true (l : OpenLaw) (args : List WData) : l.row.toRowW.claim.post args (.bool true) args = true :=
  postW_of (r := l.row.toRowW) (X := (true == true))
    (show WShape.has [] (.bool true) .bool = true by first | rfl | decide | simp [WShape.has, WShape.arms, WShape.armsAll])
    (show (WTm.eq .res (.lit (.bool true))).value [] { args := args, res := some (.bool true), after := args } = some (.bool (true == true)) from w_eq_bool (w_res rfl) w_lit) rfl

/-! ### the attachment: holds_open's last premise (the goal 'hc' behind k_head) from a wpAny of the law's body -/
theorem attach {l : OpenLaw} {n : Nat} {q : Program} {loose : List Str} {XP : (Str → Option Value) → Heap → Prop} {YP : World → Heap → Prop} {d : DefRec} {x : Str}
    (hn : l.most = some n) (hdf : d.params.defaults = [])
    (hbind : ∀ pm cd doc v : Value, bindArgs (docDef d.name d.params d.body d.scope pm cd doc) ⟨[v], []⟩ = pure [(x, v)])
    (hx : d.scope.names.lookup x = some .local ∨ d.scope.names.lookup x = some .cell)
    (hk : d.scope.kind = .function) (hco : d.scope.isCoroutine = false) (hgen : d.scope.isGenerator = false)
    (body : ∀ (w : World) (s₀ s₁ s : Shared) (mg mb : Str → Option Value) (fa : Addr) (o : Obj) (pm cd doc : Value) (a : Addr) (vs : List Value) (ns : List Int),
      Ground q loose [] XP w s₀ mg mb s₁.heap → YP w s₁.heap →
      s₁.heap.get? fa = some o → o.data = .func (docDef d.name d.params d.body d.scope pm cd doc) → s₁.heap.CodeRec cd d.name → mg d.name = some (.ref fa) →
      s₁.heap.get? a = some { cls := .type "list", data := .seq vs.toArray } → IntsAre vs ns → ns.length ≤ n →
      s.gens = #[] → s.os = s₁.os →
      Fr s₁.heap s₁.heap.objs.size s.heap (bindL (envOfC d.name d.scope s₁.heap.objs.size fa cd).kindOf [(x, .ref a)] fun _ => none) →
      Cl s₁.heap.objs.size (cellsFrom (s₁.heap.objs.size + 1) d.scope.names []) s.heap (bindC (envOfC d.name d.scope s₁.heap.objs.size fa cd).kindOf [(x, .ref a)] fun _ => none) →
      wpAny (model l.prog w) (callerA.deeper (envOfC d.name d.scope s₁.heap.objs.size fa cd)) (execs d.body (envOfC d.name d.scope s₁.heap.objs.size fa cd))
        (fun f s' => f = .ret (.bool true) ∧ OldK s₁.heap s'.heap ∧ s'.os = s₁.os ∧ AllBare s'.gens) (fun _ _ => False) s) :
    WalkO q loose XP YP l.row.toRowW d [] (fun f vs => PySem.call f vs) := by
  intro w s₀ s₁ mg mb G Y fa o pm cd doc dV kV ho hd hcd hD hmg hg args vals as hpre hlay hrd hwl hlo
  obtain rfl : dV = .none := Dflts.none hD hdf
  obtain rfl : kV = .none := Dflts.noKw hD
  obtain ⟨a, vs, ns, rfl, rfl, hobj, hints, hlen⟩ := script_of hn hpre hwl
  refine enter_call ?_
  refine call_cells_ret (o := o) (by rw [depth_caller]; decide) ho (fd_plain hd) G.T.nolimit hcd (hbind pm cd doc (.ref a)) (fun y hy => ?_) (fun h₁ tk F X => ?_) hco hgen hk
  · obtain rfl : y = (x, Value.ref a) := List.mem_singleton.mp hy
    rcases hx with e | e
    · exact .inl e
    · exact .inr ⟨e, cellsFrom_some _ _ _ (.inl e)⟩
  · refine wpAny_mono (body w s₀ s₁ { s₁ with heap := h₁, toks := tk } mg mb fa o pm cd doc a vs ns G Y ho (fd_plain hd) hcd hmg hobj hints hlen hg rfl F X) (fun f s' hq => ?_) (fun _ _ hq => hq)
    obtain ⟨rfl, h2, h3, h4⟩ := hq
    exact ⟨.inl ⟨.bool true, .bool true, [], rfl, fun _ => rfl, .bool true, post_true l _, fun _ => ⟨List.Pairwise.nil, fun _ hm => (nomatch hm)⟩⟩, h2, h3, h4⟩

/-- the same from a codeAny of the CALL (for a layer whose function contracts speak of calls) -/
theorem attach_call {l : OpenLaw} {n : Nat} {q : Program} {loose : List Str} {XP : (Str → Option Value) → Heap → Prop} {YP : World → Heap → Prop} {d : DefRec}
    (hn : l.most = some n) (hdf : d.params.defaults = [])
    (call : ∀ (w : World) (s₀ s₁ : Shared) (mg mb : Str → Option Value) (fa : Addr) (o : Obj) (pm cd doc : Value) (a : Addr) (vs : List Value) (ns : List Int),
      Ground q loose [] XP w s₀ mg mb s₁.heap → YP w s₁.heap →
      s₁.heap.get? fa = some o → o.data = .func (docDef d.name d.params d.body d.scope pm cd doc) → s₁.heap.CodeRec cd d.name → mg d.name = some (.ref fa) →
      s₁.heap.get? a = some { cls := .type "list", data := .seq vs.toArray } → IntsAre vs ns → ns.length ≤ n → s₁.gens = #[] →
      codeAny (model l.prog w) callerA (.call (.ref fa) ⟨[.ref a], []⟩) (fun r s' => r = .ok (.ret (.bool true)) ∧ OldK s₁.heap s'.heap ∧ s'.os = s₁.os ∧ AllBare s'.gens) s₁) :
    WalkO q loose XP YP l.row.toRowW d [] (fun f vs => PySem.call f vs) := by
  intro w s₀ s₁ mg mb G Y fa o pm cd doc dV kV ho hd hcd hD hmg hg args vals as hpre hlay hrd hwl hlo
  obtain rfl : dV = .none := Dflts.none hD hdf
  obtain rfl : kV = .none := Dflts.noKw hD
  obtain ⟨a, vs, ns, rfl, rfl, hobj, hints, hlen⟩ := script_of hn hpre hwl
  refine enter_call (codeAny_mono (call w s₀ s₁ mg mb fa o pm cd doc a vs ns G Y ho (fd_plain hd) hcd hmg hobj hints hlen hg) fun r s' hq => ?_)
  obtain ⟨rfl, h2, h3, h4⟩ := hq
  exact ⟨.inl ⟨.bool true, .bool true, [], rfl, fun _ => rfl, .bool true, post_true l _, fun _ => ⟨List.Pairwise.nil, fun _ hm => (nomatch hm)⟩⟩, h2, h3, h4⟩

/-- the same where the top left finished generators (o_head chose holds_openN): nothing may have changed at all and no generator may be left -/
theorem attachN {l : OpenLaw} {n : Nat} {q : Program} {loose : List Str} {XP : (Str → Option Value) → Heap → Prop} {YP : World → Heap → Prop} {d : DefRec} {x : Str}
    (hn : l.most = some n) (hdf : d.params.defaults = [])
    (hbind : ∀ pm cd doc v : Value, bindArgs (docDef d.name d.params d.body d.scope pm cd doc) ⟨[v], []⟩ = pure [(x, v)])
    (hx : d.scope.names.lookup x = some .local ∨ d.scope.names.lookup x = some .cell)
    (hk : d.scope.kind = .function) (hco : d.scope.isCoroutine = false) (hgen : d.scope.isGenerator = false)
    (body : ∀ (w : World) (s₀ s₁ s : Shared) (mg mb : Str → Option Value) (fa : Addr) (o : Obj) (pm cd doc : Value) (a : Addr) (vs : List Value) (ns : List Int),
      Ground q loose [] XP w s₀ mg mb s₁.heap → YP w s₁.heap →
      s₁.heap.get? fa = some o → o.data = .func (docDef d.name d.params d.body d.scope pm cd doc) → s₁.heap.CodeRec cd d.name → mg d.name = some (.ref fa) →
      s₁.heap.get? a = some { cls := .type "list", data := .seq vs.toArray } → IntsAre vs ns → ns.length ≤ n →
      s.gens = #[] → s.os = s₁.os →
      Fr s₁.heap s₁.heap.objs.size s.heap (bindL (envOfC d.name d.scope s₁.heap.objs.size fa cd).kindOf [(x, .ref a)] fun _ => none) →
      Cl s₁.heap.objs.size (cellsFrom (s₁.heap.objs.size + 1) d.scope.names []) s.heap (bindC (envOfC d.name d.scope s₁.heap.objs.size fa cd).kindOf [(x, .ref a)] fun _ => none) →
      wpAny (model l.prog w) (callerA.deeper (envOfC d.name d.scope s₁.heap.objs.size fa cd)) (execs d.body (envOfC d.name d.scope s₁.heap.objs.size fa cd))
        (fun f s' => f = .ret (.bool true) ∧ (∀ b o, s₁.heap.get? b = some o → s'.heap.get? b = some o) ∧ s'.os = s₁.os ∧ s'.gens = #[]) (fun _ _ => False) s) :
    WalkN q loose XP YP l.row.toRowW d [] (fun f vs => PySem.call f vs) := by
  intro w s₀ s₁ mg mb G Y fa o pm cd doc dV kV ho hd hcd hD hmg hg args vals as hpre hlay hrd hwl hlo
  obtain rfl : dV = .none := Dflts.none hD hdf
  obtain rfl : kV = .none := Dflts.noKw hD
  obtain ⟨a, vs, ns, rfl, rfl, hobj, hints, hlen⟩ := script_of hn hpre hwl
  refine enter_callW ?_
  refine call_cells_ret (o := o) (by rw [depth_caller]; decide) ho (fd_plain hd) G.T.nolimit hcd (hbind pm cd doc (.ref a)) (fun y hy => ?_) (fun h₁ tk F X => ?_) hco hgen hk
  · obtain rfl : y = (x, Value.ref a) := List.mem_singleton.mp hy
    rcases hx with e | e
    · exact .inl e
    · exact .inr ⟨e, cellsFrom_some _ _ _ (.inl e)⟩
  · refine wpAny_mono (body w s₀ s₁ { s₁ with heap := h₁, toks := tk } mg mb fa o pm cd doc a vs ns G Y ho (fd_plain hd) hcd hmg hobj hints hlen hg rfl F X) (fun f s' hq => ?_) (fun _ _ hq => hq)
    obtain ⟨rfl, h2, h3, h4⟩ := hq
    exact ⟨.inl ⟨.bool true, .bool true, [], rfl, fun _ => rfl, .bool true, post_true l _, fun _ => ⟨List.Pairwise.nil, fun _ hm => (nomatch hm)⟩⟩, h2, h3, h4⟩

/-! ### rules over ANY heap (no ledger) from facts about the written part K: the library's own take a ledger (News) for what they write -/
section
variable {prog : Program} {w : World} {A : Around} {E : Value → Shared → Prop} {s : Shared} {K : Frag}

/-- a def of the module, or a method (qual 'C.m'), entered: the frame is the next address; cells behind it -/
theorem call_fn {R : Result → Shared → Prop} {name qual : Str} {params : Arguments} {body : List Stmt} {scope : Scope} {dV kV doc pm cdv ct oc : Value} {an od : Option Addr} {osl : Array (Option Value)} {f : Addr} {args : Args} {binds : List (Str × Value)}
    (X : K.In s.heap) (hlim : s.heap.NoLimit) (ho : K.lookup f = some ⟨oc, od, .func (fnOf name qual params body scope dV kV doc pm an cdv ct), osl⟩) (hcd : codeIn K cdv qual = true) (hroom : A.depth < recursionLimit)
    (hbind : BindsTo s (fnOf name qual params body scope dV kV doc pm an cdv ct) args binds)
    (hkind : (binds.all fun y => scope.names.lookup y.1 == some .local || scope.names.lookup y.1 == some .cell) = true)
    (h : ∀ s₁, InCallC s s.heap.objs.size (bindL (envOfC qual scope s.heap.objs.size f cdv).kindOf binds fun _ => none) (cellsFrom (s.heap.objs.size + 1) scope.names [])
        (bindC (envOfC qual scope s.heap.objs.size f cdv).kindOf binds fun _ => none) s₁ →
      wpAny (model prog w) (A.deeper (envOfC qual scope s.heap.objs.size f cdv)) (execs body (envOfC qual scope s.heap.objs.size f cdv))
        (fun fl s' => R (.ok (.ret (match fl with | .ret v => v | _ => .none))) s')
        (fun e s' => wpAny (model prog w) (A.deeper (envOfC qual scope s.heap.objs.size f cdv)) (leaving (envOfC qual scope s.heap.objs.size f cdv) e) (fun _ s'' => R (.error e) s'') (fun e' s'' => R (.error e') s'') s') s₁)
    (hco : scope.isCoroutine = false) (hgen : scope.isGenerator = false) (hk : scope.kind = .function) : codeAny (model prog w) A (.call (.ref f) args) R s := by
  refine codeAny_call_function hroom (X _ _ ho) rfl hco hgen rfl (codeRec_of X hcd) (hbind _ _ _ _ ?_)
  refine wpAny_newFunctionEnv_cells hk (kindsX hkind _) fun env he s₁ x => ?_
  subst he
  exact ⟨hlim.keeps x.toInCall.keep, codeAny_func (h s₁ x)⟩

/-- C(..): dict at size, instance at size + 1, then __init__ -/
theorem make_obj {R : Result → Shared → Prop} {C fI : Addr} {rest : List Value} {kw : List (Str × Value)}
    (X : K.In s.heap) (hm : makesIn K C = true) (hi : findIn K (.ref C) "__init__" = some (some (.ref fI))) (hf : isFn K (.ref fI) = true)
    (h : codeAny (model prog w) (A.under (.builtin "type.__call__" ⟨.ref C :: rest, kw⟩)) (.call (.ref fI) ⟨.ref (s.heap.objs.size + 1) :: rest, kw⟩) (InitBack (s.heap.objs.size + 1) R)
      { s with heap := (s.heap.push emptyDict).push (instObj C s.heap.objs.size) }) : codeAny (model prog w) A (.call (.ref C) ⟨rest, kw⟩) R s := by
  obtain ⟨hh, g, d, t, os⟩ := s
  exact make_core (makes_of X hm) (looks_findIn X hi) (fun self => bind_fn X self (beq_iff_eq.mp hf)) (.inl rfl) h

/-- x.name where the instance's dict holds the name and the class does not -/
theorem get_field {x C : Addr} {ox : Obj} {es : List DictEntry} {n : Nat} {name : Str} {expr : Bool} {v : Value} {Q : Value → Shared → Prop}
    (X : K.In s.heap) (I : PySem.W.InstAt s.heap x ox C (some (dictOf es n))) (hg : plainGet K C name = true) (hh : hasDictIn K C = true) (ha : findIn K (.ref C) name = some none)
    (hl : getL name es = some (some v)) (hv : handedIn v = true) (h : Q v { s with toks := s.toks + 1 }) : wpAny (model prog w) A (getAttr (.ref x) name expr) Q E s :=
  get_value X I (plainGet_of hg).1 (findObj_own hh ha rfl hl) hv h

/-- x.m(..): the method found in the class -/
theorem get_method {x C f : Addr} {ox : Obj} {es : List DictEntry} {n : Nat} {name : Str} {pl : Sem Bool} {Q : Value × List Value → Shared → Prop}
    (X : K.In s.heap) (I : PySem.W.InstAt s.heap x ox C (some (dictOf es n))) (hg : plainGet K C name = true) (hf : findIn K (.ref C) name = some (some (.ref f))) (ht : isFn K (.ref f) = true)
    (hl : getL name es = some none) (h : Q (.ref f, [.ref x]) s) : wpAny (model prog w) A (getMethod (.ref x) name pl) Q E s :=
  method_fn X I (plainGet_of hg).1 (plainGet_of hg).2 hf (beq_iff_eq.mp ht) (by show (lookIn name (dictOf es n)).map _ = _; rw [lookIn_dict, hl]; rfl) h

/-! the whole heap as the ledger: makes every rule that writes through a ledger a rule over any heap -/
def noObjs (h : Heap) : Heap := { h with objs := #[] }
theorem noObjs_get (h : Heap) (b : Addr) : (noObjs h).get? b = none := by
  cases e : (noObjs h).get? b with
  | none => rfl
  | some o => exact absurd (Heap.lt_size e) (Nat.not_lt_zero _)
def ledger (h : Heap) (L d : Addr) : List (Addr × Obj) := (List.range h.objs.size).filterMap fun a => if a = L ∨ a = d then none else (h.get? a).map fun o => (a, o)
theorem mem_ledger {h : Heap} {L d a : Addr} {o : Obj} : (a, o) ∈ ledger h L d ↔ a ≠ L ∧ a ≠ d ∧ h.get? a = some o := by
  unfold ledger
  rw [List.mem_filterMap]
  constructor
  · rintro ⟨b, _, e⟩
    split at e
    · cases e
    · rename_i hb
      obtain ⟨o', ho, e'⟩ := Option.map_eq_some_iff.mp e
      cases e'
      exact ⟨fun q => hb (.inl q), fun q => hb (.inr q), ho⟩
  · rintro ⟨n1, n2, ho⟩
    refine ⟨a, List.mem_range.mpr (Heap.lt_size ho), ?_⟩
    rw [if_neg (show ¬ (a = L ∨ a = d) from fun q => q.elim n1 n2), ho] <;> rfl
theorem news_ledger {h : Heap} {L d : Addr} {od : Obj} (hne : d ≠ L) (ho : h.get? d = some od) : News (noObjs h) L h ([] ++ (d, od) :: ledger h L d) := by
  rintro ⟨a, o⟩ hp
  rcases List.mem_cons.mp hp with e | hp
  · cases e
    exact ⟨ho, hne, noObjs_get _ _⟩
  · obtain ⟨n1, n2, e⟩ := mem_ledger.mp hp
    exact ⟨e, n1, noObjs_get _ _⟩
theorem fr_all {h : Heap} {L : Addr} {m : Str → Option Value} (n : h.Ns L m) : Fr (noObjs h) L h m :=
  ⟨n, fun b o e => (by rw [noObjs_get] at e; cases e), Nat.zero_le _⟩
/-- Upd of the head entry (for append_K, setItem_K ..) -/
theorem upd_ledger {h : Heap} {L d : Addr} {o o' : Obj} : Upd d o o' ((d, o) :: ledger h L d) ((d, o') :: ledger h L d) :=
  .head fun ⟨_, _⟩ hp => (mem_ledger.mp hp).2.1

/-- x.name = v over any heap: L is any namespace of the heap (the frame's, say): its map stays, its object is not told; all else but the dict stays -/
theorem set_field {x C dx L : Addr} {ox : Obj} {m : Str → Option Value} {es es' : List DictEntry} {n n' : Nat} {name : Str} {v : Value} {Q : Unit → Shared → Prop}
    (X : K.In s.heap) (I : PySem.W.InstAt s.heap x ox C (some (dictOf es n))) (hd : ox.dict = some dx) (hL : s.heap.Ns L m) (hne : dx ≠ L)
    (hs : findIn K (.ref C) "__setattr__" = some (some (.builtin "object.__setattr__"))) (hp : plainOver K C = true) (ht : takerIn K C name = some none) (hh : hasDictIn K C = true) (hl : (getL name es).isSome = true)
    (e : (putL name (PyData.keyHash w.params name) (.str name (s.toks + 1)) v es, putN name es n) = (es', n')) (hz : es'.length ≤ 1000)
    (h : ∀ h' : Heap, h'.Ns L m → h'.get? dx = some (dictOf es' n') → (∀ b o, b ≠ dx → b ≠ L → s.heap.get? b = some o → h'.get? b = some o) → Q () { s with heap := h', toks := s.toks + 2 }) :
    wpAny (model prog w) A (setAttr (.ref x) name v) Q E s := by
  obtain ⟨e1, e2⟩ := Prod.mk.inj e
  have hdx : s.heap.get? dx = some (dictOf es n) := by
    have := I.dict
    rw [hd] at this
    exact this
  refine set_plain X I hs (osa_dict (s := { s with toks := s.toks + 1 }) (h₀ := noObjs s.heap) (L := L) (m := m) (od := dictOf es n) (od' := dictOf es' n') (es := es') (n := n') (pre := []) (post := ledger s.heap L dx)
    (fr_all hL) (news_ledger hne hdx) X I hd hp ht hh hl (fun _ q => nomatch q) (fun ⟨_, _⟩ q => (mem_ledger.mp q).2.1) (by rw [putName_dict, e1, e2]) rfl hz fun h' F' N' => ?_)
  exact h h' F'.ns (N'.get (List.Mem.head _)) fun b o n1 n2 ho => N'.get (List.Mem.tail _ (mem_ledger.mpr ⟨n2, n1, ho⟩))
end
end Att

namespace L2
open PySem PySem.Spec PyProof.Rows

theorem vals_ints : ∀ {vs : List Value} {ns : List Int}, IntsAre vs ns → Vals (ns.map V.int) vs
  | _, _, .nil => .nil
  | _, _, .cons n t h => .cons ⟨t, rfl⟩ (vals_ints h)

/-- nothing is tracked but the script, known to the object (or it is an object of the module) -/
def Only (H : Hp) : Prop := ∀ b, H b = none ∨ ∃ o xs, H b = some (.frz o (.lst xs))

/-- THE HEAD: the law's promise, at the heap behind the top. F, the promise of the law's def, may use that base is part of the heap (so K.In base, base.Ns mainGlobals mg stand in Mod) -/
theorem law_call {P : Program} {w : World} {K : PySem.W.Frag} {mg mb : Str → Option Value} {CX : CXT} {k : Nat} {fa a : Addr} {fd : FuncData} {x : Str} {sp : Sp} {s₁ : Shared} {vs : List Value} {ns : List Int}
    (KX : K.In s₁.heap) (hns : s₁.heap.Ns mainGlobals mg) (hb : s₁.heap.Ns builtinsNs mb) (hbb : ∀ x : Str, x ≠ "__name__" → mb x = bootBuiltins x) (hlim : s₁.heap.NoLimit) (hg : s₁.gens = #[])
    (ha : s₁.heap.get? a = some { cls := .type "list", data := .seq vs.toArray }) (hi : IntsAre vs ns) (hl : ns.length ≤ sizeLine) (hr : Room k callerA)
    (F : ∀ base : Heap, K.In base → base.Ns mainGlobals mg → FnOk P w K mg base CX k fa fd [x] sp) (hbind : ∀ (s : Shared) (u : Value), BindsTo s fd ⟨[u], []⟩ [(x, u)])
    (hsp : ∀ H : Hp, Only H → SqL K H a (ns.map V.int) → sp [.ref a] H (fun v _ => v = .bl true) fun _ _ _ => False)
    (hCX : ∀ H e s', CX [] H s₁ (fun _ _ _ => False) e s' → False) :
    codeAny (model P w) callerA (.call (.ref fa) ⟨[.ref a], []⟩) (fun r s' => r = .ok (.ret (.bool true)) ∧ OldK s₁.heap s'.heap ∧ s'.os = s₁.os ∧ AllBare s'.gens) s₁ := by
  have rv := vals_ints hi
  have lenV := hi.length
  -- from an abstract heap in which nothing but the script may be tracked
  have core : ∀ H : Hp, Only H → SqL K H a (ns.map V.int) → HOk P w H s₁.heap → (∀ b, H b ≠ none → b = a) → (H a ≠ none → K.lookup a = none) →
      codeAny (model P w) callerA (.call (.ref fa) ⟨[.ref a], []⟩) (fun r s' => r = .ok (.ret (.bool true)) ∧ OldK s₁.heap s'.heap ∧ s'.os = s₁.os ∧ AllBare s'.gens) s₁ := by
    intro H hO hS hok hA hK
    have base_of : ∀ {b : Addr} {o : Obj}, s₁.heap.get? b = some o → H b = none → (hidT s₁.heap H).get? b = some o := fun e n => hidT_get e n
    have noA : ∀ {b : Addr} {o : Obj} {es : Array DictEntry} {ep : Nat}, s₁.heap.get? b = some o → o.data = .dict es ep → H b = none := fun {b o es ep} e d => by
      cases q : H b with
      | none => rfl
      | some u =>
        have e' : b = a := hA b (by rw [q]; simp)
        subst e'
        rw [ha] at e; cases e
        have d' : Data.seq vs.toArray _ = Data.dict es ep := d
        cases d'
    have nsK : ∀ {b : Addr} {m : Str → Option Value}, s₁.heap.Ns b m → (hidT s₁.heap H).Ns b m := fun {b m} ⟨o, es, ep, e, d, r⟩ => ⟨o, es, ep, base_of e (noA e d), d, r⟩
    have hKb : K.In (hidT s₁.heap H) := fun b o e => base_of (KX b o e) (by
      cases q : H b with
      | none => rfl
      | some u =>
        have e' : b = a := hA b (by rw [q]; simp)
        subst e'
        rw [hK (by rw [q]; simp)] at e; cases e)
    have hM : Mod K mg (hidT s₁.heap H) := ⟨hKb, nsK hns, ⟨mb, nsK hb, hbb⟩, let ⟨mc, h1, h2⟩ := hlim; ⟨mc, nsK h1, h2⟩⟩
    have e0 : Env0 P w K mg (hidT s₁.heap H) callerA [] s₁ H := ⟨rfl, hM, fun b o e => of_hidT e, Nat.le_of_eq (hidT_size _ _), trivial, fun b hb => absurd (show b ∈ ([] : List Addr) from hb) (by simp), hok, .of_eq hg⟩
    refine codeAny_mono ((F _ hKb (nsK hns)).run callerA [] s₁ H ⟨[.ref a], []⟩ [.ref a] [.ref a] _ _ hr e0 (hbind s₁ (.ref a)) (.cons rfl .nil) (hsp H hO hS)) fun r s' h => ?_
    cases r with
    | error e => exact (hCX H e s' h).elim
    | ok fl =>
      cases fl with
      | next => exact False.elim h
      | brk => exact False.elim h
      | cont => exact False.elim h
      | ret u =>
        obtain ⟨v, H', os, bare, un, hok', r', q⟩ := h
        have q' : v = .bl true := q
        subst q'
        obtain rfl : u = Value.bool true := r'
        refine ⟨rfl, OldK.of_keep fun b o e => ?_, os, bare⟩
        cases q : H b with
        | none => exact un.keep b o e q (by intro z; exact absurd (show b ∈ ([] : List Addr) from z) (by simp)) (by simp)
        | some u =>
          rcases hO b with z | ⟨ob, xs, z⟩
          · rw [q] at z; cases z
          · have z2 := un.frzs b ob _ z
            obtain ⟨e1, _⟩ := hok b _ z
            obtain ⟨e2, _⟩ := hok' b _ z2
            rw [e] at e1; cases e1
            exact e2
  cases hk : K.lookup a with
  | some o =>
    -- the script is one of the module's own objects
    have e := KX a o hk
    rw [ha] at e
    cases e
    refine core (fun _ => none) (fun _ => .inl rfl) (.inr ⟨_, vs.toArray, _, hk, rfl, rfl, rfl, by rw [List.size_toArray, lenV]; exact hl, by simpa using rv⟩) (fun b u z => by have z' : (none : Option HO) = some u := z; cases z') (fun b z => absurd rfl z) fun z => absurd rfl z
  | none =>
    refine core (fun b => if b = a then some (.frz { cls := .type "list", data := .seq vs.toArray } (.lst (ns.map V.int))) else none) (fun b => ?_) (.inl (.inr ⟨{ cls := .type "list", data := .seq vs.toArray }, if_pos rfl⟩)) (fun b u z => ?_) (fun b z => ?_) fun _ => hk
    · by_cases hb : b = a
      · exact .inr ⟨_, _, if_pos hb⟩
      · exact .inl (if_neg hb)
    · by_cases hb : b = a
      · have z' := (if_pos hb).symm.trans z
        cases z'
        subst hb
        exact ⟨ha, by rw [List.length_map]; exact hl, vs, _, rv, ha⟩
      · have z' := (if_neg hb).symm.trans z
        cases z'
    · by_cases hb : b = a
      · exact hb
      · exact absurd (if_neg hb) z
end L2

namespace L2
open PySem PySem.Spec PyProof.Rows

abbrev KOf {K : PySem.W.Frag} {h : Heap} (_ : K.In h) : PySem.W.Frag := K

/-- the goal that k_head leaves (case hc), from the law's promise. F gives the function object fd (K's own) once, then the promise over every base -/
theorem walk_of {l : PySem.W.OpenLaw} {n k : Nat} {q : Program} {loose : List Str} {XP : (Str → Option Value) → Heap → Prop} {YP : World → Heap → Prop} {d : DefRec} {K : Params → PySem.W.Frag} {CX : World → CXT} {sp : World → Sp} {x : Str}
    (hn : l.most = some n) (hn2 : n ≤ sizeLine) (hdf : d.params.defaults = []) (hr : Room k callerA)
    (hY : ∀ (w : World) (h : Heap), YP w h → (K w.params).In h)
    (F : ∀ (w : World) (mg : Str → Option Value) (fa : Addr) (h : Heap), (K w.params).In h → h.Ns mainGlobals mg → mg d.name = some (.ref fa) →
      ∃ fd : FuncData, (∀ (s : Shared) (u : Value), BindsTo s fd ⟨[u], []⟩ [(x, u)]) ∧
        ∀ base : Heap, (K w.params).In base → base.Ns mainGlobals mg → FnOk l.prog w (K w.params) mg base (CX w) k fa fd [x] (sp w))
    (hsp : ∀ (w : World) (H : Hp) (a : Addr) (ns : List Int), ns.length ≤ n → Only H → SqL (K w.params) H a (ns.map V.int) → sp w [.ref a] H (fun v _ => v = .bl true) fun _ _ _ => False)
    (hCX : ∀ (w : World) (H : Hp) (s : Shared) (e : Value) (s' : Shared), CX w [] H s (fun _ _ _ => False) e s' → False) :
    PySem.W.WalkO q loose XP YP l.row.toRowW d [] (fun f vs => PySem.call f vs) := by
  refine Att.attach_call hn hdf fun w s₀ s₁ mg mb fa o pm cd doc a vs ns G Y ho hd hcd hmg hobj hints hlen hg => ?_
  have KX := hY w _ Y
  obtain ⟨fd, hb, hF⟩ := F w mg fa _ KX G.T.g hmg
  exact law_call KX G.T.g G.T.b G.T.builtins G.T.nolimit hg hobj hints (Nat.le_trans hlen hn2) hr hF hb (fun H hO hS => hsp w H a ns hlen hO hS) fun H e s' => hCX w H s₁ e s'
/-- the same where the promise hangs on the written part alone: (sp := My.sp_law), no hole under a binder -/
theorem walk_ofK {l : PySem.W.OpenLaw} {n k : Nat} {q : Program} {loose : List Str} {XP : (Str → Option Value) → Heap → Prop} {YP : World → Heap → Prop} {d : DefRec} {K : Params → PySem.W.Frag} {CX : CXT} {sp : PySem.W.Frag → Sp} {x : Str}
    (hn : l.most = some n) (hn2 : n ≤ sizeLine) (hdf : d.params.defaults = []) (hr : Room k callerA)
    (hY : ∀ (w : World) (h : Heap), YP w h → (K w.params).In h)
    (F : ∀ (w : World) (mg : Str → Option Value) (fa : Addr) (h : Heap), (K w.params).In h → h.Ns mainGlobals mg → mg d.name = some (.ref fa) →
      ∃ fd : FuncData, (∀ (s : Shared) (u : Value), BindsTo s fd ⟨[u], []⟩ [(x, u)]) ∧
        ∀ base : Heap, (K w.params).In base → base.Ns mainGlobals mg → FnOk l.prog w (K w.params) mg base CX k fa fd [x] (sp (K w.params)))
    (hsp : ∀ (K : PySem.W.Frag) (H : Hp) (a : Addr) (ns : List Int), ns.length ≤ n → Only H → SqL K H a (ns.map V.int) → sp K [.ref a] H (fun v _ => v = .bl true) fun _ _ _ => False)
    (hCX : ∀ (H : Hp) (s : Shared) (e : Value) (s' : Shared), CX [] H s (fun _ _ _ => False) e s' → False) :
    PySem.W.WalkO q loose XP YP l.row.toRowW d [] (fun f vs => PySem.call f vs) :=
  walk_of (K := K) (CX := fun _ => CX) (sp := fun w => sp (K w.params)) hn hn2 hdf hr hY F (fun w H a ns h1 h2 h3 => hsp (K w.params) H a ns h1 h2 h3) fun _ H s e s' => hCX H s e s'
end L2

/- THE LAST THEOREM (shape; LID, My.* are yours):
   My.Adr: a structure of the addresses that your layer names (classes, functions); My.Txt K t: a structure (Prop) of the equations over K;
   My.txt_mk : {K} {implicit addresses ..} (e1 : nsIn K mainGlobals "law" = some (some (.ref f))) (e2 : K.lookup f = some ⟨oc, od, .func (fnOf "law" "law" params body scope dV kV doc pm an cdv ct), sl⟩) (e3 : codeIn K cdv "law" = true) .. : ∃ t, My.Txt K t

set_option maxRecDepth 100000 in
set_option maxHeartbeats 0 in
theorem PySem.Challenge.cw_LID_holds : PySem.Challenge.rw_LID.Holds := by
  w_on; o_law; k_head; (case hw => w_witness2)
  k_fill
  refine L2.walk_of (l := PySem.Challenge.rw_LID) (n := 63) (k := 40) (x := "script") (CX := fun w => ..) (sp := fun _ => My.sp_law) rfl (by decide) rfl ⟨rfl, by decide, by decide⟩ (fun w h Y => PySem.W.kIn_of Y) ?F ?S ?C
  case F =>
    intro w mg fa h KX G hmg
    have T : ∃ t, My.Txt (L2.KOf KX) t := by
      dsimp only [L2.KOf]                          -- K must stand as «<heap const> w.params» for k_is
      refine' My.txt_mk ?e1 ?e2 ?e3 ..
      (case e1 => PySem.W.k_is)                    -- in the order: a name -> its address -> its object -> its parts
      (case e2 => PySem.W.k_is)
      ..
    obtain ⟨t, T⟩ := T
    have e0 := hmg.symm.trans (PySem.W.mg_of KX G T.law)
    cases e0                                       -- fa is the law's own address
    exact ⟨_, fun s u => .of_eq rfl, fun base kb nb => My.law_fn T kb nb⟩     -- if «.of_eq rfl» comes too early: refine' ⟨_, ?b, fun base kb nb => My.law_fn T kb nb⟩; exact fun s u => .of_eq rfl
  case S => exact fun w H a ns hl hO hS => ..
  case C => exact ..
(the tactic k_is has no namespace: write k_is) -/

/-! SHORT WORDS over the layer: a def of the text, its body, what a loop and a test want. -/
namespace L2
open PySem PySem.Spec PyProof.Rows

/-! ### the text by places -/
/-- the j-th statement of a class's body -/
def inClass (s : Stmt) (j : Nat) : Stmt := match s with
  | .ClassDef _ _ _ body _ _ _ _ _ _ _ => body.getD j (.Pass ⟨0, 0, 0, 0⟩)
  | _ => .Pass ⟨0, 0, 0, 0⟩
def defArgs (s : Stmt) : Arguments := match s with
  | .FunctionDef _ a _ _ _ _ _ _ _ _ => a
  | _ => { posonlyargs := [], args := [], vararg := none, kwonlyargs := [], kw_defaults := [], kwarg := none, defaults := [] }
def defBody (s : Stmt) : List Stmt := match s with
  | .FunctionDef _ _ b _ _ _ _ _ _ _ => b
  | _ => []
def defScope (s : Stmt) : Scope := match s with
  | .FunctionDef _ _ _ _ _ _ sc _ _ _ => sc
  | _ => { kind := .function, names := [], isGenerator := false, isCoroutine := false }

/-! ### no exception leaves a def -/
abbrev CX0 : CXT := fun _ _ _ _ _ _ => False
abbrev E0 : XK := fun _ _ _ => False
theorem pass0 {X : Cx} : Passes CX0 X E0 := fun _ _ _ _ _ _ _ h => h.elim

/-! ### a def (or method) of the text as it stands behind the top -/
structure Fun (K : PySem.W.Frag) (x qual : Str) (st : Stmt) (f : Addr) (fd : FuncData) : Prop where
  ex : ∃ (oc : Value) (od : Option Addr) (kV doc pm : Value) (an : Option Addr) (cdv ct : Value) (osl : Array (Option Value)),
    fd = PySem.W.fnOf x qual (defArgs st) (defBody st) (defScope st) .none kV doc pm an cdv ct ∧ K.lookup f = some ⟨oc, od, .func fd, osl⟩ ∧ PySem.W.codeIn K cdv qual = true
  kp : PySem.W.keepIn K (.ref f) = true
section
variable {P : Program} {w : World} {K : PySem.W.Frag} {mg : Str → Option Value} {base : Heap}
/-- THE RULE for a def: its body as a term of rules, and the reading of that term -/
theorem Fun.ok {x qual : Str} {st : Stmt} {f : Addr} {fd : FuncData} {N ps : List Str} {k : Nat} {sp : Sp} (F : Fun K x qual st f fd) (S : FnScope N ps (defScope st)) (len : ∀ vs H Q E, sp vs H Q E → vs.length = ps.length)
    (hbody : ∀ (cdv : Value) (A : Around) (outer : List Env) (s : Shared) (H : Hp) (vs : List V) (Q : VK) (E : XK), Room k (A.deeper (envOfC qual (defScope st) s.heap.objs.size f cdv)) → sp vs H Q E →
      ∃ t, PSs (cxOf CX0 P w K mg base N qual (defScope st) f cdv A outer s H E).nox (defBody st) t ∧ t { nx := fun _ H' => Q .non H', rt := Q } (start N vs) H) : FnOk P w K mg base CX0 (k + 1) f fd ps sp := by
  obtain ⟨oc, od, kV, doc, pm, an, cdv, ct, osl, rfl, lk, hcd⟩ := F.ex
  refine fn_of lk hcd S len fun A outer s H vs Q E hr hsp => ?_
  obtain ⟨t, h, q⟩ := hbody cdv A outer s H vs Q E hr hsp
  exact ⟨t, h.nox, q⟩
/-- how its arguments bind (no defaults): h is «fun _ _ _ _ _ _ us hl => match us, hl with | [_, _], _ => rfl», one _ a parameter -/
theorem Fun.binds {x qual : Str} {st : Stmt} {f : Addr} {fd : FuncData} {ps : List Str} (F : Fun K x qual st f fd)
    (h : ∀ (kV doc pm : Value) (an : Option Addr) (cdv ct : Value) (us : List Value), us.length = ps.length → bindArgs (PySem.W.fnOf x qual (defArgs st) (defBody st) (defScope st) .none kV doc pm an cdv ct) ⟨us, []⟩ = pure (ps.zip us)) : Binds K fd ps [] := by
  obtain ⟨oc, od, kV, doc, pm, an, cdv, ct, osl, rfl, lk, hcd⟩ := F.ex
  exact .all (h kV doc pm an cdv ct)
theorem fun_mk {x qual : Str} {st : Stmt} {f : Addr} {oc : Value} {od an : Option Addr} {osl : Array (Option Value)} {kV doc pm cdv ct : Value} (l : K.lookup f = some ⟨oc, od, .func (PySem.W.fnOf x qual (defArgs st) (defBody st) (defScope st) .none kV doc pm an cdv ct), osl⟩)
    (c : PySem.W.codeIn K cdv qual = true) (k : PySem.W.keepIn K (.ref f) = true) : Fun K x qual st f (PySem.W.fnOf x qual (defArgs st) (defBody st) (defScope st) .none kV doc pm an cdv ct) := ⟨⟨oc, od, kV, doc, pm, an, cdv, ct, osl, rfl, l, c⟩, k⟩
end
theorem hu_of {A : Around} {k : Nat} (hr : Room k A) : A.units + 1 < cLine := Nat.lt_of_le_of_lt (Nat.add_le_add_left (by decide : 1 ≤ 64) _) hr.units
theorem small1000 {n : Nat} (h : n ≤ 1000) : n < sizeLine := Nat.lt_of_le_of_lt h (by decide)

/-! ### expressions in short: the name that stands in the i-th slot -/
section
variable {X : Cx}
theorem pv (i : Nat) {x : Str} {pos : Pos} (hN : X.N[i]? = some x := by rfl) (hv : Vis X.env.scope x := by first | exact Or.inl rfl | exact Or.inr (Or.inl rfl) | exact Or.inr (Or.inr rfl)) (hd : (x == ("__debug__" : Str)) = false := by decide)
    (hcd : (x == ("__classdict__" : Str)) = false := by decide) : PE X (.Name x pos) (tVar i) := pe_var hN hv hd hcd
end

/-! ### tests -/
theorem iteF {A B : Prop} (h : B) : if false = true then A else B := by
  rw [if_neg Bool.false_ne_true]
  exact h
theorem iteT {A B : Prop} (h : A) : if true = true then A else B := by
  rw [if_pos rfl]
  exact h
theorem ite2 {c A B : Prop} [Decidable c] (h1 : c → A) (h2 : ¬ c → B) : if c then A else B := by
  by_cases h : c
  · rw [if_pos h]
    exact h1 h
  · rw [if_neg h]
    exact h2 h
theorem iteNS {c A B : Prop} [Decidable c] (hc : c) (h : B) : if (!decide c) = true then A else B := by
  rw [decide_eq_true hc]
  exact iteF h

/-! ### heaps -/
/-- all that was tracked is as it was -/
def Same (H H' : Hp) : Prop := ∀ b o, H b = some o → H' b = some o
theorem Same.refl (H : Hp) : Same H H := fun _ _ h => h
theorem Same.trans {H H1 H2 : Hp} (a : Same H H1) (b : Same H1 H2) : Same H H2 := fun c o h => b c o (a c o h)
theorem Same.free {H H' : Hp} (e : Same H H') {l : Addr} (h : H' l = Option.none) : H l = Option.none := by
  cases q : H l with
  | none => rfl
  | some o =>
    rw [e l o q] at h
    cases h
theorem Same.seq {K : PySem.W.Frag} {H H' : Hp} {a : Addr} {xs : List V} (e : Same H H') (h : SqL K H a xs) : SqL K H' a xs := by
  rcases h with (h | ⟨o, h⟩) | h
  · exact .inl (.inl (e _ _ h))
  · exact .inl (.inr ⟨o, e _ _ h⟩)
  · exact .inr h

end L2
set_option maxHeartbeats 4000000
/-! EXTENSION 1 of the layer: comprehensions, walks over texts, slices of texts, all, any, isinstance -/
namespace L2
open PySem PySem.Spec PyProof.Rows

/-! ### slices of texts -/
section
variable {X : Cx}
def rSlS : V → Option Int → Option Int → Hp → VK → Prop := fun x lo hi H Q => ∃ z, x = .str z ∧ z.length ≤ sizeLine ∧ Q (.str (Txt.slice z lo hi)) H
theorem sl_str : SlR X rSlS := by
  intro pins s σ H x v vl vu lo hi sl Q I rx hs pl pu h
  obtain ⟨z, rfl, hz, q⟩ := h
  obtain ⟨t, rfl⟩ := rx
  refine ⟨"str", _, F.slot_str_getitem.lookup, typeIs_str _ _ _, ?_⟩
  obtain ⟨o, ho, hc, hd⟩ := hs
  have fin : ∀ t' k, EP X pins σ Q (.str (Txt.slice z lo hi) t') { s with toks := k } := fun t' k => ⟨.str _, H, I.tok k, ⟨t', rfl⟩, q⟩
  cases pl with
  | none =>
    cases pu with
    | none => exact wpAny_getItem_str_slice (l := none) (u := none) (st := none) ⟨o, ho, hc, hd⟩ rfl (post_val_or_str ⟨Nat.le_trans (Txt.slice_le z _ _) hz, fin⟩)
    | int j uj => exact wpAny_getItem_str_slice (l := none) (u := some (j, uj)) (st := none) ⟨o, ho, hc, hd⟩ rfl (post_val_or_str ⟨Nat.le_trans (Txt.slice_le z _ _) hz, fin⟩)
  | int i ui =>
    cases pu with
    | none => exact wpAny_getItem_str_slice (l := some (i, ui)) (u := none) (st := none) ⟨o, ho, hc, hd⟩ rfl (post_val_or_str ⟨Nat.le_trans (Txt.slice_le z _ _) hz, fin⟩)
    | int j uj => exact wpAny_getItem_str_slice (l := some (i, ui)) (u := some (j, uj)) (st := none) ⟨o, ho, hc, hd⟩ rfl (post_val_or_str ⟨Nat.le_trans (Txt.slice_le z _ _) hz, fin⟩)
end

/-! ### a walk over a text's signs -/
def Its (x : Str) : It := ⟨fun i _ => i < x.cps.size, fun i H v H' => H' = H ∧ ∃ c, x.cps[i]? = some c ∧ v = .str ⟨#[c]⟩, fun i _ => x.cps.size ≤ i⟩
theorem turn_str {P : Program} {w : World} {K : PySem.W.Frag} {x : Str} {y : Str} {py : Pos} {it : Addr} {St : Nat → Heap → Prop}
    (W : ∀ A' : Around, A'.handled = none → Walks P w A' it [it] [it] x.cps.size (SignAt x) St) (hobj : ∀ i h, St i h → ∃ o, h.get? it = some o ∧ ∀ v, o.data ≠ .cell v) (W0 : ∀ (A : Around) (i : Nat) (s : Shared) (Q : Value → Shared → Prop) (E : Value → Shared → Prop), St i s.heap → Q (.ref it) s → wpAny (model P w) A (pyIter (.ref it)) Q E s) :
    Turn P w K (.Name y py) (Its x) [it] it (fun i h => i ≤ x.cps.size ∧ St i h) where
  mem := by simp
  obj := fun i h st b hb => by
    have e : b = it := by simpa using hb
    subst e
    exact hobj i h st.2
  keep := fun i h h' st k => ⟨st.1, (W { } rfl).frame i h h' st.2 k⟩
  item := by
    intro X hP hw hK hc i pins s σ H E I hf st hg
    subst hP hw hK
    obtain ⟨f0, f1, f2, f3, f4, f5⟩ := hf it (by simp)
    refine (W X.A (I.ok.hd hc)).item i s _ _ hg st.2 fun v h' tk hv st' kk => ?_
    obtain ⟨c, u, hcx, rfl⟩ := hv
    have I1 : Inv X pins σ H { s with heap := h', toks := tk } := I.turned (fun b o hb e => kk b o (by simpa using hb) e) f0 f1 f3 f4 f5
    exact ⟨_, rfl, wpAny_pure ⟨.str ⟨#[c]⟩, H, I1, ⟨u, rfl⟩, ⟨rfl, c, hcx, rfl⟩, ⟨hg, st'⟩, fun b hb => (hf b hb).1⟩⟩
  done := by
    intro X hP hw hK hc i pins s σ H E I hf st hg
    subst hP hw hK
    obtain ⟨f0, f1, f2, f3, f4, f5⟩ := hf it (by simp)
    have e : i = x.cps.size := Nat.le_antisymm st.1 hg
    subst e
    exact (W X.A (I.ok.hd hc)).done s _ _ st.2 fun h' tk kk => ⟨rfl, I.turned (fun b o hb e => kk b o (by simpa using hb) e) f0 f1 f3 f4 f5⟩
  self := fun A i s Q E st h => W0 A i s Q E st.2 h
def iStr (tl : TE) : TI := fun σ H R => tl σ H fun x H1 => ∃ z, x = .str z ∧ R (Its z) H1
theorem pi_str {X : Cx} {y : Str} {py : Pos} {l : Expr} {tl : TE} (hl : PE X l tl) : PI X (.Name y py) l (iStr tl) := by
  intro pins s σ H R I h
  refine thn (hl pins s σ H _ I h) fun v s1 ⟨x, H1, I1, r1, q1⟩ => ?_
  obtain ⟨z, rfl, q⟩ := q1
  obtain ⟨t, rfl⟩ := r1
  have fp : ∀ b ∈ [s1.heap.objs.size], FpOk X pins H1 b := fun b hb => by
    have e : b = s1.heap.objs.size := by simpa using hb
    subst e
    exact I1.fpOk (Nat.le_refl _) (I1.hok.fresh (Nat.le_refl _))
  cases ha : z.cps.all (· < 128)
  · refine wpAny_pyIter_wide ha ?_
    exact ⟨s1.heap.objs.size, [s1.heap.objs.size], _, _, H1, rfl, I1.kept (t' := s1.toks) fun b o e => Heap.get?_push_of_some _ e,
      turn_str (fun A' hA => Walks.strWide hA _ z t) (fun i h st => by obtain ⟨o, e, c, d⟩ := st; exact ⟨o, e, fun v z => by rw [d] at z; cases z⟩) (fun _ _ _ _ _ st h => wpAny_pyIter_striter_wide st h),
      ⟨Nat.zero_le _, ⟨_, Heap.get?_push_size _ rfl, rfl, rfl⟩⟩, fp, q⟩
  · refine wpAny_pyIter_ascii ha ?_
    exact ⟨s1.heap.objs.size, [s1.heap.objs.size], _, _, H1, rfl, I1.kept (t' := s1.toks) fun b o e => Heap.get?_push_of_some _ e,
      turn_str (fun A' hA => Walks.strAscii hA _ z t) (fun i h st => by obtain ⟨o, e, c, d⟩ := st; exact ⟨o, e, fun v z => by rw [d] at z; cases z⟩) (fun _ _ _ _ _ st h => wpAny_pyIter_striter_ascii st h),
      ⟨Nat.zero_le _, ⟨_, Heap.get?_push_size _ rfl, rfl, rfl⟩⟩, fp, q⟩

/-! ### all, any of a list of truths -/
section
variable {X : Cx}
theorem vals_bl_get {bs : List Bool} {its : List Value} (r : Vals (bs.map V.bl) its) {i : Nat} {v : Value} (h : its.toArray[i]? = some v) : v = .bool (bs.getD i false) := by
  have hl := r.length
  have hi : i < its.length := by
    have := Array.getElem?_eq_some_iff.mp h
    obtain ⟨h1, _⟩ := this
    simpa using h1
  have hb : i < bs.length := by rw [List.length_map] at hl; omega
  obtain ⟨u, hu, ru⟩ := r.get (i := i) (x := V.bl bs[i]) (by simp [hb])
  have e : some u = some v := by rw [← hu, ← h]; simp
  have e1 : u = v := Option.some.inj e
  have e2 : u = Value.bool bs[i] := ru
  rw [← e1, e2]
  simp [hb]
theorem range_all_bs (bs : List Bool) : (List.range bs.length).all (fun i => bs.getD i false) = bs.all id := by
  rw [Bool.eq_iff_iff]
  simp only [List.all_eq_true, List.mem_range, id]
  constructor
  · intro h x hx
    obtain ⟨i, hi, rfl⟩ := List.mem_iff_getElem.mp hx
    have := h i hi
    simpa [hi] using this
  · intro h i hi
    have := h bs[i] (List.getElem_mem hi)
    simpa [hi] using this
theorem range_any_bs (bs : List Bool) : (List.range bs.length).any (fun i => bs.getD i false) = bs.any id := by
  rw [Bool.eq_iff_iff]
  simp only [List.any_eq_true, List.mem_range, id]
  constructor
  · rintro ⟨i, hi, h⟩
    exact ⟨bs[i], List.getElem_mem hi, by simpa [hi] using h⟩
  · rintro ⟨x, hx, h⟩
    obtain ⟨i, hi, rfl⟩ := List.mem_iff_getElem.mp hx
    exact ⟨i, hi, by simpa [hi] using h⟩
theorem call_allB (hc : X.calm = true) : CallR X (.builtin "all") (fun xs H Q => ∃ (p : Addr) (bs : List Bool), xs = [.ref p] ∧ SqL X.K H p (bs.map V.bl) ∧ Q (.bl (bs.all id)) H) := by
  intro pins s σ H xs us Q I r h
  obtain ⟨p, bs, rfl, hp, q⟩ := h
  obtain ⟨u, rfl, ru⟩ := vals1 r
  cases ru
  obtain ⟨its, rv, pl, hz⟩ := I.list hp
  have hl := rv.length
  rw [List.length_map] at hl
  have hlt : p < s.heap.objs.size := by obtain ⟨_, e, _⟩ := pl.isList; exact Heap.lt_size e
  refine call_all_walk (wpAny_pyIter_list pl.isList ?_)
  refine ⟨s.heap.objs.size, _, _, _, _, _, fun i => bs.getD i false, rfl, Walks.list (A := X.A.in1) (I.ok.hd hc) s.heap.objs.size p (Nat.ne_of_lt hlt) its.toArray, ⟨⟨_, Heap.get?_push_size _ rfl, rfl, rfl⟩, pl.isList.push _⟩, fun i v s' Q' E' hv hq => ?_, fun h' tk kk => ?_⟩
  · rw [vals_bl_get rv hv]
    exact wpAny_truthy_bool hq
  · have e : (List.range its.toArray.size).all (fun i => bs.getD i false) = bs.all id := by
      rw [List.size_toArray, ← hl]; exact range_all_bs bs
    rw [e]
    refine ⟨.bl _, H, I.kept (t' := tk) fun b o e => kk b o (fun z => ?_) (Heap.get?_push_of_some _ e), rfl, q⟩
    have z' : b = s.heap.objs.size := by simpa using z
    exact absurd (Heap.lt_size e) (by rw [z']; exact Nat.lt_irrefl _)
theorem call_anyB (hc : X.calm = true) : CallR X (.builtin "any") (fun xs H Q => ∃ (p : Addr) (bs : List Bool), xs = [.ref p] ∧ SqL X.K H p (bs.map V.bl) ∧ Q (.bl (bs.any id)) H) := by
  intro pins s σ H xs us Q I r h
  obtain ⟨p, bs, rfl, hp, q⟩ := h
  obtain ⟨u, rfl, ru⟩ := vals1 r
  cases ru
  obtain ⟨its, rv, pl, hz⟩ := I.list hp
  have hl := rv.length
  rw [List.length_map] at hl
  have hlt : p < s.heap.objs.size := by obtain ⟨_, e, _⟩ := pl.isList; exact Heap.lt_size e
  refine call_any_walk (wpAny_pyIter_list pl.isList ?_)
  refine ⟨s.heap.objs.size, _, _, _, _, _, fun i => bs.getD i false, rfl, Walks.list (A := X.A.in1) (I.ok.hd hc) s.heap.objs.size p (Nat.ne_of_lt hlt) its.toArray, ⟨⟨_, Heap.get?_push_size _ rfl, rfl, rfl⟩, pl.isList.push _⟩, fun i v s' Q' E' hv hq => ?_, fun h' tk kk => ?_⟩
  · rw [vals_bl_get rv hv]
    exact wpAny_truthy_bool hq
  · have e : (List.range its.toArray.size).any (fun i => bs.getD i false) = bs.any id := by
      rw [List.size_toArray, ← hl]; exact range_any_bs bs
    rw [e]
    refine ⟨.bl _, H, I.kept (t' := tk) fun b o e => kk b o (fun z => ?_) (Heap.get?_push_of_some _ e), rfl, q⟩
    have z' : b = s.heap.objs.size := by simpa using z
    exact absurd (Heap.lt_size e) (by rw [z']; exact Nat.lt_irrefl _)

/-! ### isinstance of a built-in kind -/
theorem call_isinst : CallR X (.builtin "isinstance") (fun xs H Q => ∃ x T t b, xs = [x, .ty T] ∧ TyOf X.K H x t ∧ PySem.W.kitOne X.K t (.type T) = some b ∧ Q (.bl b) H) := by
  intro pins s σ H xs us Q I r h
  obtain ⟨x, T, t, b, rfl, ty, e, q⟩ := h
  obtain ⟨u, c, rfl, ru, rc⟩ := vals2 r
  cases (show c = Value.type T from rc)
  exact isinst_ok I ru ty e fun tk => ⟨.bl b, H, I.tok tk, rfl, q⟩
end
end L2
/-! EXTENSION 2: list comprehensions -/
namespace L2
open PySem PySem.Spec PyProof.Rows

/-! ### the cells that a comprehension's block takes along -/
def clOf (env : Env) : List (Str × NameKind) → List (Str × Addr) → List (Str × Addr)
  | [], acc => acc
  | (n, k) :: r, acc => if k = .free then clOf env r ((n, (env.cells.lookup n).getD 0) :: acc) else clOf env r acc
theorem clos_loop (env : Env) : ∀ (l : List (Str × NameKind)) (acc : List (Str × Addr)), (∀ y ∈ l, y.2 = .free → (env.cells.lookup y.1).isSome = true) →
    (forIn l acc fun (x : Str × NameKind) (cs : List (Str × Addr)) => (if (x.2 == NameKind.free) = true then (cellOf env x.1 >>= fun a => (pure (ForInStep.yield ((x.1, a) :: cs)) : Sem _)) else pure (ForInStep.yield cs))) = (pure (clOf env l acc) : Sem _)
  | [], acc, _ => by rw [List.forIn_nil]; rfl
  | (n, k) :: r, acc, h => by
    rw [List.forIn_cons]
    have hr := fun acc' => clos_loop env r acc' (fun y hy => h y (List.mem_cons_of_mem _ hy))
    by_cases hk : k = .free
    · subst hk
      obtain ⟨a, ha⟩ := Option.isSome_iff_exists.mp (h (n, .free) List.mem_cons_self rfl)
      have e1 : cellOf env n = pure a := by unfold cellOf; rw [ha]
      have e2 : clOf env ((n, NameKind.free) :: r) acc = clOf env r ((n, a) :: acc) := by
        show (if NameKind.free = NameKind.free then clOf env r ((n, (env.cells.lookup n).getD 0) :: acc) else _) = _
        rw [if_pos rfl, ha]; rfl
      rw [e2]
      have q := hr ((n, a) :: acc)
      rw [← q]
      show ((cellOf env n >>= fun a => (pure (ForInStep.yield ((n, a) :: acc)) : Sem _)) >>= _) = _
      rw [e1]
      rfl
    · have hb : (k == NameKind.free) = false := by simpa using hk
      have e2 : clOf env ((n, k) :: r) acc = clOf env r acc := by
        show (if k = NameKind.free then _ else clOf env r acc) = _
        rw [if_neg hk]
      rw [e2]
      have q := hr acc
      rw [← q]
      show ((if (k == NameKind.free) = true then _ else _) >>= _) = _
      rw [hb]
      rfl
theorem clos_eq {scope : Scope} {env : Env} (h : ∀ y ∈ scope.names, y.2 = .free → (env.cells.lookup y.1).isSome = true) : closureFor scope env = pure (clOf env scope.names []) := by
  have q := clos_loop env scope.names [] h
  unfold closureFor
  rw [← bind_pure (forIn scope.names [] _)] at q
  first
    | exact q
    | (simp only [bind_pure] at q ⊢; exact q)
theorem clOf_sub (env : Env) : ∀ (l : List (Str × NameKind)) (acc : List (Str × Addr)), (∀ y ∈ l, y.2 = .free → (env.cells.lookup y.1).isSome = true) → (∀ y c, acc.lookup y = some c → env.cells.lookup y = some c) →
    ∀ y c, (clOf env l acc).lookup y = some c → env.cells.lookup y = some c
  | [], acc, _, ha, y, c, h => ha y c h
  | (n, k) :: r, acc, hl, ha, y, c, h => by
    have hl' : ∀ y ∈ r, y.2 = .free → (env.cells.lookup y.1).isSome = true := fun y hy => hl y (List.mem_cons_of_mem _ hy)
    by_cases hk : k = .free
    · have e : clOf env ((n, k) :: r) acc = clOf env r ((n, (env.cells.lookup n).getD 0) :: acc) := by
        show (if k = NameKind.free then _ else _) = _
        rw [if_pos hk]
      rw [e] at h
      refine clOf_sub env r _ hl' (fun z d hz => ?_) y c h
      rw [List.lookup_cons] at hz
      split at hz
      · rename_i hzn
        have en : z = n := by simpa using hzn
        cases hz
        obtain ⟨a, ha'⟩ := Option.isSome_iff_exists.mp (hl (n, k) List.mem_cons_self hk)
        rw [en, ha']; rfl
      · exact ha z d hz
    · have e : clOf env ((n, k) :: r) acc = clOf env r acc := by
        show (if k = NameKind.free then _ else _) = _
        rw [if_neg hk]
      rw [e] at h
      exact clOf_sub env r _ hl' ha y c h
theorem clOf_has (env : Env) : ∀ (l : List (Str × NameKind)) (acc : List (Str × Addr)) (y : Str), (acc.lookup y).isSome = true ∨ (y, NameKind.free) ∈ l → ∃ c, (clOf env l acc).lookup y = some c
  | [], acc, y, h => by
    rcases h with h | h
    · exact Option.isSome_iff_exists.mp h
    · cases h
  | (n, k) :: r, acc, y, h => by
    by_cases hk : k = .free
    · have e : clOf env ((n, k) :: r) acc = clOf env r ((n, (env.cells.lookup n).getD 0) :: acc) := by
        show (if k = NameKind.free then _ else _) = _
        rw [if_pos hk]
      rw [e]
      refine clOf_has env r _ y ?_
      rcases h with h | h
      · left
        rw [List.lookup_cons]
        split
        · rfl
        · exact h
      · rcases List.mem_cons.mp h with h | h
        · left
          cases h
          rw [List.lookup_cons]
          simp
        · exact .inr h
    · have e : clOf env ((n, k) :: r) acc = clOf env r acc := by
        show (if k = NameKind.free then _ else _) = _
        rw [if_neg hk]
      rw [e]
      refine clOf_has env r _ y ?_
      rcases h with h | h
      · exact .inl h
      · rcases List.mem_cons.mp h with h | h
        · cases h; exact absurd rfl hk
        · exact .inr h
theorem relabel_mem {scope : Scope} {env : Env} {y : Str} {k : NameKind} (h : (relabel scope env).names.lookup y = some k) : (y, k) ∈ scope.names ∨ (y, NameKind.free) ∈ scope.names := by
  have m := PySem.mem_of_lookup h
  obtain ⟨⟨n, k'⟩, hm, e⟩ := List.mem_map.mp (show (y, k) ∈ scope.names.map _ from m)
  dsimp only at e
  split at e
  · rename_i hc
    cases e
    simp only [Bool.and_eq_true, beq_iff_eq] at hc
    right
    rw [← hc.1.1]
    exact hm
  · cases e
    exact .inl hm

/-- what a comprehension's scope must have, over the context around it; N: the loop's name, then the names taken along; cap: their places around -/
structure CompSc (X : Cx) (scope : Scope) (x : Str) (cl : List (Str × Addr)) (N : List Str) (cap : List Nat) : Prop where
  clos : closureFor scope X.env = pure cl
  cell : ∀ y ∈ scope.names, y.2 ≠ .cell
  kind : scope.kind = .function
  names : ∀ y ∈ scope.names, y.2 = .local → scope.names.lookup y.1 = some .local
  loc : scope.names.lookup x = some .local
  nd : N.Nodup
  n0 : N[0]? = some x
  len : N.length = cap.length + 1
  capN : ∀ (k j : Nat), cap[k]? = some j → N[k + 1]? = X.N[j]?
  out : ∀ (k : Nat) (y : Str), N[k + 1]? = some y → X.env.kindOf y = some .cell ∨ X.env.kindOf y = some .free
  inn : ∀ (k : Nat) (y : Str), N[k + 1]? = some y → (relabel scope X.env).names.lookup y = some .cell ∨ (relabel scope X.env).names.lookup y = some .free
  sub : ∀ y c, cl.lookup y = some c → X.env.cells.lookup y = some c
  has : ∀ y, ((relabel scope X.env).names.lookup y = some .cell ∨ (relabel scope X.env).names.lookup y = some .free) → ∃ c, cl.lookup y = some c

/-- nothing is taken along -/
theorem CompSc.plain {X : Cx} {scope : Scope} {x : Str} (h1 : ∀ y ∈ scope.names, y.2 ≠ .cell) (h2 : ∀ y ∈ scope.names, y.2 ≠ .free) (h3 : scope.kind = .function) (h4 : ∀ y ∈ scope.names, y.2 = .local → scope.names.lookup y.1 = some .local)
    (h5 : scope.names.lookup x = some .local) : CompSc X scope x [] [x] [] where
  clos := closureFor_none h2
  cell := h1
  kind := h3
  names := h4
  loc := h5
  nd := by simp
  n0 := rfl
  len := rfl
  capN := fun k j h => by simp at h
  out := fun k y h => by simp at h
  inn := fun k y h => by simp at h
  sub := fun y c h => by simp at h
  has := fun y h => by
    rcases h with h | h
    · rcases relabel_mem h with m | m
      · exact absurd rfl (h1 _ m)
      · exact absurd rfl (h2 _ m)
    · rcases relabel_mem h with m | m
      · exact absurd rfl (h2 _ m)
      · exact absurd rfl (h2 _ m)

/-- some names are taken along, out of a def's own cells -/
theorem CompSc.takes {X : Cx} {scope sc : Scope} {x : Str} {N : List Str} {cap : List Nat} {L : Addr} (hX : X.env.scope = sc) (hcl : X.env.cells = cellsFrom L sc.names []) (h1 : ∀ y ∈ scope.names, y.2 ≠ .cell) (h2 : ∀ y ∈ scope.names, y.2 = .free → sc.names.lookup y.1 = some .cell)
    (h3 : scope.kind = .function) (h4 : ∀ y ∈ scope.names, y.2 = .local → scope.names.lookup y.1 = some .local) (h5 : scope.names.lookup x = some .local) (hk : sc.kind = .function)
    (nd : N.Nodup) (n0 : N[0]? = some x) (len : N.length = cap.length + 1) (capN : ∀ (k j : Nat), cap[k]? = some j → N[k + 1]? = X.N[j]?)
    (hf : ∀ (k : Nat) (y : Str), N[k + 1]? = some y → scope.names.lookup y = some .free) : CompSc X scope x (clOf X.env scope.names []) N cap := by
  have cells : ∀ y ∈ scope.names, y.2 = .free → (X.env.cells.lookup y.1).isSome = true := fun y hy e => by
    rw [hcl]
    exact PySem.W.cellsFrom_some sc.names L [] (.inl (h2 y hy e))
  have outK : ∀ (k : Nat) (y : Str), N[k + 1]? = some y → X.env.kindOf y = some .cell := fun k y h => by
    have m := PySem.mem_of_lookup (hf k y h)
    have e := h2 _ m rfl
    show X.env.scope.names.lookup y = _
    rw [hX]; exact e
  refine ⟨clos_eq cells, h1, h3, h4, h5, nd, n0, len, capN, fun k y h => .inl (outK k y h), fun k y h => .inl ?_, clOf_sub X.env scope.names [] cells (fun y c h => by simp at h), fun y h => ?_⟩
  · -- a name that is free there and a cell around is a cell there
    have e1 := hf k y h
    have e2 := outK k y h
    have go : ∀ l : List (Str × NameKind), l.lookup y = some .free →
        (l.map fun (n, k) => if (k == NameKind.free && X.env.scope.kind == .function && X.env.kindOf n == some .cell) then (n, NameKind.cell) else (n, k)).lookup y = some .cell := by
      intro l
      induction l with
      | nil => intro h; simp at h
      | cons p r ih =>
        intro h
        obtain ⟨n, k'⟩ := p
        rw [List.lookup_cons] at h
        rw [List.map_cons]
        cases hy : y == n with
        | true =>
          rw [hy] at h
          cases h
          have en : y = n := by simpa using hy
          subst en
          have ek : (X.env.scope.kind == ScopeKind.function) = true := by rw [hX, hk]; rfl
          dsimp only
          rw [if_pos (by rw [e2, ek]; rfl)]
          rw [List.lookup_cons]
          simp
        | false =>
          rw [hy] at h
          dsimp only
          split
          · rw [List.lookup_cons, hy]; exact ih h
          · rw [List.lookup_cons, hy]; exact ih h
    exact go scope.names e1
  · refine clOf_has X.env scope.names [] y (.inr ?_)
    rcases h with h | h
    · rcases relabel_mem h with m | m
      · exact absurd rfl (h1 _ m)
      · exact m
    · rcases relabel_mem h with m | m
      · exact m
      · exact m

/-- the context of a comprehension's block -/
def cxComp (X : Cx) (scope : Scope) (cl : List (Str × Addr)) (C : Addr) (N : List Str) (s : Shared) (H : Hp) (ex : List Addr) : Cx where
  prog := X.prog
  w := X.w
  K := X.K
  mg := X.mg
  base := X.base
  A := X.A
  N := N
  s₀ := s
  H₀ := H
  env := compEnvC scope cl C X.env
  outer := X.stack
  stack := X.stack
  ex := ex
  calm := X.calm
  fn := fun _ => false
  pn := []
  xe := fun _ _ => False

/-- the block's names at a turn -/
def capS (cap : List Nat) (σ : St) (x : Option V) : St := x :: cap.map fun j => (σ[j]?).getD none

section
variable {X : Cx} {pins : List (Addr × Obj)} {σ : St} {H : Hp} {s : Shared} {scope : Scope} {x : Str} {cl : List (Str × Addr)} {N : List Str} {cap : List Nat} {C : Addr} {fp : List Addr}
theorem cxComp_ok (S : CompSc X scope x cl N cap) (I : Inv X pins σ H s) (hC : s.heap.objs.size ≤ C) (hfp : ∀ b ∈ fp, FpOk X pins H b ∧ b < s.heap.objs.size) : (cxComp X scope cl C N s H fp).Ok where
  mod := I.ok.mod
  kind := S.kind
  glob := I.ok.glob
  blt := I.ok.blt
  above := hC
  inj := fun y z c h1 h2 => I.ok.inj y z c (S.sub y c h1) (S.sub z c h2)
  has := fun y h => S.has y h
  cab := fun y c h => by cases h
  hd := I.ok.hd
  frames := I.ok.frames
  stk := .inl rfl
  exf := fun b hb => ⟨Nat.ne_of_lt (Nat.lt_of_lt_of_le (hfp b hb).2 hC), fun y c h => (hfp b hb).1.2.2.2.2.1 y c (S.sub y c h)⟩
  bs := I.bs
  bsz := Nat.le_trans I.ok.bsz I.sz
  noex := fun b o e hb => by
    rcases (hfp b hb).1.2.2.2.1 with z | z
    · exact I.ok.noex b o e z
    · exact absurd (Nat.lt_of_lt_of_le (Heap.lt_size e) (Nat.le_trans I.ok.bsz z)) (Nat.lt_irrefl _)
  exfs := fun b hb z => by
    rcases List.mem_cons.mp (I.stkSub b z) with e | e
    · exact (hfp b hb).1.2.1 e
    · exact (hfp b hb).1.2.2.1 e
  funs := I.stack
  frf := I.stkFree

/-- at the block's entry -/
theorem comp_start {h₁ : Heap} {tk : Nat} {m : Str → Option Value} (S : CompSc X scope x cl N cap) (I : Inv X pins σ H s) (hC : s.heap.objs.size ≤ C) (hfp : ∀ b ∈ fp, FpOk X pins H b ∧ b < s.heap.objs.size)
    (hns : h₁.Ns C m) (old : ∀ b o, s.heap.get? b = some o → h₁.get? b = some o) : Inv (cxComp X scope cl C N s H fp) [] (capS cap σ none) H { s with heap := h₁, toks := tk } := by
  refine ⟨cxComp_ok S I hC hfp, rfl, I.bare, Un.kept old, ⟨m, hns, fun i y v h1 h2 h3 => ?_⟩, fun y c h => ?_, I.hok.fresh hC, fun y c h => I.freeC y c (S.sub y c h), fun p hp => absurd (show p ∈ ([] : List (Addr × Obj)) from hp) (by simp), I.hok.kept old, ?_⟩
  · cases i with
    | zero => exact absurd h2 (by simp [capS])
    | succ k =>
      have h2' : (cap.map fun j => (σ[j]?).getD none)[k]? = some (some v) := by simpa [capS] using h2
      rw [List.getElem?_map] at h2'
      cases ej : cap[k]? with
      | none => rw [ej] at h2'; cases h2'
      | some j =>
        rw [ej] at h2'
        have e1 : (σ[j]?).getD none = some v := by simpa using h2'
        have e2 : σ[j]? = some (some v) := by
          cases q : σ[j]? with
          | none => rw [q] at e1; cases e1
          | some z => rw [q] at e1; exact congrArg some e1
        have e3 : X.N[j]? = some y := (S.capN k j ej).symm.trans h1
        obtain ⟨m2, hn2, hl⟩ := I.loc
        have ko := S.out k y h1
        have vis : Vis X.env.scope y := .inr ko
        obtain ⟨u, ru, lk⟩ := hl j y v e3 e2 vis
        refine ⟨u, ru, .inr ⟨S.inn k y h1, ?_⟩⟩
        rcases lk with ⟨kl, _⟩ | ⟨_, c, hc, cell⟩
        · rcases ko with z | z <;> (rw [z] at kl; cases kl)
        · obtain ⟨c', hc'⟩ := S.has y (S.inn k y h1)
          have e4 := S.sub y c' hc'
          rw [hc] at e4
          cases e4
          obtain ⟨o, ho, hd⟩ := cell
          exact ⟨c, hc', o, old c o ho, hd⟩
  · obtain ⟨v, o, ho, hd⟩ := I.cell y c (S.sub y c h)
    exact ⟨v, o, old c o ho, hd⟩
  · show (capS cap σ none).length = N.length
    rw [S.len]
    simp [capS]
end

/-! ### tests -/
def PTs (X : Cx) (ifs : List Expr) (t : TT) : Prop :=
  ∀ (pins : List (Addr × Obj)) (s : Shared) (σ : St) (H : Hp) (Q : Bool → Hp → Prop), Inv X pins σ H s → t σ H Q →
    wpAny (model X.prog X.w) X.A (forIn ifs true fun c r => if r = true then do let ok ← isTrue c X.env (eval c X.env); pure (ForInStep.yield ok) else pure (ForInStep.yield r)) (TP X pins σ Q) X.xe s
def tYes : TT := fun _ H Q => Q true H
theorem pts_nil {X : Cx} : PTs X [] tYes := fun _ _ _ H _ I h => wpAny_tests_nil ⟨H, I, h⟩
theorem pts_one {X : Cx} {c : Expr} {t : TT} (h : PT X c t) : PTs X [c] t := fun pins s σ H Q I hq => wpAny_tests_one (h pins s σ H Q I hq)

/-- [elt for x in iter if ..]: W the invariant by the turn, a measure, the items so far -/
def CompW (cap : List Nat) (tt : TT) (te : TE) (σ : St) (P : List V → Hp → Prop) (J : It) (H1 : Hp) : Prop :=
  ∃ W : Nat → Nat → List V → Hp → Prop, (∃ m, W 0 m [] H1) ∧ ∀ i m ys H, W i m ys H → ys.length < sizeLine ∧
    ((J.stop i H ∧ P ys H) ∨
     (J.go i H ∧ ∀ v H', J.yld i H v H' → tt (capS cap σ (some v)) H' fun b H2 => if b = true then te (capS cap σ (some v)) H2 fun y H3 => ∃ m', m' < m ∧ W (i + 1) m' (ys ++ [y]) H3 else ∃ m', m' < m ∧ W (i + 1) m' ys H2))
def tComp (wi : TI) (cap : List Nat) (tt : TT) (te : TE) : TE := fun σ H Q => wi σ H (CompW cap tt te σ fun ys H2 => ∀ p, H2 p = none → Q (.ref p) (upd H2 p (.lst ys)))

abbrev lstO (ys : List Value) (n : Nat) : Obj := { cls := .type "list", data := .seq ys.toArray n }

theorem Un.grow {fs ex : List Addr} {H H' : Hp} {h h1 h2 : Heap} (u : Un fs ex H H' h h1) (k : ∀ b o, b < h.objs.size → h1.get? b = some o → h2.get? b = some o) : Un fs ex H H' h h2 where
  keep := fun b o e n hb hx => k b o (Heap.lt_size e) (u.keep b o e n hb hx)
  slot := fun b o e n hb hx => by obtain ⟨sl, q⟩ := u.slot b o e n hb hx; exact ⟨sl, k b _ (Heap.lt_size e) q⟩
  free := u.free
  there := fun b o e hx => by obtain ⟨o', q⟩ := u.there b o e hx; exact ⟨o', k b _ (Heap.lt_size e) q⟩
  tups := u.tups
  frzs := u.frzs
  tbls := u.tbls
/-- an object that is there and not tracked, younger than the beginning, is tracked from now on -/
theorem Un.track {fs ex : List Addr} {H H' : Hp} {h h1 : Heap} {a : Addr} {o : HO} (u : Un fs ex H H' h h1) (ha : h.objs.size ≤ a) (hn : H' a = none) : Un fs ex H (upd H' a o) h h1 where
  keep := u.keep
  slot := u.slot
  free := fun b ob e n hx => by rw [upd_ne (Nat.ne_of_lt (Nat.lt_of_lt_of_le (Heap.lt_size e) ha))]; exact u.free b ob e n hx
  there := u.there
  tups := fun b xs e => by have q := u.tups b xs e; rw [upd_ne (ne_of_none q hn)]; exact q
  frzs := fun b ob v e => by have q := u.frzs b ob v e; rw [upd_ne (ne_of_none q hn)]; exact q
  tbls := fun b ps e => by obtain ⟨more, q⟩ := u.tbls b ps e; exact ⟨more, by rw [upd_ne (ne_of_none q hn)]; exact q⟩
theorem HOk.track {P : Program} {w : World} {H : Hp} {h : Heap} {a : Addr} {o : HO} (x : HOk P w H h) (hn : H a = none) (new : ObjOk P w (upd H a o) h a o) : HOk P w (upd H a o) h := fun b u e => by
  by_cases hb : b = a
  · subst hb; rw [upd_same] at e; cases e; exact new
  · rw [upd_ne hb] at e
    exact (x b u e).stay (fun c v _ q => q) (fun c q => by rw [upd_ne (ne_of_none q hn)]; exact q) fun c xs q => by rw [upd_ne (ne_of_none q hn)]; exact q

section
variable {X : Cx} {pins : List (Addr × Obj)} {σ : St} {scope : Scope} {x : Str} {px pos : Pos} {cl : List (Str × Addr)} {N : List Str} {cap : List Nat} {elt iter : Expr} {ifs : List Expr} {tt : TT} {te : TE} {E : Value → Shared → Prop}
theorem comp_core {P : List V → Hp → Prop} {RR : Value → Addr → Result → Shared → Prop} {H2 : Hp} {s2 : Shared} {it : Addr} {fp : List Addr} {tn : Nat → Heap → Prop} {J : It} (hc : X.calm = true) (S : CompSc X scope x cl N cap)
    (ht : ∀ C s H ex, PTs (cxComp X scope cl C N s H ex) ifs tt) (he : ∀ C s H ex, PE (cxComp X scope cl C N s H ex) elt te)
    (I2 : Inv X pins σ H2 s2) (T : Turn X.prog X.w X.K (.Name x px) J fp it tn) (st2 : tn 0 s2.heap) (f2 : ∀ b ∈ fp, FpOk X pins H2 b) (h : CompW cap tt te σ P J H2)
    (hRR : ∀ (D C : Addr) (s4 : Shared) (ys : List V) (H3 : Hp) (oC : Obj) (m : Str → Option Value), Inv X (pins ++ [(C, oC)]) σ (upd H3 D (.lst ys)) s4 → (∀ h : Heap, h.get? C = some oC → h.Ns C m) → FpOk X pins (upd H3 D (.lst ys)) C → H3 D = none → P ys H3 → RR (.ref D) C (.ok .next) s4) :
    wpAny (model X.prog X.w) X.A (newList []) (fun acc s₃ => wpAny (model X.prog X.w) X.A (newFunctionEnv scope X.env.globals cl [] X.env.qual none .none (some X.env)) (fun cenv s₄ =>
      codeAny (model X.prog X.w) X.A (.compStart (.ListComp elt [⟨.Name x px, iter, ifs, 0⟩] scope pos) 0 (.ref it) acc { cenv with scope := relabel scope X.env }) (RR acc cenv.locals) s₄) E s₃) E s2 := by
  obtain ⟨W, ⟨m0, w0⟩, turn⟩ := h
  refine wpAny_newObj_type (wpAny_newFunctionEnv S.cell (by intro y hy; simp at hy) (fun h₁ hns₁ hsb₁ => ?_) S.kind)
  dsimp only at hns₁ hsb₁ ⊢
  generalize hG : s2.heap.push { cls := .type "list", dict := none, data := .seq ([] : List Value).toArray } = G at hns₁ hsb₁ ⊢
  have hC : G.objs.size = s2.heap.objs.size + 1 := by rw [← hG, Heap.size_push]
  have hDC : s2.heap.objs.size ≠ G.objs.size := by rw [hC]; exact Nat.ne_of_lt (Nat.lt_succ_self _)
  have hCle : s2.heap.objs.size ≤ G.objs.size := by rw [hC]; exact Nat.le_succ _
  have old : ∀ b o, s2.heap.get? b = some o → h₁.get? b = some o := fun b o e => by
    have hb := Heap.lt_size e
    exact hsb₁.extBut b o (by rw [hC]; exact Nat.ne_of_lt (Nat.lt_succ_of_lt hb)) (Heap.get?_push_of_some _ (hG ▸ Heap.get?_push_of_some _ e))
  have hacc : h₁.get? s2.heap.objs.size = some (lstO [] 0) := hsb₁.extBut _ _ hDC (Heap.get?_push_of_some _ (hG ▸ Heap.get?_push_size _ rfl))
  have flt : ∀ b ∈ fp, b < s2.heap.objs.size := fun b hb => by obtain ⟨o, e, _⟩ := T.obj 0 _ st2 b hb; exact Heap.lt_size e
  have fp2 : ∀ b ∈ fp, FpOk X pins H2 b ∧ b < s2.heap.objs.size := fun b hb => ⟨f2 b hb, flt b hb⟩
  have st1 : tn 0 h₁ := T.keep _ _ _ st2 fun b _ o e => old b o e
  have fD2 : H2 s2.heap.objs.size = none := I2.hok.fresh (Nat.le_refl _)
  have nDx : ∀ y c, X.env.cells.lookup y = some c → c ≠ s2.heap.objs.size ∧ c ≠ G.objs.size := fun y c e => by
    obtain ⟨v, q⟩ := I2.cell y c e
    have := q.lt
    exact ⟨Nat.ne_of_lt this, by rw [hC]; exact Nat.ne_of_lt (Nat.lt_succ_of_lt this)⟩
  have nPx : ∀ p ∈ X.pn ++ pins, p.1 < s2.heap.objs.size := fun p hp => Heap.lt_size (I2.pin p hp).1
  -- the block's own facts about the iterator's objects
  have fpB : ∀ {H' : Hp} {pl : List (Addr × Obj)}, (∀ b ∈ fp, H' b = none) → (∀ p ∈ pl, p.1 = s2.heap.objs.size) → ∀ b ∈ fp, FpOk (cxComp X scope cl G.objs.size N s2 H2 fp) pl H' b := fun {H' pl} hn hp b hb => by
    refine ⟨hn b hb, Nat.ne_of_lt (Nat.lt_of_lt_of_le (flt b hb) hCle), fun z => ?_, .inl hb, fun y c e => (f2 b hb).2.2.2.2.1 y c (S.sub y c e), fun p hq z => ?_⟩
    · rcases List.mem_cons.mp (I2.stkSub b z) with e | e
      · exact (f2 b hb).2.1 e
      · exact (f2 b hb).2.2.1 e
    · have e1 : p.1 = s2.heap.objs.size := hp p (by simpa [cxComp] using hq)
      rw [e1] at z
      exact absurd (flt b hb) (by rw [← z]; exact Nat.lt_irrefl _)
  have nDfs : s2.heap.objs.size ∉ frs X.stack := fun z => by
    rcases List.mem_cons.mp (I2.stkSub _ z) with e | e
    · exact absurd I2.lt (by rw [← e]; exact Nat.lt_irrefl _)
    · exact I2.nofs (Nat.le_refl _) e
  have pinD : ∀ {σ' : St} {H' : Hp} {s' : Shared} {ob : Obj}, Inv (cxComp X scope cl G.objs.size N s2 H2 fp) [] σ' H' s' → s'.heap.get? s2.heap.objs.size = some ob → (∀ v, ob.data ≠ .cell v) → H' s2.heap.objs.size = none →
      Inv (cxComp X scope cl G.objs.size N s2 H2 fp) [(s2.heap.objs.size, ob)] σ' H' s' := fun {σ' H' s' ob} J' e d n => J'.pins_of fun p hp => by
    have e1 : p = (s2.heap.objs.size, ob) := by simpa using hp
    subst e1
    exact ⟨e, n, hDC, nDfs, d⟩
  have nocell : ∀ (ys : List Value) (n : Nat) v, (lstO ys n).data ≠ .cell v := fun ys n v z => by cases (show Data.seq ys.toArray n = Data.cell v from z)
  have loop : ∀ s₃ : Shared, s₃ = { s2 with heap := h₁, toks := s2.toks + ([] : List (Str × Value)).length } →
      codeAny (model X.prog X.w) X.A (.compLoop (.ListComp elt [⟨.Name x px, iter, ifs, 0⟩] scope pos) 0 (.ref it) (.ref s2.heap.objs.size) (compEnvC scope cl G.objs.size X.env)) (RR (.ref s2.heap.objs.size) G.objs.size) s₃ := by
    rintro s₃ rfl
    refine codeAny_compLoop_tests
      (fun n s' => ∃ i ys vs e H' a, Inv (cxComp X scope cl G.objs.size N s2 H2 fp) [(s2.heap.objs.size, lstO vs e)] (capS cap σ a) H' s' ∧ tn i s'.heap ∧ (∀ b ∈ fp, H' b = none) ∧ Vals ys vs ∧ H' s2.heap.objs.size = none ∧ W i n ys H') ?_ m0
      ⟨0, [], [], 0, H2, none, pinD (comp_start S I2 hCle fp2 hns₁ old) hacc (nocell _ _) fD2, st1, fun b hb => (f2 b hb).1, .nil, fD2, w0⟩
    rintro n s3 ⟨i, ys, vs, e, H3, a, I3, st3, fr3, rel3, fD3, w3⟩
    obtain ⟨hlen, hcase⟩ := turn i n ys H3 w3
    have pl1 : ∀ p ∈ [(s2.heap.objs.size, lstO vs e)], p.1 = s2.heap.objs.size := fun p hp => by
      have e1 : p = (s2.heap.objs.size, lstO vs e) := by simpa using hp
      rw [e1]
    rcases hcase with ⟨stop, fin⟩ | ⟨go, step⟩
    · refine wpAny_mono (T.done (cxComp X scope cl G.objs.size N s2 H2 fp) rfl rfl rfl hc i _ s3 _ H3 (fun _ _ => False) I3 (fpB fr3 pl1) st3 stop) (fun r s4 ⟨hr, I4⟩ => ?_) fun _ _ z => z.elim
      subst hr
      -- the block is over: the list is tracked from here on
      obtain ⟨hD4, hDn, _, _, _⟩ := I4.pin (s2.heap.objs.size, lstO vs e) (by simp [cxComp])
      have un4 : Un (frs X.stack) fp H2 H3 s2.heap s4.heap := I4.base
      have un5 : Un (frs X.stack) fp H2 (upd H3 s2.heap.objs.size (.lst ys)) s2.heap s4.heap := un4.track (Nat.le_refl _) hDn
      have ok5 : HOk X.prog X.w (upd H3 s2.heap.objs.size (.lst ys)) s4.heap := HOk.track I4.hok hDn ⟨Nat.le_of_lt hlen, vs, e, rel3, hD4⟩
      have I5 : Inv X pins σ (upd H3 s2.heap.objs.size (.lst ys)) s4 := I2.call' I4.os un5 ok5 I4.bare fun b hb => ⟨(f2 b hb).2.2.2.1, (f2 b hb).2.1, (f2 b hb).2.2.2.2.1, (f2 b hb).2.2.2.2.2⟩
      obtain ⟨m, hnC, _⟩ := I4.loc
      have hnC' : s4.heap.Ns G.objs.size m := hnC
      obtain ⟨oC, es, ep, hoC, hdC, hrC⟩ := id hnC'
      have hHC : (upd H3 s2.heap.objs.size (.lst ys)) G.objs.size = none := by
        rw [upd_ne (Ne.symm hDC)]
        exact I4.free
      have fC : FpOk X pins (upd H3 s2.heap.objs.size (.lst ys)) G.objs.size := by
        refine ⟨hHC, Nat.ne_of_gt (Nat.lt_of_lt_of_le I2.lt hCle), I2.nofs hCle, .inr (Nat.le_trans I2.sz hCle), fun y c q => (nDx y c q).2, fun p hp z => ?_⟩
        have := nPx p hp
        rw [z] at this
        exact absurd (Nat.lt_of_lt_of_le this hCle) (Nat.lt_irrefl _)
      refine hRR s2.heap.objs.size G.objs.size s4 ys H3 oC m (I5.pins_of fun p hp => ?_) (fun h q => ⟨oC, es, ep, q, hdC, hrC⟩) fC hDn fin
      rcases List.mem_append.mp hp with hp | hp
      · exact I5.pin p (List.mem_append_right _ hp)
      · have e1 : p = (G.objs.size, oC) := by simpa using hp
        subst e1
        exact ⟨hoC, hHC, fC.2.1, fC.2.2.1, fun v z => by rw [hdC] at z; cases z⟩
    · refine wpAny_mono (T.item (cxComp X scope cl G.objs.size N s2 H2 fp) rfl rfl rfl hc i _ s3 _ H3 (fun _ _ => False) I3 (fpB fr3 pl1) st3 go) (fun r s4 ⟨u, hr, h4⟩ => ?_) fun _ _ z => z.elim
      subst hr
      show wpAny _ _ (letOwnedTupleGo (.Name x px) (.ref it) u >>= fun _ => assign (.Name x px) (compEnvC scope cl G.objs.size X.env) u) _ _ s4
      refine wpAny_bind (wpAny_mono h4 (fun _ s5 ⟨v, H5, I5, r5, y5, st5, fr5⟩ => ?_) fun _ _ z => z.elim)
      have I5' := I5.pinned (fpB fr5 pl1) (T.obj _ _ st5)
      have hloc : (cxComp X scope cl G.objs.size N s2 H2 fp).env.scope.names.lookup x = some .local := lookup_relabel_local S.loc
      refine wpAny_mono (pg_name (X := cxComp X scope cl G.objs.size N s2 H2 fp) (i := 0) (pos := px) S.nd S.n0 (.inl hloc) (.inr hloc) _ s5 _ H5 v u (fun σ6 H6 => σ6 = capS cap σ (some v) ∧ H6 = H5) I5' r5 ⟨rfl, rfl⟩) (fun _ s6 ⟨σ6, H6, I6, e6, e6'⟩ => ?_) fun _ _ z => z.elim
      subst e6 e6'
      refine wpAny_mono (ht _ _ _ _ _ s6 _ H6 _ I6 (step v H6 y5)) (fun ok s7 ⟨H7, I7, q7⟩ => ?_) fun _ _ z => z.elim
      have after : ∀ {H8 : Hp} {s8 : Shared}, Inv (cxComp X scope cl G.objs.size N s2 H2 fp) ([(s2.heap.objs.size, lstO vs e)] ++ pinsAt fp s5.heap) (capS cap σ (some v)) H8 s8 →
          tn (i + 1) s8.heap ∧ (∀ b ∈ fp, H8 b = none) ∧ s8.heap.get? s2.heap.objs.size = some (lstO vs e) ∧ H8 s2.heap.objs.size = none := fun {H8 s8} I8 => by
        refine ⟨T.keep _ _ _ st5 fun b hb o q => (I8.pin (b, o) (List.mem_append_right _ (List.mem_append_right _ (mem_pinsAt hb q)))).1, fun b hb => ?_, (I8.pin (s2.heap.objs.size, lstO vs e) (List.mem_append_right _ (List.mem_append_left _ List.mem_cons_self))).1, (I8.pin (s2.heap.objs.size, lstO vs e) (List.mem_append_right _ (List.mem_append_left _ List.mem_cons_self))).2.1⟩
        obtain ⟨o, q, _⟩ := T.obj _ _ st5 b hb
        exact (I8.pin (b, o) (List.mem_append_right _ (List.mem_append_right _ (mem_pinsAt hb q)))).2.1
      cases ok with
      | false =>
        rw [if_neg Bool.false_ne_true] at q7 ⊢
        obtain ⟨m', hm, w7⟩ := q7
        obtain ⟨st7, fr7, hD7, fD7⟩ := after I7
        exact ⟨m', hm, i + 1, ys, vs, e, H7, some v, I7.unpinned, st7, fr7, rel3, fD7, w7⟩
      | true =>
        rw [if_pos rfl] at q7 ⊢
        refine wpAny_mono (he _ _ _ _ _ s7 _ H7 _ I7 q7) (fun yv s8 ⟨y, H8, I8, r8, m', hm, w8⟩ => ?_) fun _ _ z => z.elim
        obtain ⟨st8, fr8, hD8, fD8⟩ := after I8
        refine append_at (hsz := by rw [List.size_toArray, ← rel3.length]; exact Nat.le_of_lt hlen) hD8 fun h9 hs9 hD9 => ?_
        have I8u : Inv (cxComp X scope cl G.objs.size N s2 H2 fp) [] (capS cap σ (some v)) H8 s8 := I8.pins_of fun p hp => absurd hp (by simp)
        have I9 : Inv (cxComp X scope cl G.objs.size N s2 H2 fp) [] (capS cap σ (some v)) H8 { s8 with heap := h9 } :=
          I8u.turned (t' := s8.toks) (it := s2.heap.objs.size) (fun b o hb q => (hs9.2 b hb).trans q) fD8 hDC (.inr (Nat.le_refl _)) (fun y c q => (nDx y c (S.sub y c q)).1) fun p hp => absurd (show p ∈ ([] : List (Addr × Obj)) from hp) (by simp)
        have hD9' : h9.get? s2.heap.objs.size = some (lstO (vs ++ [yv]) (e + 1)) := by
          rw [hD9]
          show some ({ cls := .type "list", data := .seq (vs.toArray.push yv) (e + 1) } : Obj) = some { cls := .type "list", data := .seq (vs ++ [yv]).toArray (e + 1) }
          rw [List.push_toArray]
        refine ⟨m', hm, i + 1, ys ++ [y], vs ++ [yv], e + 1, H8, some v, pinD I9 hD9' (nocell _ _) fD8, ?_, fr8, rel3.append (.cons r8 .nil), fD8, w8⟩
        exact T.keep _ _ _ st8 fun b hb o q => (hs9.2 b (Nat.ne_of_lt (flt b hb))).trans q
  exact codeAny_compStart_list (loop _ rfl) (T.self _ 0 _ _ _ st1 (loop _ rfl))

/-- [elt for x in iter], [elt for x in iter if test] -/
theorem pe_comp {wi : TI} (hc : X.calm = true) (hi : PI X (.Name x px) iter wi) (S : CompSc X scope x cl N cap) (ht : ∀ C s H ex, PTs (cxComp X scope cl C N s H ex) ifs tt) (he : ∀ C s H ex, PE (cxComp X scope cl C N s H ex) elt te)
    (hs : ∀ z, foldedSetIterable iter X.env z = pure z := by intro _; rfl) : PE X (.ListComp elt [⟨.Name x px, iter, ifs, 0⟩] scope pos) (tComp wi cap tt te) := by
  intro pins s σ H Q I h
  rw [eval_ListComp]
  refine wpAny_comprehension_free (use := none) rfl hs S.clos S.kind S.names (thn (hi pins s σ H _ I h) fun v s1 h1 => thn h1 fun itv s2 h2 => ?_)
  obtain ⟨it, fp, tn, J, H2, e, I2, T, st2, f2, h⟩ := h2
  subst e
  refine comp_core (RR := fun acc C => compPost (model X.prog X.w) X.A X.xe none (EP X pins σ Q) acc C) hc S ht he I2 T st2 f2 h fun D C s4 ys H3 oC m I4 hnC fC hD fin => ?_
  have hoC := (I4.pin (C, oC) (List.mem_append_right _ (List.mem_append_right _ List.mem_cons_self))).1
  refine ⟨m, hnC _ hoC, fun h' hs' => ?_⟩
  exact ⟨.ref D, _, I4.unpinned.turned (t' := s4.toks) (it := C) (fun b o hb q => (hs'.2 b hb).trans q) fC.1 fC.2.1 fC.2.2.2.1 fC.2.2.2.2.1 fC.2.2.2.2.2, rfl, fin D hD⟩
/-- y = [elt for x in iter] -/
theorem ps_setComp {wi : TI} {i : Nat} {y : Str} {py spos : Pos} (hN : X.N.Nodup) (hy : X.N[i]? = some y) (hL : X.env.scope.names.lookup y = some .local) (hc : X.calm = true) (hi : PI X (.Name x px) iter wi) (S : CompSc X scope x cl N cap)
    (ht : ∀ C s H ex, PTs (cxComp X scope cl C N s H ex) ifs tt) (he : ∀ C s H ex, PE (cxComp X scope cl C N s H ex) elt te)
    (hsw : swapsWith (.ListComp elt [⟨.Name x px, iter, ifs, 0⟩] scope pos) (some (.Name y py)) spos.line X.env = pure true := by rfl)
    (hs : ∀ z, foldedSetIterable iter X.env z = pure z := by intro _; rfl) : PS X (.Assign [.Name y py] (.ListComp elt [⟨.Name x px, iter, ifs, 0⟩] scope pos) spos) (tAsg (tComp wi cap tt te) (gName i)) := by
  intro pins s σ H D I h
  rw [exec_Assign_Name_used _ _ _ _ hsw]
  refine wpAny_bind (wpAny_standAt (wpAny_bind ?_))
  show wpAny _ X.A (do let _ ← comprehension (.ListComp elt [⟨.Name x px, iter, ifs, 0⟩] scope pos) scope X.env _ (newList []) false (eval iter X.env) (some (assign (.Name y py) X.env))) _ _ s
  refine wpAny_bind (wpAny_mono (wpAny_comprehension_free (use := some (assign (.Name y py) X.env)) (Q := fun _ s' => SP X pins D .next s') rfl hs S.clos S.kind S.names
    (thn (hi pins s σ H _ I h) fun v s1 h1 => thn h1 fun itv s2 h2 => ?_)) (fun _ s' hq => wpAny_pure (wpAny_pure hq)) fun _ _ e => e)
  obtain ⟨it, fp, tn, J, H2, e, I2, T, st2, f2, h⟩ := h2
  subst e
  refine comp_core (RR := fun acc C => compPost (model X.prog X.w) X.A X.xe (some (assign (.Name y py) X.env)) (fun _ s' => SP X pins D .next s') acc C) hc S ht he I2 T st2 f2 h fun d C s4 ys H3 oC m I4 hnC fC hD fin => ?_
  show wpAny _ X.A (assign (.Name y py) X.env (.ref d)) _ _ s4
  refine wpAny_assign_Name (store_ok (v := .ref d) I4 hN hy (.inl hL) rfl (fun s5 I5 => ?_) (.inr hL))
  have hoC := (I5.pin (C, oC) (List.mem_append_right _ (List.mem_append_right _ List.mem_cons_self))).1
  refine ⟨m, hnC _ hoC, fun h' hs' => ?_⟩
  exact ⟨σ.set i (some (.ref d)), _, I5.unpinned.turned (t' := s5.toks) (it := C) (fun b o hb q => (hs'.2 b hb).trans q) fC.1 fC.2.1 fC.2.2.2.1 fC.2.2.2.2.1 fC.2.2.2.2.2, fin d hD⟩
end

/-! ### the forms one uses -/
/-- over known items, by what holds (turn, items so far, heap); the element's reading is taken to any wish that follows -/
theorem comp_gen {J : It} {cap : List Nat} {tt : TT} {te : TE} {σ : St} {P : List V → Hp → Prop} {H1 : Hp} (n : Nat) (val : Nat → V) (Iv : Nat → List V → Hp → Prop) (hlen : n < sizeLine) (h0 : Iv 0 [] H1) (hle : ∀ i ys H, Iv i ys H → ys.length ≤ i)
    (hgo : ∀ (i : Nat) ys H, i < n → Iv i ys H → J.go i H ∧ ∀ v H', J.yld i H v H' → H' = H ∧ v = val i) (hstop : ∀ ys H, Iv n ys H → J.stop n H)
    (hs : ∀ (i : Nat) ys H (R1 : V → Hp → Prop) (R2 : Hp → Prop), i < n → Iv i ys H → (∀ y H3, Iv (i + 1) (ys ++ [y]) H3 → R1 y H3) → (∀ H3, Iv (i + 1) ys H3 → R2 H3) →
      tt (capS cap σ (some (val i))) H fun b H2 => if b = true then te (capS cap σ (some (val i))) H2 R1 else R2 H2)
    (hd : ∀ ys H, Iv n ys H → P ys H) : CompW cap tt te σ P J H1 := by
  refine ⟨fun i m ys H => m = n - i ∧ i ≤ n ∧ Iv i ys H, ⟨n, by simp, Nat.zero_le _, h0⟩, ?_⟩
  rintro i m ys H ⟨rfl, hi, p⟩
  have hy := hle i ys H p
  refine ⟨by omega, ?_⟩
  by_cases hlt : i < n
  · obtain ⟨g, y⟩ := hgo i ys H hlt p
    refine .inr ⟨g, fun v H' hv => ?_⟩
    obtain ⟨e1, e2⟩ := y v H' hv
    subst e1 e2
    exact hs i ys _ _ _ hlt p (fun y H3 q => ⟨n - (i + 1), by omega, rfl, hlt, q⟩) fun H3 q => ⟨n - (i + 1), by omega, rfl, hlt, q⟩
  · have e : i = n := by omega
    subst e
    exact .inl ⟨hstop ys H p, hd ys H p⟩
/-- without a test: the i-th element is the i-th item -/
theorem comp_of {J : It} {cap : List Nat} {te : TE} {σ : St} {P : List V → Hp → Prop} {H1 : Hp} (n : Nat) (val : Nat → V) (Iv : List V → Hp → Prop) (hlen : n < sizeLine) (h0 : Iv [] H1)
    (hgo : ∀ (i : Nat) ys H, i < n → ys.length = i → Iv ys H → J.go i H ∧ ∀ v H', J.yld i H v H' → H' = H ∧ v = val i) (hstop : ∀ ys H, ys.length = n → Iv ys H → J.stop n H)
    (hs : ∀ (i : Nat) ys H (R1 : V → Hp → Prop), i < n → ys.length = i → Iv ys H → (∀ y H3, Iv (ys ++ [y]) H3 → R1 y H3) → te (capS cap σ (some (val i))) H R1)
    (hd : ∀ ys H, ys.length = n → Iv ys H → P ys H) : CompW cap tYes te σ P J H1 := by
  refine comp_gen n val (fun i ys H => ys.length = i ∧ Iv ys H) hlen ⟨rfl, h0⟩ (fun i ys H p => Nat.le_of_eq p.1) (fun i ys H hi p => hgo i ys H hi p.1 p.2) (fun ys H p => hstop ys H p.1 p.2) (fun i ys H R1 R2 hi p r1 r2 => ?_) (fun ys H p => hd ys H p.1 p.2)
  show if true = true then te (capS cap σ (some (val i))) H R1 else R2 H
  rw [if_pos rfl]
  exact hs i ys H R1 hi p.1 p.2 fun y H3 q => r1 y H3 ⟨by rw [List.length_append, p.1]; rfl, q⟩
theorem its_go {z : Str} {i : Nat} {H : Hp} (h : i < z.cps.size) : (Its z).go i H ∧ ∀ v H', (Its z).yld i H v H' → H' = H ∧ v = .str ⟨#[z.cps.getD i 0]⟩ :=
  ⟨h, fun v H' ⟨e, c, hc, hv⟩ => ⟨e, by
    rw [hv]
    have : z.cps.getD i 0 = c := by
      rw [Array.getD_eq_getD_getElem?, hc]; rfl
    rw [this]⟩⟩
theorem itr_go {lo : Int} {n i : Nat} {H : Hp} (h : i < n) : (Itr lo n).go i H ∧ ∀ v H', (Itr lo n).yld i H v H' → H' = H ∧ v = .int (lo + i) := ⟨h, fun _ _ q => q⟩
theorem itl_go {K : PySem.W.Frag} {a : Addr} {xs : List V} {i : Nat} {H : Hp} (hq : SqL K H a xs) (h : i < xs.length) : (Itl K a).go i H ∧ ∀ v H', (Itl K a).yld i H v H' → H' = H ∧ v = xs.getD i .non :=
  ⟨⟨xs, xs[i], hq, by simp [h]⟩, fun v H' ⟨e, q⟩ => ⟨e, by
    have := q xs hq
    rw [List.getD_eq_getElem?_getD, this]; rfl⟩⟩
theorem itt_go {K : PySem.W.Frag} {a : Addr} {xs : List V} {i : Nat} {H : Hp} (hq : SqT K H a xs) (h : i < xs.length) : (Itt K a).go i H ∧ ∀ v H', (Itt K a).yld i H v H' → H' = H ∧ v = xs.getD i .non :=
  ⟨⟨xs, xs[i], hq, by simp [h]⟩, fun v H' ⟨e, q⟩ => ⟨e, by
    have := q xs hq
    rw [List.getD_eq_getElem?_getD, this]; rfl⟩⟩
end L2
/-! EXTENSION 3: == and < of tuples within tuples, == of lists -/
namespace L2
open PySem PySem.Spec PyProof.Rows

/-- == of flat values and of tuples of such, n deep -/
def EqT (K : PySem.W.Frag) (H : Hp) : Nat → V → V → Bool → Prop
  | 0, x, y, b => flatV x = true ∧ flatV y = true ∧ b = eqV x y
  | n + 1, x, y, b => (flatV x = true ∧ flatV y = true ∧ b = eqV x y) ∨
      ∃ (p q : Addr) (xs ys : List V) (e : Nat → Bool), x = .ref p ∧ y = .ref q ∧ SqT K H p xs ∧ SqT K H q ys ∧ (∀ (j : Nat) x y, xs[j]? = some x → ys[j]? = some y → EqT K H n x y (e j)) ∧
        b = ((List.range (min xs.length ys.length)).all e && xs.length == ys.length)
theorem eqV_refl {x : V} (h : flatV x = true) : eqV x x = true := by
  cases x with
  | non => rfl
  | bl b => simp [eqV]
  | int i => simp [eqV]
  | str z => simp [eqV]
  | _ => exact absurd (show false = true from h) Bool.false_ne_true
theorem Vals.at {xs : List V} {us : List Value} (r : Vals xs us) {j : Nat} (h : j < us.length) : ∃ x, xs[j]? = some x ∧ RelV x us[j] := by
  have hl := r.length
  have hj : j < xs.length := by omega
  obtain ⟨u, hu, ru⟩ := r.get (i := j) (x := xs[j]) (List.getElem?_eq_getElem hj)
  have e : us[j] = u := by
    have := List.getElem?_eq_getElem h
    rw [this] at hu
    exact Option.some.inj hu
  exact ⟨_, List.getElem?_eq_getElem hj, by rw [e]; exact ru⟩
section
variable {X : Cx} {pins : List (Addr × Obj)} {σ : St} {H : Hp} {s : Shared}
theorem eqT_same (I : Inv X pins σ H s) : ∀ (n : Nat) (x : V) (b : Bool), EqT X.K H n x x b → b = true
  | 0, x, b, h => by
    obtain ⟨f, _, e⟩ := h
    rw [e]; exact eqV_refl f
  | n + 1, x, b, h => by
    rcases h with ⟨f, _, e⟩ | ⟨p, q, xs, ys, e, e1, e2, hp, hq, hs, eb⟩
    · rw [e]; exact eqV_refl f
    · rw [e1] at e2
      cases e2
      have exy := I.tuple_inj hp hq
      subst exy
      rw [eb]
      simp only [Nat.min_self, beq_self_eq_true, Bool.and_true, List.all_eq_true, List.mem_range]
      intro j hj
      exact eqT_same I n _ _ (hs j xs[j] xs[j] (by simp [hj]) (by simp [hj]))
theorem eqT_at (I : Inv X pins σ H s) : ∀ (n : Nat) (x y : V) (b : Bool) (u v : Value) (A : Around), EqT X.K H n x y b → RelV x u → RelV y v → A.units + n < cLine → SeqAt.EqAt A s u v b
  | 0, x, y, b, u, v, A, h, ru, rv, hA => by
    obtain ⟨f, g, e⟩ := h
    rw [e]; exact eqAt_V ru rv f g
  | n + 1, x, y, b, u, v, A, h, ru, rv, hA => by
    rcases h with ⟨f, g, e⟩ | ⟨p, q, xs, ys, e, e1, e2, hp, hq, hs, eb⟩
    · rw [e]; exact eqAt_V ru rv f g
    · subst e1 e2
      cases ru
      cases rv
      by_cases hpq : p = q
      · subst hpq
        have hb : b = true := eqT_same I (n + 1) (.ref p) b (.inr ⟨p, p, xs, ys, e, rfl, rfl, hp, hq, hs, eb⟩)
        rw [hb]
        exact SeqAt.EqAt.same _
      · obtain ⟨its, r1, t1, _⟩ := I.tuple hp
        obtain ⟨its2, r2, t2, _⟩ := I.tuple hq
        have l1 : xs.length = its.toArray.size := by rw [List.size_toArray]; exact r1.length
        have l2 : ys.length = its2.toArray.size := by rw [List.size_toArray]; exact r2.length
        rw [eb, l1, l2]
        refine SeqAt.EqAt.of_refs hpq (SeqAt.RcAt.tuples (e := e) (show s.heap.IsTuple p its.toArray from t1) (show s.heap.IsTuple q its2.toArray from t2) (by omega) fun j h1 h2 => ?_)
        have h1' : j < its.length := by simpa using h1
        have h2' : j < its2.length := by simpa using h2
        obtain ⟨x', ex, rx⟩ := r1.at h1'
        obtain ⟨y', ey, ry⟩ := r2.at h2'
        have q1 : its.toArray[j] = its[j] := by simp
        have q2 : its2.toArray[j] = its2[j] := by simp
        rw [q1, q2]
        exact eqT_at I n x' y' (e j) _ _ A.in1 (hs j x' y' ex ey) rx ry (by show A.units + 1 + n < cLine; omega)
end

section
variable {X : Cx}
/-- t == u, tuples -/
def rEqT (K : PySem.W.Frag) (neg : Bool) : R2 := fun x y H Q => ∃ (p q : Addr) (xs ys : List V) (n : Nat) (e : Nat → Bool), x = .ref p ∧ y = .ref q ∧ SqT K H p xs ∧ SqT K H q ys ∧ n ≤ 8 ∧ (∀ (j : Nat) x y, xs[j]? = some x → ys[j]? = some y → EqT K H n x y (e j)) ∧
  Q (.bl (if neg then !((List.range (min xs.length ys.length)).all e && xs.length == ys.length) else ((List.range (min xs.length ys.length)).all e && xs.length == ys.length))) H
/-- xs == ys, lists of one length -/
def rEqL (K : PySem.W.Frag) (neg : Bool) : R2 := fun x y H Q => ∃ (p q : Addr) (xs ys : List V) (n : Nat) (e : Nat → Bool), x = .ref p ∧ y = .ref q ∧ SqL K H p xs ∧ SqL K H q ys ∧ n ≤ 8 ∧ xs.length = ys.length ∧ (∀ (j : Nat) x y, xs[j]? = some x → ys[j]? = some y → EqT K H n x y (e j)) ∧
  Q (.bl (if neg then !((List.range xs.length).all e) else ((List.range xs.length).all e))) H
theorem items_at {pins : List (Addr × Obj)} {σ : St} {H : Hp} {s : Shared} (I : Inv X pins σ H s) {A : Around} {xs ys : List V} {its its2 : List Value} {n : Nat} {e : Nat → Bool} (r1 : Vals xs its) (r2 : Vals ys its2) (hA : A.units + n < cLine)
    (hs : ∀ (j : Nat) x y, xs[j]? = some x → ys[j]? = some y → EqT X.K H n x y (e j)) : ∀ j (h1 : j < its.toArray.size) (h2 : j < its2.toArray.size), SeqAt.EqAt A s its.toArray[j] its2.toArray[j] (e j) := fun j h1 h2 => by
  have h1' : j < its.length := by simpa using h1
  have h2' : j < its2.length := by simpa using h2
  obtain ⟨x', ex, rx⟩ := r1.at h1'
  obtain ⟨y', ey, ry⟩ := r2.at h2'
  have q1 : its.toArray[j] = its[j] := by simp
  have q2 : its2.toArray[j] = its2[j] := by simp
  rw [q1, q2]
  exact eqT_at I n x' y' (e j) _ _ A (hs j x' y' ex ey) rx ry hA
theorem op_eqT (hu : X.A.units + 64 < cLine) : OpR X (compareOp .Eq) (rEqT X.K false) := by
  intro pins s σ H x y v u Q I rx ry h
  obtain ⟨p, q, xs, ys, n, e, rfl, rfl, hp, hq, hn, hs, hQ⟩ := h
  cases rx
  cases ry
  obtain ⟨its, r1, t1, _⟩ := I.tuple hp
  obtain ⟨its2, r2, t2, _⟩ := I.tuple hq
  refine SeqAt.eq_tupleAt (e := e) (show s.heap.IsTuple p its.toArray from t1) (show s.heap.IsTuple q its2.toArray from t2) (by omega) (items_at I (A := X.A.in1) r1 r2 (by show X.A.units + 1 + n < cLine; omega) hs) ?_
  refine ⟨.bl _, H, I, rfl, ?_⟩
  rw [List.size_toArray, List.size_toArray, ← r1.length, ← r2.length]
  exact hQ
theorem op_neT (hu : X.A.units + 64 < cLine) : OpR X (compareOp .NotEq) (rEqT X.K true) := by
  intro pins s σ H x y v u Q I rx ry h
  obtain ⟨p, q, xs, ys, n, e, rfl, rfl, hp, hq, hn, hs, hQ⟩ := h
  cases rx
  cases ry
  obtain ⟨its, r1, t1, _⟩ := I.tuple hp
  obtain ⟨its2, r2, t2, _⟩ := I.tuple hq
  refine SeqAt.RcNeAt.tuples (A := X.A) (e := e) (show s.heap.IsTuple p its.toArray from t1) (show s.heap.IsTuple q its2.toArray from t2) (by omega) (items_at I (A := X.A.in1) r1 r2 (by show X.A.units + 1 + n < cLine; omega) hs) _ _ _ _ ?_
  refine ⟨.bl _, H, I, rfl, ?_⟩
  rw [List.size_toArray, List.size_toArray, ← r1.length, ← r2.length]
  exact hQ
theorem op_eqL (hu : X.A.units + 64 < cLine) : OpR X (compareOp .Eq) (rEqL X.K false) := by
  intro pins s σ H x y v u Q I rx ry h
  obtain ⟨p, q, xs, ys, n, e, rfl, rfl, hp, hq, hn, hl, hs, hQ⟩ := h
  cases rx
  cases ry
  obtain ⟨its, r1, t1, _⟩ := I.list hp
  obtain ⟨its2, r2, t2, _⟩ := I.list hq
  refine SeqAt.eq_listAt (e := e) t1.isList t2.isList (by rw [List.size_toArray, List.size_toArray, ← r1.length, ← r2.length, hl]) (by omega) (items_at I (A := X.A.in1) r1 r2 (by show X.A.units + 1 + n < cLine; omega) hs) ?_
  refine ⟨.bl _, H, I, rfl, ?_⟩
  rw [List.size_toArray, ← r1.length]
  exact hQ
theorem op_neL (hu : X.A.units + 64 < cLine) : OpR X (compareOp .NotEq) (rEqL X.K true) := by
  intro pins s σ H x y v u Q I rx ry h
  obtain ⟨p, q, xs, ys, n, e, rfl, rfl, hp, hq, hn, hl, hs, hQ⟩ := h
  cases rx
  cases ry
  obtain ⟨its, r1, t1, _⟩ := I.list hp
  obtain ⟨its2, r2, t2, _⟩ := I.list hq
  refine SeqAt.RcNeAt.lists (A := X.A) (e := e) t1.isList t2.isList (by rw [List.size_toArray, List.size_toArray, ← r1.length, ← r2.length, hl]) (by omega) (items_at I (A := X.A.in1) r1 r2 (by show X.A.units + 1 + n < cLine; omega) hs) _ _ _ _ ?_
  refine ⟨.bl _, H, I, rfl, ?_⟩
  rw [List.size_toArray, ← r1.length]
  exact hQ
end

/-! ### < of tuples -/
def RcLt (A : Around) (s : Shared) (u v : Value) (b : Bool) : Prop := ∀ (prog : Program) (w : World) (E : Value → Shared → Prop) (Q : Value → Shared → Prop), Q (.bool b) s → wpAny (model prog w) A (richCompare .Lt u v) Q E s
inductive LtRun (A : Around) (s : Shared) : List Value → List Value → Bool → Prop
  | nn : LtRun A s [] [] false
  | nc {y : Value} {ys : List Value} : LtRun A s [] (y :: ys) true
  | cn {x : Value} {xs : List Value} : LtRun A s (x :: xs) [] false
  | eq {x y : Value} {xs ys : List Value} {r : Bool} : SeqAt.EqAt A s x y true → LtRun A s xs ys r → LtRun A s (x :: xs) (y :: ys) r
  | ne {x y : Value} {xs ys : List Value} {r : Bool} : SeqAt.EqAt A s x y false → RcLt A s x y r → LtRun A s (x :: xs) (y :: ys) r
section
open PySem.SeqAt
open PySem.AutoSeq1 (wpAny_loadPart')
open PySem.MeetsSeq PySem.MeetsSeq2 PySem.MeetsSeq3
theorem tuple_lt_gen (l b : Addr) (items items2 : Array Value) (n n2 : Nat) (dd dd2 : Option Addr) (sl sl2 : Array (Option Value)) :
    Meets (Builtin.«tuple.__lt__» ⟨[.ref l, .ref b], []⟩)
      (fun A R s => s.heap.get? l = some { cls := .type "tuple", dict := dd, data := .seq items n, slots := sl } ∧ s.heap.get? b = some { cls := .type "tuple", dict := dd2, data := .seq items2 n2, slots := sl2 } ∧
        ∃ r, LtRun A.in1 s items.toList items2.toList r ∧ R (.ok (.ret (.bool r))) s) :=
  .of_wp fun prog w A R s h => by
    obtain ⟨hp, g, d, tk, os⟩ := s; obtain ⟨hl, hb, r, hrun, h⟩ := h
    have f2 := AutoSeq1.sub_tuple_tuple
    wp_walk using wpAny_loadPart' hl, wpAny_loadPart' hb, wpAny_forIn_list _ (fun rest b s' => b.1 = none ∧ s' = ⟨hp, g, d, tk, os⟩ ∧ ∃ (vs ws : List Value) (r' : Bool), rest = vs.zip ws ∧
      LtRun A.in1 ⟨hp, g, d, tk, os⟩ vs ws r' ∧ vs.length + items2.size = ws.length + items.size ∧ R (.ok (.ret (.bool r'))) ⟨hp, g, d, tk, os⟩) _
    case turn =>
      rintro ⟨y, x⟩ rest b s' ⟨hb', rfl, vs, ws, r', hz, hrun, hlen, hR⟩
      cases hrun with
      | nn => rw [List.zip_nil_left] at hz; cases hz
      | nc => rw [List.zip_nil_left] at hz; cases hz
      | cn => rw [List.zip_nil_right] at hz; cases hz
      | eq he hr =>
        rw [List.zip_cons_cons] at hz
        injection hz with hyx hrest
        injection hyx with hy hx
        subst hy hx
        simp only [List.length_cons] at hlen
        refine wpAny_bind (he prog w _ _ ?_)
        wp_walk
        exact ⟨rfl, rfl, _, _, _, hrest, hr, by omega, hR⟩
      | ne he hr =>
        rw [List.zip_cons_cons] at hz
        injection hz with hyx hrest
        injection hyx with hy hx
        subst hy hx
        refine wpAny_bind (he prog w _ _ ?_)
        have hri := hr prog w
        wp_walk using hri
        exact ⟨_, rfl, by simpa using hR⟩
    case fin =>
      rintro ⟨b1, b2⟩ s' ⟨hb', rfl, vs, ws, r', hz, hrun, hlen, hR⟩
      simp only at hb'
      subst hb'
      have hv : r' = decide (items.size < items2.size) := by
        cases hrun with
        | nn =>
          simp only [List.length_nil] at hlen
          exact (decide_eq_false (by omega)).symm
        | nc =>
          simp only [List.length_nil, List.length_cons] at hlen
          exact (decide_eq_true (by omega)).symm
        | cn =>
          simp only [List.length_nil, List.length_cons] at hlen
          exact (decide_eq_false (by omega)).symm
        | eq he hr => rw [List.zip_cons_cons] at hz; cases hz
        | ne he hr => rw [List.zip_cons_cons] at hz; cases hz
      rw [hv] at hR
      wp_walk
      exact ⟨_, rfl, by simpa [Builtin.Tuple.tupleCompareSizes] using hR⟩
    case h =>
      exact ⟨rfl, rfl, items.toList, items2.toList, r, rfl, hrun, by simp; omega, h⟩
end
theorem lt_tupRun {prog : Program} {w : World} {A : Around} {E : Value → Shared → Prop} {s : Shared} {l b : Addr} {items items2 : Array Value} {r : Bool} {Q : Value → Shared → Prop} (hl : IsTup s.heap l items) (hb : IsTup s.heap b items2)
    (hr : LtRun A.in1 s items.toList items2.toList r) (hu : A.units < cLine) (h : Q (.bool r) s) : wpAny (model prog w) A (richCompare .Lt (.ref l) (.ref b)) Q E s := by
  obtain ⟨⟨cls, dd, data, sl⟩, ho, hc, n, hd⟩ := id hl
  obtain ⟨⟨cls2, dd2, data2, sl2⟩, ho2, hc2, n2, hd2⟩ := id hb
  simp only at hc hd hc2 hd2
  subst hc hd hc2 hd2
  exact richCompare_meets_room (op := .Lt) ⟨_, ho, rfl⟩ ⟨_, ho2, rfl⟩ PySem.F.slot_tuple_lt PySem.F.entry_tuple_lt (PySem.F.args_tuple_lt_2 _ _) (tuple_lt_gen l b items items2 n n2 dd dd2 sl sl2)
    ⟨ho, ho2, r, hr, show Value.bool r ≠ Value.notImplemented ∧ Q (.bool r) s from ⟨(fun x => nomatch x), h⟩⟩ hu

/-- the first pair that differs decides -/
inductive LtR (E L : V → V → Bool → Prop) : List V → List V → Bool → Prop
  | nn : LtR E L [] [] false
  | nc {y : V} {ys : List V} : LtR E L [] (y :: ys) true
  | cn {x : V} {xs : List V} : LtR E L (x :: xs) [] false
  | eq {x y : V} {xs ys : List V} {r : Bool} : E x y true → LtR E L xs ys r → LtR E L (x :: xs) (y :: ys) r
  | ne {x y : V} {xs ys : List V} {r : Bool} : E x y false → L x y r → LtR E L (x :: xs) (y :: ys) r
def ltFlat (x y : V) (b : Bool) : Prop := (∃ i j, x = .int i ∧ y = .int j ∧ b = decide (i < j)) ∨ (∃ i j, x = .str i ∧ y = .str j ∧ b = decide (i.cps.toList < j.cps.toList))
def LtT (K : PySem.W.Frag) (H : Hp) : Nat → V → V → Bool → Prop
  | 0, x, y, b => ltFlat x y b
  | n + 1, x, y, b => ltFlat x y b ∨ ∃ (p q : Addr) (xs ys : List V), x = .ref p ∧ y = .ref q ∧ SqT K H p xs ∧ SqT K H q ys ∧ LtR (EqT K H n) (LtT K H n) xs ys b
section
variable {X : Cx} {pins : List (Addr × Obj)} {σ : St} {H : Hp} {s : Shared}
theorem ltFlat_at {A : Around} {x y : V} {b : Bool} {u v : Value} (h : ltFlat x y b) (ru : RelV x u) (rv : RelV y v) : RcLt A s u v b := by
  intro prog w E Q hq
  rcases h with ⟨i, j, rfl, rfl, rfl⟩ | ⟨i, j, rfl, rfl, rfl⟩
  · obtain ⟨t, rfl⟩ := ru
    obtain ⟨t', rfl⟩ := rv
    exact HT.rcLt_int A s i t j t' prog w E Q hq
  · obtain ⟨t, rfl⟩ := ru
    obtain ⟨t', rfl⟩ := rv
    exact (lt_str hq : wpAny (model prog w) A (compareOp .Lt (.str i t) (.str j t')) Q E s)
theorem ltRun_of {A : Around} {E L : V → V → Bool → Prop} (hE : ∀ x y b u v, E x y b → RelV x u → RelV y v → SeqAt.EqAt A s u v b) (hL : ∀ x y b u v, L x y b → RelV x u → RelV y v → RcLt A s u v b) :
    ∀ {xs ys : List V} {r : Bool}, LtR E L xs ys r → ∀ {us vs : List Value}, Vals xs us → Vals ys vs → LtRun A s us vs r
  | _, _, _, .nn, _, _, .nil, .nil => .nn
  | _, _, _, .nc, _, _, .nil, .cons _ _ => .nc
  | _, _, _, .cn, _, _, .cons _ _, .nil => .cn
  | _, _, _, .eq e h, _, _, .cons r t, .cons r' t' => .eq (hE _ _ _ _ _ e r r') (ltRun_of hE hL h t t')
  | _, _, _, .ne e l, _, _, .cons r _, .cons r' _ => .ne (hE _ _ _ _ _ e r r') (hL _ _ _ _ _ l r r')
theorem ltT_at (I : Inv X pins σ H s) : ∀ (n : Nat) (x y : V) (b : Bool) (u v : Value) (A : Around), LtT X.K H n x y b → RelV x u → RelV y v → A.units + n < cLine → RcLt A s u v b
  | 0, x, y, b, u, v, A, h, ru, rv, _ => ltFlat_at h ru rv
  | n + 1, x, y, b, u, v, A, h, ru, rv, hA => by
    rcases h with h | ⟨p, q, xs, ys, e1, e2, hp, hq, hr⟩
    · exact ltFlat_at h ru rv
    · subst e1 e2
      cases ru
      cases rv
      obtain ⟨its, r1, t1, _⟩ := I.tuple hp
      obtain ⟨its2, r2, t2, _⟩ := I.tuple hq
      intro prog w E Q hQ
      refine lt_tupRun t1 t2 (ltRun_of (A := A.in1) (fun x y b u v e ru rv => eqT_at I n x y b u v A.in1 e ru rv (by show A.units + 1 + n < cLine; omega)) (fun x y b u v e ru rv => ltT_at I n x y b u v A.in1 e ru rv (by show A.units + 1 + n < cLine; omega)) hr r1 r2) (by omega) hQ
/-- the same comparison as the sort does it, behind the first pair -/
theorem kat_run1 (I : Inv X pins σ H s) {A : Around} {n : Nat} {Q : Bool → Shared → Prop} (hA : A.units + n < cLine) : ∀ {xs ys : List V} {r : Bool}, LtR (EqT X.K H n) (LtT X.K H n) xs ys r → xs.length = ys.length → ∀ {us vs : List Value}, Vals xs us → Vals ys vs → ∀ i, 1 ≤ i → Q r s →
    PySem.W.KatLex X.prog X.w A true false Q (us.zip vs) i s
  | _, _, _, .nn, _, _, _, .nil, .nil, i, _, q => PySem.W.kat_nil q
  | _, _, _, .nc, hl, _, _, _, _, _, _, _ => by simp at hl
  | _, _, _, .cn, hl, _, _, _, _, _, _, _ => by simp at hl
  | _, _, _, .eq e h, hl, _, _, .cons r t, .cons r' t', i, hi, q => by
    rw [List.zip_cons_cons]
    refine PySem.W.kat_cons (eqT_at I n _ _ _ _ _ A e r r' hA _ _ _ _ (PySem.W.kat_yes ?_))
    exact kat_run1 I hA h (by simpa using hl) t t' (i + 1) (by omega) q
  | _, _, _, .ne e l, hl, _, _, .cons r t, .cons r' t', i, hi, q => by
    rw [List.zip_cons_cons]
    refine PySem.W.kat_cons (eqT_at I n _ _ _ _ _ A e r r' hA _ _ _ _ (PySem.W.kat_no ?_))
    have hb : (true && i == 0) = false := by
      have : (i == 0) = false := by simp; omega
      rw [this]; rfl
    rw [hb]
    exact PySem.W.kat_one _ _ (ltT_at I n _ _ _ _ _ A l r r' hA _ _ _ _ q)
/-- the whole: the first items are texts -/
theorem kat_run0 (I : Inv X pins σ H s) {A : Around} {n : Nat} {Q : Bool → Shared → Prop} (hA : A.units + n < cLine) {a c : Str} {xs ys : List V} {r : Bool} (h : LtR (EqT X.K H n) (LtT X.K H n) (.str a :: xs) (.str c :: ys) r) (hl : xs.length = ys.length) {us vs : List Value}
    (r1 : Vals (.str a :: xs) us) (r2 : Vals (.str c :: ys) vs) (hf : ∀ b, LtT X.K H n (.str a) (.str c) b → b = decide (a.cps.toList < c.cps.toList)) (q : Q r s) : PySem.W.KatLex X.prog X.w A true false Q (us.zip vs) 0 s := by
  cases r1 with
  | cons ra t =>
    cases r2 with
    | cons rc t' =>
      rw [List.zip_cons_cons]
      cases h with
      | eq e h =>
        refine PySem.W.kat_cons (eqT_at I n _ _ _ _ _ A e ra rc hA _ _ _ _ (PySem.W.kat_yes ?_))
        exact kat_run1 I hA h hl t t' 1 (Nat.le_refl _) q
      | ne e l =>
        refine PySem.W.kat_cons (eqT_at I n _ _ _ _ _ A e ra rc hA _ _ _ _ (PySem.W.kat_no ?_))
        obtain ⟨ta, rfl⟩ := ra
        obtain ⟨tc, rfl⟩ := rc
        have hr := hf _ l
        subst hr
        show wpAny _ _ (oneLt' true _ _) _ _ _
        exact oneLt_str q
theorem ltT_str {K : PySem.W.Frag} {H : Hp} : ∀ {n : Nat} {a c : Str} {b : Bool}, LtT K H n (.str a) (.str c) b → b = decide (a.cps.toList < c.cps.toList)
  | 0, a, c, b, h => by
    rcases h with ⟨i, j, e, _⟩ | ⟨i, j, e, e', e''⟩
    · cases e
    · cases e; cases e'; exact e''
  | n + 1, a, c, b, h => by
    rcases h with h | ⟨p, q, xs, ys, e, _⟩
    · rcases h with ⟨i, j, e, _⟩ | ⟨i, j, e, e', e''⟩
      · cases e
      · cases e; cases e'; exact e''
    · cases e
end
end L2
/-! EXTENSION 4: sorted(xs, key=f) of two items whose keys are tuples that begin with texts -/
namespace L2
open PySem PySem.Spec PyProof.Rows

theorem obj_some {P : Program} {w : World} {H : Hp} {h : Heap} {a : Addr} {o : HO} (x : ObjOk P w H h a o) : ∃ ob, h.get? a = some ob := by
  cases o with
  | lst xs => obtain ⟨_, _, _, _, e⟩ := x; exact ⟨_, e⟩
  | tup xs => obtain ⟨_, _, _, o, e, _⟩ := x; exact ⟨_, e⟩
  | dK kvs => obtain ⟨_, _, _, _, o, _, _, e, _⟩ := x; exact ⟨_, e⟩
  | dT kvs => obtain ⟨_, _, _, _, o, _, _, e, _⟩ := x; exact ⟨_, e⟩
  | set S n => obtain ⟨o, _, _, _, e, _⟩ := x; exact ⟨_, e⟩
  | ins C dx fs => obtain ⟨_, _, _, e, _⟩ := x; exact ⟨_, e⟩
  | own y => exact x
  | xd fs => obtain ⟨_, ⟨_, _, _, e, _⟩, _⟩ := x; exact ⟨_, e⟩
  | rng lo hi => obtain ⟨_, _, _, e⟩ := x; exact ⟨_, e⟩
  | frz ob u => obtain ⟨e, _⟩ := x; exact ⟨_, e⟩
  | tbl ps => exact ⟨_, (show h.get? a = some _ from x)⟩
  | met f y => exact ⟨_, (show h.get? a = some _ from x)⟩
  | ext φ => obtain ⟨_, ⟨_, e⟩, _⟩ := x; exact ⟨_, e⟩
section
variable {X : Cx} {pins : List (Addr × Obj)} {σ : St} {H : Hp} {s : Shared} {h' : Heap}
theorem ns_inj {h : Heap} {a : Addr} {m m' : Str → Option Value} (x : h.Ns a m) (y : h.Ns a m') : m = m' := by
  obtain ⟨o, es, ep, e, d, _, f⟩ := x
  obtain ⟨o', es', ep', e', d', _, f'⟩ := y
  rw [e] at e'; cases e'
  rw [d] at d'; cases d'
  funext n
  rw [← f n, ← f' n]
/-- a young record of the rules' own: nobody else's -/
structure Young (X : Cx) (pins : List (Addr × Obj)) (d : Addr) : Prop where
  nL : d ≠ X.env.locals
  nf : d ∉ X.fs
  s0 : ∀ o, X.s₀.heap.get? d = some o → d ∈ X.ex
  nc : ∀ x c, X.env.cells.lookup x = some c → c ≠ d
  np : ∀ p ∈ X.pn ++ pins, p.1 ≠ d
  nb : X.base.get? d = none
theorem young_of (I : Inv X pins σ H s) {d : Addr} (hs : s.heap.get? d = none) (hL : d ≠ X.env.locals) (hb : X.base.get? d = none) : Young X pins d ∧ H d = none := by
  refine ⟨⟨hL, fun z => ?_, fun o e => ?_, fun x c e z => ?_, fun p hp z => ?_, hb⟩, ?_⟩
  · obtain ⟨_, o, ho, _⟩ := I.funs.mem z
    rw [hs] at ho; cases ho
  · by_cases hx : d ∈ X.ex
    · exact hx
    · obtain ⟨o', e'⟩ := I.base.there d o e hx
      rw [hs] at e'; cases e'
  · obtain ⟨v, o, ho, _⟩ := I.cell x c e
    rw [z, hs] at ho; cases ho
  · have := (I.pin p hp).1
    rw [z, hs] at this; cases this
  · cases q : H d with
    | none => rfl
    | some u =>
      have y := I.hok d u q
      obtain ⟨ob, e⟩ := obj_some y
      rw [hs] at e; cases e
/-- the record d has changed, and the frame's own object (its map stays): all else is as it was -/
theorem Inv.led {t' : Nat} {d : Addr} (I : Inv X pins σ H s) (y : Young X pins d) (hn : H d = none) (k : ∀ b o, b ≠ X.env.locals → b ≠ d → s.heap.get? b = some o → h'.get? b = some o) (ns : ∀ m, s.heap.Ns X.env.locals m → h'.Ns X.env.locals m) :
    Inv X pins σ H { s with heap := h', toks := t' } := by
  have neL : ∀ b o, X.s₀.heap.get? b = some o → b ≠ X.env.locals := fun b o e => Nat.ne_of_lt (Nat.lt_of_lt_of_le (Heap.lt_size e) I.ok.above)
  have neD : ∀ b o, X.s₀.heap.get? b = some o → b ∉ X.ex → b ≠ d := fun b o e hx z => hx (z ▸ y.s0 o (z ▸ e))
  have nit : ∀ b u, H b = some u → b ≠ d := fun b u e z => by rw [z, hn] at e; cases e
  have niL : ∀ b u, H b = some u → b ≠ X.env.locals := fun b u e z => by rw [z, I.free] at e; cases e
  have cellK : ∀ x c, X.env.cells.lookup x = some c → ∀ v, s.heap.IsCell c v → h'.IsCell c v := fun x c e v ⟨o, ho, hd⟩ => ⟨o, k c o (I.cne x c e) (y.nc x c e) ho, hd⟩
  have okL : ∃ o, h'.get? X.env.locals = some o := by
    obtain ⟨m, hm, _⟩ := I.loc
    obtain ⟨o, _, _, e, _⟩ := ns m hm
    exact ⟨o, e⟩
  refine ⟨I.ok, I.os, I.bare, ⟨fun b o e n hb hx => ?_, fun b o e n hb hx => ?_, I.base.free, fun b o e hx => ?_, I.base.tups, I.base.frzs, I.base.tbls⟩, ?_, fun x c e => ?_, I.free, I.freeC, fun p hp => ?_, fun a u e => ?_, I.len⟩
  · exact k b o (neL b o e) (neD b o e hx) (I.base.keep b o e n hb hx)
  · obtain ⟨sl, e1⟩ := I.base.slot b o e n hb hx
    exact ⟨sl, k b _ (neL b o e) (neD b o e hx) e1⟩
  · obtain ⟨o', e1⟩ := I.base.there b o e hx
    exact ⟨o', k b _ (neL b o e) (neD b o e hx) e1⟩
  · obtain ⟨m, hm, hl⟩ := I.loc
    refine ⟨m, ns m hm, fun i x v e1 e2 e3 => ?_⟩
    obtain ⟨u, r, l⟩ := hl i x v e1 e2 e3
    refine ⟨u, r, ?_⟩
    rcases l with l | ⟨kk, c, e, z⟩
    · exact .inl l
    · exact .inr ⟨kk, c, e, cellK x c e _ z⟩
  · obtain ⟨v, z⟩ := I.cell x c e
    exact ⟨v, cellK x c e v z⟩
  · obtain ⟨e, n, ne, nf, dd⟩ := I.pin p hp
    exact ⟨k p.1 p.2 ne (y.np p hp) e, n, ne, nf, dd⟩
  · refine (I.hok a u e).stay (fun c v hc q => k c v ?_ ?_ q) (fun _ q => q) fun _ _ q => q
    · rcases hc with z | z
      · rw [z]; exact niL a u e
      · exact niL c _ z
    · rcases hc with z | z
      · rw [z]; exact nit a u e
      · exact nit c _ z
/-- a young record that is there is tracked from now on -/
theorem Inv.track {d : Addr} {o : HO} (I : Inv X pins σ H s) (y : Young X pins d) (hn : H d = none) (new : ObjOk X.prog X.w (upd H d o) s.heap d o) : Inv X pins σ (upd H d o) s := by
  refine ⟨I.ok, I.os, I.bare, ⟨I.base.keep, I.base.slot, fun b ob e n hx => ?_, I.base.there, fun b xs e => ?_, fun b ob v e => ?_, fun b ps e => ?_⟩, I.loc, I.cell, ?_, fun x c e => ?_, fun p hp => ?_, HOk.track I.hok hn new, I.len⟩
  · rw [upd_ne (fun z => by subst z; exact hx (y.s0 ob e))]
    exact I.base.free b ob e n hx
  · have q := I.base.tups b xs e
    rw [upd_ne (ne_of_none q hn)]; exact q
  · have q := I.base.frzs b ob v e
    rw [upd_ne (ne_of_none q hn)]; exact q
  · obtain ⟨more, q⟩ := I.base.tbls b ps e
    exact ⟨more, by rw [upd_ne (ne_of_none q hn)]; exact q⟩
  · rw [upd_ne (Ne.symm y.nL)]; exact I.free
  · rw [upd_ne (y.nc x c e)]; exact I.freeC x c e
  · obtain ⟨e, n, r⟩ := I.pin p hp
    exact ⟨e, by rw [upd_ne (y.np p hp)]; exact n, r⟩
theorem Inv.pin1 {d : Addr} {o : Obj} (I : Inv X pins σ H s) (y : Young X pins d) (hn : H d = none) (e : s.heap.get? d = some o) (hd : ∀ v, o.data ≠ .cell v) : Inv X (pins ++ [(d, o)]) σ H s := I.pins_of fun p hp => by
  rcases List.mem_append.mp hp with hp | hp
  · exact I.pin p (List.mem_append_right _ hp)
  · have e1 : p = (d, o) := by simpa using hp
    subst e1
    exact ⟨e, hn, y.nL, y.nf, hd⟩
end

theorem kas2 {cmp : Nat → Nat → (Bool → Shared → Prop) → Shared → Prop} {G : Array Nat → Shared → Prop} {s : Shared} (h : cmp 1 0 (fun b s' => G (if b = true then #[1, 0] else #[0, 1]) s') s) : (PySem.W.kas_sort 2).kasWp cmp G s := by
  have e : PySem.W.kas_sort 2 = .ask 1 0 (fun c => if c = true then .ret #[1, 0] else .ret #[0, 1]) := by
    show PySem.W.KasT.ask _ _ _ = PySem.W.KasT.ask _ _ _
    congr 1
    funext c
    cases c <;> rfl
  rw [e]
  show cmp 1 0 (fun b s' => (PySem.W.KasT.kasWp cmp (if b = true then .ret #[1, 0] else .ret #[0, 1]) G s')) s
  have e2 : (fun b s' => (PySem.W.KasT.kasWp cmp (if b = true then .ret #[1, 0] else .ret #[0, 1]) G s')) = fun (b : Bool) s' => G (if b = true then #[1, 0] else #[0, 1]) s' := by
    funext b s'
    cases b <;> rfl
  rw [e2]
  exact h

section
variable {X : Cx} {k : Nat} {f : Addr} {fd : FuncData} {pn : Str} {sp : Sp}
abbrev sqO (vs : List Value) (n : Nat) : Obj := seqObj "list" (List.toArray vs) n
theorem sq_nocell (vs : List Value) (n : Nat) : ∀ v, (sqO vs n).data ≠ .cell v := fun v z => by cases (show Data.seq (List.toArray vs) n = Data.cell v from z)
/-- a call of the key's def from within the sort -/
theorem key_call {pins : List (Addr × Obj)} {σ : St} {H : Hp} {s : Shared} {m : Str → Option Value} {x : V} {u : Value} {R : VK} {E : Value → Shared → Prop} {Q : Value → Shared → Prop} (Fk : FnOk X.prog X.w X.K X.mg X.base CX0 k f fd [pn] sp) (hr : Room (k + 2) X.A) (hb : Binds X.K fd [pn] [])
    (I : Inv X pins σ H s) (hm : s.heap.Ns X.env.locals m) (rx : RelV x u) (h : sp [x] H R E0)
    (hQ : ∀ y H1 s1 w', Inv X pins σ H1 s1 → s1.heap.Ns X.env.locals m → RelV y w' → R y H1 → Q w' s1) : wpAny (model X.prog X.w) X.A.in1.in1 (call (.ref f) [u]) Q E s := by
  have hr2 : Room k X.A.in1.in1 := (Room.in1 (Room.in1 hr))
  have hb1 := hb s [u] I.kIn (by simp)
  rw [List.append_nil] at hb1
  refine wpAny_call (codeAny_mono (Fk.run X.A.in1.in1 X.stack s H ⟨[u], []⟩ [u] [x] R E0 hr2 I.env0.in1.in1 hb1 (.cons rx .nil) h) fun r s' hq => ?_)
  cases r with
  | error e => exact False.elim hq
  | ok fl =>
    cases fl with
    | ret w' =>
      have hq' : CE X.stack X.prog X.w H s R w' s' := hq
      obtain ⟨v, H', os, bare, un, hok, rv, q⟩ := id hq'
      obtain ⟨y, H1, I1, ry, qy⟩ := I.after hq'
      refine hQ y H1 s' w' I1 ?_ ry qy
      obtain ⟨o, es, ep, ho, d⟩ := hm
      obtain ⟨sl, e⟩ := un.any ho I.free (by simp)
      exact ⟨_, es, ep, e, d⟩
    | next => exact False.elim hq
    | brk => exact False.elim hq
    | cont => exact False.elim hq

theorem sort2 {pins : List (Addr × Obj)} {σ : St} {H : Hp} {s : Shared} {l : Addr} {x1 x2 : V} {key1 key2 : Hp → V → Prop} {gt : Bool} {Q : VK} (hh : X.A.units + 80 < cLine) (Fk : FnOk X.prog X.w X.K X.mg X.base CX0 k f fd [pn] sp) (hr : Room (k + 2) X.A) (hb : Binds X.K fd [pn] [])
    (I : Inv X pins σ H s) (hl : SqL X.K H l [x1, x2])
    (hk1 : ∀ H', Same H H' → ∀ R : VK, (∀ y H'', Same H' H'' → key1 H'' y → R y H'') → sp [x1] H' R E0) (hk2 : ∀ H', Same H H' → ∀ R : VK, (∀ y H'', Same H' H'' → key2 H'' y → R y H'') → sp [x2] H' R E0)
    (hmo : ∀ H' H'' y, Same H' H'' → key1 H' y → key1 H'' y)
    (hlt : ∀ H' y1 y2, Same H H' → key1 H' y1 → key2 H' y2 → ∃ p1 p2 a1 a2 r1 r2, y1 = .ref p1 ∧ y2 = .ref p2 ∧ SqT X.K H' p1 (.str a1 :: r1) ∧ SqT X.K H' p2 (.str a2 :: r2) ∧ r1.length = r2.length ∧ LtR (EqT X.K H' 6) (LtT X.K H' 6) (.str a2 :: r2) (.str a1 :: r1) gt)
    (hQ : ∀ H' D, Same H H' → H' D = none → Q (.ref D) (upd H' D (.lst (if gt = true then [x2, x1] else [x1, x2])))) :
    wpAny (model X.prog X.w) X.A (call (.builtin "sorted") [.ref l] [(Str.ofString "key", .ref f)]) (EP X pins σ Q) X.xe s := by
  obtain ⟨its, rv, pl, _⟩ := I.list hl
  obtain ⟨u1, u2, e0, ru1, ru2⟩ := rv.two
  subst e0
  obtain ⟨m, F⟩ := I.fr
  refine PySem.W.kat_sortedK (vs := [u1, u2]) (b := false) (f := .ref f) F (news_all (g := X.base) (h := s.heap) (L := X.env.locals)) pl.isList (Nat.le_refl 2) (by show 2 < 64; decide) (ksk_s1 _ _) (fun x => ksk_l1 _ _) (fun x => ksk_t1 _ _) fun D kS e1 h1 F1 N1 hDk hlow => ?_
  have nD := N1 (D, seqObj "list" #[] e1) (.tail _ (.head _))
  have nK := N1 (kS, seqObj "list" #[] 0) (.head _)
  have old : ∀ b o, b ≠ X.env.locals → s.heap.get? b = some o → h1.get? b = some o := fun b o hb e => by
    cases q : X.base.get? b with
    | some u =>
      have := I.bk b u q
      rw [e] at this; cases this
      exact F1.keep b _ q
    | none => exact (N1 (b, o) (.tail _ (.tail _ (mem_allNews hb q e)))).1
  have low : ∀ b o, b ≠ X.env.locals → X.base.get? b = none → s.heap.get? b = some o → b < D := fun b o hb q e => hlow (b, o) (mem_allNews hb q e)
  have sD : s.heap.get? D = none := by
    cases q : s.heap.get? D with
    | none => rfl
    | some o => exact absurd (low D o nD.2.1 nD.2.2 q) (Nat.lt_irrefl _)
  have sK : s.heap.get? kS = none := by
    cases q : s.heap.get? kS with
    | none => rfl
    | some o => exact absurd (Nat.lt_trans hDk (low kS o nK.2.1 nK.2.2 q)) (Nat.lt_irrefl _)
  obtain ⟨yD, hD⟩ := young_of I sD nD.2.1 nD.2.2
  obtain ⟨yK, hK⟩ := young_of I sK nK.2.1 nK.2.2
  have nDK : D ≠ kS := Nat.ne_of_lt hDk
  have nsOf : ∀ {g : Heap} {g' : Heap}, g.Ns X.env.locals m → Fr X.base X.env.locals g' m → ∀ m', g.Ns X.env.locals m' → g'.Ns X.env.locals m' := fun {g g'} hg F' m' hm' => by
    rw [← ns_inj hg hm']; exact F'.ns
  have I1 : Inv X pins σ H { s with heap := h1 } := I.led (t' := s.toks) yD hD (fun b o hb _ e => old b o hb e) (nsOf F.ns F1)
  have yDp : ∀ {o : Obj}, Young X (pins ++ [(kS, o)]) D := fun {o} => ⟨yD.nL, yD.nf, yD.s0, yD.nc, fun p hp => by
    rcases List.mem_append.mp (List.append_assoc X.pn pins _ ▸ hp : p ∈ (X.pn ++ pins) ++ [(kS, o)]) with hp | hp
    · exact yD.np p hp
    · have e1 : p = (kS, o) := by simpa using hp
      rw [e1]; exact Ne.symm nDK, yD.nb⟩
  have yKp : ∀ {o : Obj}, Young X (pins ++ [(D, o)]) kS := fun {o} => ⟨yK.nL, yK.nf, yK.s0, yK.nc, fun p hp => by
    rcases List.mem_append.mp (List.append_assoc X.pn pins _ ▸ hp : p ∈ (X.pn ++ pins) ++ [(D, o)]) with hp | hp
    · exact yK.np p hp
    · have e1 : p = (D, o) := by simpa using hp
      rw [e1]; exact nDK, yK.nb⟩
  -- both records are held fast: D, then kS
  have I1D : Inv X (pins ++ [(D, sqO [] e1)]) σ H { s with heap := h1 } := I1.pin1 yD hD nD.1 (sq_nocell _ _)
  have hold : ∀ {H' : Hp} {s' : Shared} {vs : List Value} {n : Nat}, Inv X (pins ++ [(D, sqO [] e1)]) σ H' s' → H' kS = none → s'.heap.get? kS = some (sqO vs n) → Inv X ((pins ++ [(D, sqO [] e1)]) ++ [(kS, sqO vs n)]) σ H' s' := fun {H' s' vs n} J hn e => J.pin1 yKp hn e (sq_nocell _ _)
  have memK : ∀ {vs : List Value} {n : Nat}, (kS, sqO vs n) ∈ X.pn ++ ((pins ++ [(D, sqO [] e1)]) ++ [(kS, sqO vs n)]) := fun {vs n} => List.mem_append_right _ (List.mem_append_right _ (.head _))
  have memD : ∀ {p : Addr × Obj}, (D, sqO [] e1) ∈ X.pn ++ ((pins ++ [(D, sqO [] e1)]) ++ [p]) := List.mem_append_right _ (List.mem_append_left _ (List.mem_append_right _ (.head _)))
  -- a step at kS: the ledger's own view
  have stepK : ∀ {H' : Hp} {s' : Shared} {vs vs' : List Value} {n c : Nat} {g : Heap}, Inv X ((pins ++ [(D, sqO [] e1)]) ++ [(kS, sqO vs n)]) σ H' s' → s'.heap.Ns X.env.locals m → Fr X.base X.env.locals g m → News X.base X.env.locals g ((kS, sqO vs' c) :: rest X.base s'.heap X.env.locals kS) →
      Inv X (pins ++ [(D, sqO [] e1)]) σ H' { s' with heap := g } ∧ g.get? kS = some (sqO vs' c) ∧ H' kS = none := fun {H' s' vs vs' n c g} J hm Fg Ng => by
    have pk := J.pin _ memK
    refine ⟨J.unpinned.led (t' := s'.toks) yKp pk.2.1 (kept_of_news J.bk Fg fun p hp => Ng p (.tail _ hp)) (nsOf hm Fg), (Ng _ (.head _)).1, pk.2.1⟩
  have I1K : Inv X ((pins ++ [(D, sqO [] e1)]) ++ [(kS, sqO [] 0)]) σ H { s with heap := h1 } := hold I1D hK nK.1
  -- the first key
  refine PySem.W.KatKeys.cons (key_call (m := m) Fk hr hb I1K F1.ns ru1 (hk1 H (Same.refl H) (fun y H'' => Same H H'' ∧ key1 H'' y) fun y H'' a b => ⟨a, b⟩) fun y1 H1 s1 w1 J1 hm1 rw1 ⟨sm1, ky1⟩ => ?_)
  have pk1 := J1.pin _ memK
  refine PySem.W.KatBack.intro (news := (kS, sqO [] 0) :: rest X.base s1.heap X.env.locals kS) (g := fun o => (kS, o) :: rest X.base s1.heap X.env.locals kS) ⟨hm1, J1.bk, F.above⟩ (news_at yK.nL yK.nb pk1.1) (.head rest_ne) fun h2 c2 F2 N2 => ?_
  obtain ⟨J2, eK2, nK2⟩ := stepK (vs' := [w1]) J1 hm1 F2 N2
  have J2K := hold J2 nK2 eK2
  -- the second key
  refine PySem.W.KatKeys.cons (key_call (m := m) Fk hr hb J2K F2.ns ru2 (hk2 H1 sm1 (fun y H'' => Same H1 H'' ∧ key2 H'' y) fun y H'' a b => ⟨a, b⟩) fun y2 H2 s2 w2 J3 hm3 rw2 ⟨sm2, ky2⟩ => ?_)
  have pk3 := J3.pin _ memK
  refine PySem.W.KatBack.intro (news := (kS, sqO [w1] c2) :: rest X.base s2.heap X.env.locals kS) (g := fun o => (kS, o) :: rest X.base s2.heap X.env.locals kS) ⟨hm3, J3.bk, F.above⟩ (news_at yK.nL yK.nb pk3.1) (.head rest_ne) fun h4 c4 F4 N4 => ?_
  obtain ⟨J4, eK4, nK4⟩ := stepK (vs' := [w1, w2]) J3 hm3 F4 N4
  have J4K := hold J4 nK4 eK4
  refine PySem.W.KatKeys.nil ?_
  -- how the keys are compared
  have ky1' := hmo H1 H2 y1 sm2 ky1
  have sm : Same H H2 := sm1.trans sm2
  obtain ⟨p1, p2, a1, a2, r1, r2, ey1, ey2, t1, t2, hlen, hrun⟩ := hlt H2 y1 y2 sm ky1' ky2
  subst ey1 ey2
  cases (show w1 = Value.ref p1 from rw1)
  cases (show w2 = Value.ref p2 from rw2)
  obtain ⟨its1, v1, q1, _⟩ := J4K.tuple t1
  obtain ⟨its2, v2, q2, _⟩ := J4K.tuple t2
  obtain ⟨o1, ho1, hc1, n1, hd1⟩ := id q1
  obtain ⟨o2, ho2, hc2, n2, hd2⟩ := id q2
  have first : ∀ {a : Str} {r : List V} {its : List Value}, Vals (.str a :: r) its → ∃ t, its.toArray[0]? = some (.str a t) := fun {a r its} v => by
    cases v with
    | cons ra t =>
      obtain ⟨tk, rfl⟩ := ra
      exact ⟨tk, by simp⟩
  obtain ⟨tk1, f1⟩ := first v1
  obtain ⟨tk2, f2⟩ := first v2
  have strT : ∀ (M : Model) (hh : Heap) (a : Str) (t : Tok), PySem.W.Looks M hh (typeOf (.str a t)) (.type "str") := fun M hh a t => PySem.W.Looks.of_pure rfl
  refine PySem.W.kat_kind (T := .type "str") (PySem.W.KatTups.cons ho1 hc1 hd1 f1 (PySem.W.KatTups.cons ho2 hc2 hd2 f2 .nil)) (by show 0 < 2; decide) (fun v hv => ?_) (by decide) ?_
  · rcases List.mem_cons.mp hv with rfl | hv
    · exact strT _ _ _ _
    · rw [List.mem_singleton.mp hv]; exact strT _ _ _ _
  have eκ : (Value.type "str" != Value.type "tuple") = true := by decide
  rw [eκ]
  refine kas2 ?_
  show wpAny (model X.prog X.w) X.A.in1.in1 (keyLt' (tuples' true) (.ref p2) (.ref p1)) _ _ _
  have len2 : its2.toArray.size = its1.toArray.size := by
    rw [List.size_toArray, List.size_toArray, ← v1.length, ← v2.length]
    simp [hlen]
  have efin : decide (its2.toArray.size < its1.toArray.size) = false := by rw [len2]; exact decide_eq_false (Nat.lt_irrefl _)
  refine PySem.W.kat_lt ho2 hd2 ho1 hd1 ?_
  rw [efin]
  refine kat_run0 (r := gt) J4K (n := 6) (by show X.A.units + 1 + 1 + 6 < cLine; omega) hrun hlen.symm v2 v1 (fun b h => ltT_str h) ?_
  -- the end: the keys are let go, the list is filled
  have pk4 := J4K.pin _ memK
  refine PySem.W.KatFin.intro (news := (kS, sqO [.ref p1, .ref p2] c4) :: rest X.base h4 X.env.locals kS) (g := fun o => (kS, o) :: rest X.base h4 X.env.locals kS) F4 (news_at yK.nL yK.nb pk4.1) (.head rest_ne) fun h5 c5 F5 N5 => ?_
  obtain ⟨J5, eK5, nK5⟩ := stepK (vs' := []) J4K F4.ns F5 N5
  have pD5 := J5.pin (D, sqO [] e1) (List.mem_append_right _ (List.mem_append_right _ (.head _)))
  refine PySem.W.KasFin.intro (news := (D, sqO [] e1) :: rest X.base h5 X.env.locals D) (g := fun o => (D, o) :: rest X.base h5 X.env.locals D) F5 (news_at yD.nL yD.nb pD5.1) (.head rest_ne) fun h6 c6 F6 N6 => ?_
  have J6 : Inv X pins σ H2 { s2 with heap := h6 } := by
    have J5u := J5.unpinned
    exact Inv.led (s := { s2 with heap := h5 }) (t' := s2.toks) J5u yD pD5.2.1 (kept_of_news J5u.bk F6 fun p hp => N6 p (.tail _ hp)) (nsOf F5.ns F6)
  have eD6 := (N6 _ (.head _)).1
  have out : ∃ ws : List Value, Vals (if gt = true then [x2, x1] else [x1, x2]) ws ∧ h6.get? D = some (sqO ws c6) := by
    cases gt with
    | true => exact ⟨[u2, u1], .cons ru2 (.cons ru1 .nil), eD6⟩
    | false => exact ⟨[u1, u2], .cons ru1 (.cons ru2 .nil), eD6⟩
  obtain ⟨ws, rws, eD⟩ := out
  refine ⟨.ref D, _, J6.track yD pD5.2.1 (o := .lst (if gt = true then [x2, x1] else [x1, x2])) ⟨?_, ws, c6, rws, eD⟩, rfl, hQ H2 D sm pD5.2.1⟩
  cases gt <;> exact Nat.le_trans (show 2 ≤ 1000 by decide) (Nat.le_of_lt (small1000 (Nat.le_refl _)))
/-- sorted(xs, key=f) -/
def SortR (X : Cx) (r : R2) : Prop :=
  ∀ (pins : List (Addr × Obj)) (s : Shared) (σ : St) (H : Hp) (x y : V) (v u : Value) (Q : VK), Inv X pins σ H s → RelV x v → RelV y u → r x y H Q → wpAny (model X.prog X.w) X.A (call (.builtin "sorted") [v] [(Str.ofString "key", u)]) (EP X pins σ Q) X.xe s
theorem b_sorted : bootBuiltins "sorted" = some (.builtin "sorted") := by decide +kernel
def tSorted (r : R2) (t tk : TA) : TE := fun σ H Q => t σ H fun xs H1 => tk σ H1 fun ys H2 => ∃ x y, xs = [x] ∧ ys = [y] ∧ r x y H2 Q
theorem pe_sorted {r : R2} {e : Expr} {kws : List Keyword} {t tk : TA} {p pos : Pos} (hr : SortR X r) (hg : Gl X "sorted") (hm : X.mg "sorted" = none) (ha : PA X [e] t) (hkw : PK X kws tk)
    (he : backTo pos (starEach [e] X.env) = (false, eval e X.env) :: backTo pos (starEach [] X.env) := by rfl) (hpl : (backTo pos (starEach [e] X.env)).any (·.1) = false := by rfl)
    (hall : (backToKw pos (keywordEach kws X.env)).all (·.1.isSome) = true := by rfl) (hnk : (backToKw pos (keywordEach kws X.env)).any (·.1.isNone) = false := by rfl)
    (hks : (backToKw pos (keywordEach kws X.env)).filterMap (·.1) = [Str.ofString "key"] := by rfl) : PE X (.Call (.Name "sorted" p) [e] kws pos) (tSorted r t tk) := by
  intro pins s σ H Q I h
  refine wpAny_Call_Name_kw (ld_blt I hg hm b_sorted ?_)
  refine PyProof.Rows.callWith_kw (thn (ha pos pins s σ H _ I h) fun us s1 ⟨vs, H1, I1, r1, q1⟩ => thn (hkw pos pins s1 σ H1 _ I1 q1) fun ws s2 ⟨zs, H2, I2, rz, q2⟩ => ?_) he hpl hall hnk
  obtain ⟨x, y, e1, e2, q⟩ := q2
  subst e1 e2
  obtain ⟨u, rfl, ru⟩ := r1.one
  obtain ⟨v, rfl, rv⟩ := rz.one
  rw [hks]
  exact hr pins s2 σ H2 x y u v Q I2 ru rv q
/-- xs[::-1], two items -/
def tRev2 (K : PySem.W.Frag) (te ts : TE) : TE := fun σ H Q => te σ H fun x H1 => ts σ H1 fun st H2 => st = .int (-1) ∧ ∃ a x1 x2, x = .ref a ∧ SqL K H2 a [x1, x2] ∧ ∀ p, H2 p = none → Q (.ref p) (upd H2 p (.lst [x2, x1]))
theorem pe_rev2 {e est : Expr} {te ts : TE} {pos p2 : Pos} (he : PE X e te) (hs : PE X est ts) : PE X (.Subscript e (.Slice none none (some est) p2) pos) (tRev2 X.K te ts) := by
  intro pins s σ H Q I h
  refine Subscript_ (thn (he pins s σ H _ I h) fun v s1 ⟨x, H1, I1, r1, q1⟩ => ?_)
  refine wpAny_Slice (wpAny_pure (wpAny_pure (thn (hs pins s1 σ H1 _ I1 q1) fun vs s2 ⟨st, H2, I2, r2, q2⟩ => ?_)))
  obtain ⟨rfl, a, x1, x2, rfl, hl, q⟩ := q2
  cases r1
  obtain ⟨t, rfl⟩ := r2
  have I3 : Inv X pins σ H2 { s2 with heap := s2.heap.push { cls := .type "slice", data := .fields #[.none, .none, .int (-1) t] } } := I2.kept (t' := s2.toks) fun b ob q => Heap.get?_push_of_some _ q
  obtain ⟨its, rv, pl, hz⟩ := I3.list hl
  obtain ⟨u1, u2, e0, ru1, ru2⟩ := rv.two
  subst e0
  show wpAny (model X.prog X.w) X.A (subscriptTail e (.Slice none none (some est) p2) (.ref a) (.ref s2.heap.objs.size)) (EP X pins σ Q) X.xe { s2 with heap := s2.heap.push { cls := .type "slice", data := .fields #[.none, .none, .int (-1) t] } }
  refine tail_any (ops := [.ref a, .ref s2.heap.objs.size]) pl.isList.typeIs slot_list_getitem.lookup ?_ (by with_unfolding_all rfl)
  refine wpAny_getItem_list_slice pl.isList (Heap.IsSliceOf.new ..) .none .none (.int (-1) t) (by simp) ?_ (by simp; exact Nat.le_trans (show 2 ≤ 1000 by decide) (Nat.le_of_lt (small1000 (Nat.le_refl _))))
  have ep : slicePick (List.toArray [u1, u2]) none none (some (-1)) = List.toArray [u2, u1] := by
    unfold slicePick
    have er : sliceRange (sliceBounds none none (some (-1)) 2).1 (sliceBounds none none (some (-1)) 2).2.1 (sliceBounds none none (some (-1)) 2).2.2 = [1, 0] := by decide
    show (List.filterMap (fun i => (List.toArray [u1, u2])[i]?) (sliceRange (sliceBounds none none (some (-1)) 2).1 (sliceBounds none none (some (-1)) 2).2.1 (sliceBounds none none (some (-1)) 2).2.2)).toArray = _
    rw [er]
    rfl
  rw [ep]
  refine ⟨.ref _, _, I3.laid (t' := s2.toks) (o := .lst [x2, x1]) (fun b ob q => Heap.get?_push_of_some _ q) (Nat.le_refl _) ?_, rfl, q _ (I3.hok.fresh (Nat.le_refl _))⟩
  exact ⟨Nat.le_trans (show 2 ≤ 1000 by decide) (Nat.le_of_lt (small1000 (Nat.le_refl _))), [u2, u1], 0, .cons ru2 (.cons ru1 .nil), Heap.get?_push_size _ rfl⟩
end
end L2
/-! DATA LAYER 1: values as data, the mini heap, how they stand for the model's, readings by runs -/
namespace DL
open PySem PySem.Spec PyProof.Rows L2
abbrev St := L2.St

/-- data: scalars, tuples, lists and dicts that never change (any more), and things of the mini heap by number -/
inductive W where
  | non | bl (b : Bool) | int (i : Int) | str (x : Str) | ty (n : String)
  | tup (xs : List W) | lst (xs : List W) | dct (ks : List Key) (vs : List W) | ref (n : Nat)
instance : Inhabited W := ⟨.non⟩
/-- what may change -/
inductive MO where
  | lst (xs : List W) | dct (ks : List Key) (vs : List W)
structure S where
  nxt : Nat
  mu : Nat → Option MO
/-- what a run comes to -/
inductive R (α : Type) where
  | ok (a : α) (s : S) | ex (c : W) (s : S) | stuck
def R.bind {α β : Type} (r : R α) (f : α → S → R β) : R β := match r with
  | .ok a s => f a s
  | .ex c s => .ex c s
  | .stuck => .stuck
abbrev Ga := List (Option W)

section
variable (K : PySem.W.Frag) (ι : Nat → Addr) (N : Nat) (G : Hp)
mutual
inductive RelW : V → W → Prop
  | non : RelW .non .non
  | bl (b : Bool) : RelW (.bl b) (.bl b)
  | int (i : Int) : RelW (.int i) (.int i)
  | str (x : Str) : RelW (.str x) (.str x)
  | ty (n : String) : RelW (.ty n) (.ty n)
  | tup {a : Addr} {xs : List V} {ws : List W} : SqT K G a xs → RelWs xs ws → RelW (.ref a) (.tup ws)
  | lst {a : Addr} {xs : List V} {ws : List W} : SqL K G a xs → RelWs xs ws → RelW (.ref a) (.lst ws)
  | dct {a : Addr} {xs : List V} {ks : List Key} {ws : List W} : G a = some (.dK (ks.zip xs)) → xs.length = ks.length → RelWs xs ws → RelW (.ref a) (.dct ks ws)
  | ref {n : Nat} : n < N → RelW (.ref (ι n)) (.ref n)
inductive RelWs : List V → List W → Prop
  | nil : RelWs [] []
  | cons {x : V} {w : W} {xs : List V} {ws : List W} : RelW x w → RelWs xs ws → RelWs (x :: xs) (w :: ws)
end
end

/-- a later moment: more numbers, more that never changes -/
structure Ext (ι : Nat → Addr) (N : Nat) (G : Hp) (ι' : Nat → Addr) (N' : Nat) (G' : Hp) : Prop where
  le : N ≤ N'
  ag : ∀ n, n < N → ι' n = ι n
  sm : Same G G'
theorem Ext.refl (ι : Nat → Addr) (N : Nat) (G : Hp) : Ext ι N G ι N G := ⟨Nat.le_refl _, fun _ _ => rfl, Same.refl G⟩
theorem Ext.trans {ι ι1 ι2 : Nat → Addr} {N N1 N2 : Nat} {G G1 G2 : Hp} (a : Ext ι N G ι1 N1 G1) (b : Ext ι1 N1 G1 ι2 N2 G2) : Ext ι N G ι2 N2 G2 :=
  ⟨Nat.le_trans a.le b.le, fun n h => (b.ag n (Nat.lt_of_lt_of_le h a.le)).trans (a.ag n h), a.sm.trans b.sm⟩
theorem sqT_same {K : PySem.W.Frag} {H H' : Hp} {a : Addr} {xs : List V} (e : Same H H') (h : SqT K H a xs) : SqT K H' a xs := by
  rcases h with (h | ⟨o, h⟩) | h
  · exact .inl (.inl (e _ _ h))
  · exact .inl (.inr ⟨o, e _ _ h⟩)
  · exact .inr h

section
variable {K : PySem.W.Frag} {ι ι' : Nat → Addr} {N N' : Nat} {G G' : Hp}
theorem RelW.mono (e : Ext ι N G ι' N' G') {v : V} {w : W} (h : RelW K ι N G v w) : RelW K ι' N' G' v w := by
  refine RelW.rec (motive_1 := fun v w _ => RelW K ι' N' G' v w) (motive_2 := fun vs ws _ => RelWs K ι' N' G' vs ws) ?_ ?_ ?_ ?_ ?_ ?_ ?_ ?_ ?_ ?_ ?_ h
  · exact .non
  · exact .bl
  · exact .int
  · exact .str
  · exact .ty
  · intro a xs ws s _ r; exact .tup (sqT_same e.sm s) r
  · intro a xs ws s _ r; exact .lst (e.sm.seq s) r
  · intro a xs ks ws s l _ r; exact .dct (e.sm _ _ s) l r
  · intro n hn; rw [← e.ag n hn]; exact .ref (Nat.lt_of_lt_of_le hn e.le)
  · exact .nil
  · intro x w xs ws _ _ r1 r2; exact .cons r1 r2
theorem RelWs.mono (e : Ext ι N G ι' N' G') : ∀ {vs : List V} {ws : List W}, RelWs K ι N G vs ws → RelWs K ι' N' G' vs ws
  | _, _, .nil => .nil
  | _, _, .cons r t => .cons (r.mono e) (RelWs.mono e t)
theorem RelWs.length : ∀ {vs : List V} {ws : List W}, RelWs K ι N G vs ws → vs.length = ws.length
  | _, _, .nil => rfl
  | _, _, .cons _ t => by rw [List.length_cons, List.length_cons, RelWs.length t]
theorem RelWs.get : ∀ {vs : List V} {ws : List W} {i : Nat} {w : W}, RelWs K ι N G vs ws → ws[i]? = some w → ∃ v, vs[i]? = some v ∧ RelW K ι N G v w
  | _, _, _, _, .nil, e => by simp at e
  | _, _, 0, _, .cons r _, e => by simp at e; subst e; exact ⟨_, rfl, r⟩
  | _, _, i + 1, x, .cons _ t, e => by
    obtain ⟨u, h1, h2⟩ := RelWs.get (i := i) (w := x) t (by simpa using e)
    exact ⟨u, by simpa using h1, h2⟩
theorem RelWs.get' : ∀ {vs : List V} {ws : List W} {i : Nat} {v : V}, RelWs K ι N G vs ws → vs[i]? = some v → ∃ w, ws[i]? = some w ∧ RelW K ι N G v w
  | _, _, _, _, .nil, e => by simp at e
  | _, _, 0, _, .cons r _, e => by simp at e; subst e; exact ⟨_, rfl, r⟩
  | _, _, i + 1, x, .cons _ t, e => by
    obtain ⟨u, h1, h2⟩ := RelWs.get' (i := i) (v := x) t (by simpa using e)
    exact ⟨u, by simpa using h1, h2⟩
theorem RelWs.append : ∀ {vs vs' : List V} {ws ws' : List W}, RelWs K ι N G vs ws → RelWs K ι N G vs' ws' → RelWs K ι N G (vs ++ vs') (ws ++ ws')
  | _, _, _, _, .nil, s => s
  | _, _, _, _, .cons r t, s => .cons r (RelWs.append t s)
theorem RelWs.take : ∀ {vs : List V} {ws : List W} (n : Nat), RelWs K ι N G vs ws → RelWs K ι N G (vs.take n) (ws.take n)
  | _, _, 0, _ => .nil
  | _, _, _ + 1, .nil => .nil
  | _, _, n + 1, .cons r t => .cons r (RelWs.take n t)
theorem RelWs.drop : ∀ {vs : List V} {ws : List W} (n : Nat), RelWs K ι N G vs ws → RelWs K ι N G (vs.drop n) (ws.drop n)
  | _, _, 0, r => r
  | _, _, _ + 1, .nil => .nil
  | _, _, n + 1, .cons _ t => RelWs.drop n t
theorem RelWs.set {v : V} {w : W} (r : RelW K ι N G v w) : ∀ {vs : List V} {ws : List W} (n : Nat), RelWs K ι N G vs ws → RelWs K ι N G (vs.set n v) (ws.set n w)
  | _, _, _, .nil => .nil
  | _, _, 0, .cons _ t => .cons r t
  | _, _, n + 1, .cons q t => .cons q (RelWs.set r n t)
theorem RelWs.reverse {vs : List V} {ws : List W} (r : RelWs K ι N G vs ws) : RelWs K ι N G vs.reverse ws.reverse := by
  induction vs generalizing ws with
  | nil => cases r; exact .nil
  | cons v vs ih =>
    cases r with
    | cons r t => rw [List.reverse_cons, List.reverse_cons]; exact (ih t).append (.cons r .nil)
theorem RelWs.bls : ∀ {vs : List V} {bs : List Bool}, RelWs K ι N G vs (bs.map W.bl) → vs = bs.map V.bl
  | _, [], .nil => rfl
  | _, b :: bs, .cons r t => by cases r; rw [List.map_cons, RelWs.bls t]
theorem RelWs.ofInts (ns : List Int) : RelWs K ι N G (ns.map V.int) (ns.map W.int) := by
  induction ns with
  | nil => exact .nil
  | cons n ns ih => exact .cons (.int n) ih

/-- an object that may change stands as the mini heap has it -/
def MOR (K : PySem.W.Frag) (ι : Nat → Addr) (N : Nat) (G H : Hp) (a : Addr) : MO → Prop
  | .lst ws => ∃ xs, H a = some (.lst xs) ∧ RelWs K ι N G xs ws
  | .dct ks ws => ∃ xs, H a = some (.dK (ks.zip xs)) ∧ xs.length = ks.length ∧ RelWs K ι N G xs ws
structure SR (K : PySem.W.Frag) (ι : Nat → Addr) (st : S) (G H : Hp) : Prop where
  sub : Same G H
  live : ∀ n o, st.mu n = some o → n < st.nxt ∧ G (ι n) = none ∧ MOR K ι st.nxt G H (ι n) o
  inj : ∀ n m o o', st.mu n = some o → st.mu m = some o' → ι n = ι m → n = m
end

/-- the names' values -/
structure EnvR (K : PySem.W.Frag) (ι : Nat → Addr) (N : Nat) (G : Hp) (σ : St) (Γ : Ga) : Prop where
  len : σ.length = Γ.length
  get : ∀ (i : Nat) (w : W), Γ[i]? = some (some w) → ∃ v, σ[i]? = some (some v) ∧ RelW K ι N G v w
theorem EnvR.mono {K : PySem.W.Frag} {ι ι' : Nat → Addr} {N N' : Nat} {G G' : Hp} {σ : St} {Γ : Ga} (e : Ext ι N G ι' N' G') (h : EnvR K ι N G σ Γ) : EnvR K ι' N' G' σ Γ :=
  ⟨h.len, fun i w q => let ⟨v, h1, h2⟩ := h.get i w q; ⟨v, h1, h2.mono e⟩⟩
theorem EnvR.set {K : PySem.W.Frag} {ι : Nat → Addr} {N : Nat} {G : Hp} {σ : St} {Γ : Ga} {v : V} {w : W} (h : EnvR K ι N G σ Γ) (i : Nat) (r : RelW K ι N G v w) : EnvR K ι N G (σ.set i (some v)) (Γ.set i (some w)) := by
  refine ⟨by rw [List.length_set, List.length_set]; exact h.len, fun j u q => ?_⟩
  rw [List.getElem?_set] at q ⊢
  by_cases hij : i = j
  · rw [if_pos hij] at q ⊢
    subst hij
    by_cases hl : i < Γ.length
    · rw [if_pos hl] at q
      rw [if_pos (by rw [h.len]; exact hl)]
      cases q
      exact ⟨v, rfl, r⟩
    · rw [if_neg hl] at q; cases q
  · rw [if_neg hij] at q ⊢
    exact h.get j u q

/-! ### heaps that grow and change -/
section
variable {K : PySem.W.Frag} {ι : Nat → Addr} {st : S} {G H : Hp}
/-- a thing that never changes is laid -/
theorem SR.laid (h : SR K ι st G H) {p : Addr} {o : HO} (hp : H p = none) : SR K ι st (upd G p o) (upd H p o) ∧ Ext ι st.nxt G ι st.nxt (upd G p o) := by
  have hG : G p = none := h.sub.free hp
  have sm : Same G (upd G p o) := fun b u e => by rw [upd_ne (ne_of_none e hG)]; exact e
  have ex : Ext ι st.nxt G ι st.nxt (upd G p o) := ⟨Nat.le_refl _, fun _ _ => rfl, sm⟩
  refine ⟨⟨fun b u e => ?_, fun n m e => ?_, h.inj⟩, ex⟩
  · by_cases hb : b = p
    · subst hb; rw [upd_same] at e ⊢; exact e
    · rw [upd_ne hb] at e ⊢; exact h.sub b u e
  · obtain ⟨h1, h2, h3⟩ := h.live n m e
    have hne : ι n ≠ p := by
      intro z
      cases m with
      | lst ws => obtain ⟨xs, q, _⟩ := h3; rw [z, hp] at q; cases q
      | dct ks ws => obtain ⟨xs, q, _⟩ := h3; rw [z, hp] at q; cases q
    refine ⟨h1, by rw [upd_ne hne]; exact h2, ?_⟩
    cases m with
    | lst ws => obtain ⟨xs, q, r⟩ := h3; exact ⟨xs, by rw [upd_ne hne]; exact q, r.mono ex⟩
    | dct ks ws => obtain ⟨xs, q, l, r⟩ := h3; exact ⟨xs, by rw [upd_ne hne]; exact q, l, r.mono ex⟩
/-- a new thing of the mini heap -/
def S.new (st : S) (o : MO) : S := ⟨st.nxt + 1, fun n => if n = st.nxt then some o else st.mu n⟩
def S.put (st : S) (n : Nat) (o : MO) : S := ⟨st.nxt, fun m => if m = n then some o else st.mu m⟩
theorem SR.newL (h : SR K ι st G H) {p : Addr} {xs : List V} {ws : List W} (hp : H p = none) (r : RelWs K ι st.nxt G xs ws) :
    ∃ ι', Ext ι st.nxt G ι' (st.nxt + 1) G ∧ SR K ι' (st.new (.lst ws)) G (upd H p (.lst xs)) ∧ ι' st.nxt = p := by
  have hG : G p = none := h.sub.free hp
  have ex : Ext ι st.nxt G (fun n => if n = st.nxt then p else ι n) (st.nxt + 1) G := ⟨Nat.le_succ _, fun n hn => if_neg (Nat.ne_of_lt hn), Same.refl G⟩
  have nep : ∀ n o, st.mu n = some o → ι n ≠ p := fun n o e z => by
    obtain ⟨_, _, h3⟩ := h.live n o e
    cases o with
    | lst ws => obtain ⟨xs, q, _⟩ := h3; rw [z, hp] at q; cases q
    | dct ks ws => obtain ⟨xs, q, _⟩ := h3; rw [z, hp] at q; cases q
  refine ⟨fun n => if n = st.nxt then p else ι n, ex, ⟨fun b u e => ?_, fun n o e => ?_, fun n m o o' e e' z => ?_⟩, if_pos rfl⟩
  · rw [upd_ne (ne_of_none e hG)]; exact h.sub b u e
  · by_cases hn : n = st.nxt
    · subst hn
      have e' : (if st.nxt = st.nxt then some (MO.lst ws) else st.mu st.nxt) = some o := e
      rw [if_pos rfl] at e'
      cases e'
      refine ⟨Nat.lt_succ_self _, by (try dsimp only); rw [if_pos rfl]; exact hG, xs, by (try dsimp only); rw [if_pos rfl, upd_same], r.mono ex⟩
    · have e' : (if n = st.nxt then some (MO.lst ws) else st.mu n) = some o := e
      rw [if_neg hn] at e'
      obtain ⟨h1, h2, h3⟩ := h.live n o e'
      have hne := nep n o e'
      refine ⟨Nat.lt_succ_of_lt h1, by (try dsimp only); rw [if_neg hn]; exact h2, ?_⟩
      cases o with
      | lst ws => obtain ⟨xs, q, r⟩ := h3; exact ⟨xs, by (try dsimp only); rw [if_neg hn, upd_ne hne]; exact q, r.mono ex⟩
      | dct ks ws => obtain ⟨xs, q, l, r⟩ := h3; exact ⟨xs, by (try dsimp only); rw [if_neg hn, upd_ne hne]; exact q, l, r.mono ex⟩
  · have e1 : (if n = st.nxt then some (MO.lst ws) else st.mu n) = some o := e
    have e2 : (if m = st.nxt then some (MO.lst ws) else st.mu m) = some o' := e'
    (try dsimp only at z)
    by_cases hn : n = st.nxt
    · by_cases hm : m = st.nxt
      · rw [hn, hm]
      · rw [if_neg hm] at e2
        rw [if_pos hn, if_neg hm] at z
        exact absurd z.symm (nep m o' e2)
    · rw [if_neg hn] at e1
      by_cases hm : m = st.nxt
      · rw [if_neg hn, if_pos hm] at z
        exact absurd z (nep n o e1)
      · rw [if_neg hm] at e2
        rw [if_neg hn, if_neg hm] at z
        exact h.inj n m o o' e1 e2 z
/-- a list of the mini heap becomes another one -/
theorem SR.putL (h : SR K ι st G H) {n : Nat} {o : MO} {xs : List V} {ws : List W} (hn : st.mu n = some o) (r : RelWs K ι st.nxt G xs ws) : SR K ι (st.put n (.lst ws)) G (upd H (ι n) (.lst xs)) := by
  obtain ⟨h1, h2, _⟩ := h.live n o hn
  refine ⟨fun b u e => ?_, fun m u e => ?_, fun a b u u' e e' z => ?_⟩
  · rw [upd_ne (ne_of_none e h2)]; exact h.sub b u e
  · have e' : (if m = n then some (MO.lst ws) else st.mu m) = some u := e
    by_cases hm : m = n
    · subst hm
      rw [if_pos rfl] at e'
      cases e'
      exact ⟨h1, h2, xs, upd_same, r⟩
    · rw [if_neg hm] at e'
      obtain ⟨g1, g2, g3⟩ := h.live m u e'
      have hne : ι m ≠ ι n := fun z => hm (h.inj m n u o e' hn z)
      refine ⟨g1, g2, ?_⟩
      cases u with
      | lst ws => obtain ⟨xs, q, r⟩ := g3; exact ⟨xs, by rw [upd_ne hne]; exact q, r⟩
      | dct ks ws => obtain ⟨xs, q, l, r⟩ := g3; exact ⟨xs, by rw [upd_ne hne]; exact q, l, r⟩
  · have e1 : (if a = n then some (MO.lst ws) else st.mu a) = some u := e
    have e2 : (if b = n then some (MO.lst ws) else st.mu b) = some u' := e'
    have l1 : ∃ o, st.mu a = some o := by
      by_cases q : a = n
      · exact ⟨o, by rw [q]; exact hn⟩
      · rw [if_neg q] at e1; exact ⟨u, e1⟩
    have l2 : ∃ o, st.mu b = some o := by
      by_cases q : b = n
      · exact ⟨o, by rw [q]; exact hn⟩
      · rw [if_neg q] at e2; exact ⟨u', e2⟩
    obtain ⟨o1, l1⟩ := l1
    obtain ⟨o2, l2⟩ := l2
    exact h.inj a b o1 o2 l1 l2 z
end

/-! ### readings by runs -/
/-- an exception that stands for c (none so far) -/
def ExcV (X : Cx) (e : Value) (c : W) (s : Shared) : Prop := True
def XW (X : Cx) (ι : Nat → Addr) (N : Nat) (G : Hp) (c : W) (st' : S) : Prop :=
  ∀ (pins : List (Addr × Obj)) (σ : St) (H' : Hp) (ι' : Nat → Addr) (G' : Hp) (e : Value) (s' : Shared), Ext ι N G ι' st'.nxt G' → Inv X pins σ H' s' → SR X.K ι' st' G' H' → ExcV X e c s' → X.xe e s'
theorem XW.mono {X : Cx} {ι ι1 : Nat → Addr} {N N1 : Nat} {G G1 : Hp} {c : W} {st' : S} (e : Ext ι N G ι1 N1 G1) (h : XW X ι N G c st') : XW X ι1 N1 G1 c st' :=
  fun pins σ H' ι' G' x s' e' I r q => h pins σ H' ι' G' x s' (e.trans e') I r q
/-- a run's end, from the moment (ι, N, G) -/
def wpR (X : Cx) {α : Type} (Rel : (ι : Nat → Addr) → Nat → Hp → α → V → Prop) (ι : Nat → Addr) (N : Nat) (G : Hp) (r : R α) (Q : VK) : Prop := match r with
  | .ok w st' => ∀ v ι' G' H', Ext ι N G ι' st'.nxt G' → SR X.K ι' st' G' H' → Rel ι' st'.nxt G' w v → Q v H'
  | .ex c st' => XW X ι N G c st'
  | .stuck => False
abbrev RW (X : Cx) : (ι : Nat → Addr) → Nat → Hp → W → V → Prop := fun ι N G w v => RelW X.K ι N G v w
abbrev wpW (X : Cx) := wpR X (RW X)
theorem wpW.bind {X : Cx} {ι : Nat → Addr} {N : Nat} {G : Hp} {r : R W} {f : W → S → R W} {Q Q' : VK} (h : wpW X ι N G (r.bind f) Q)
    (k : ∀ w st' v ι' G' H', r = .ok w st' → Ext ι N G ι' st'.nxt G' → SR X.K ι' st' G' H' → RelW X.K ι' st'.nxt G' v w → wpW X ι' st'.nxt G' (f w st') Q → Q' v H') : wpW X ι N G r Q' := by
  cases r with
  | stuck => exact h
  | ex c s => exact h
  | ok w st' =>
    intro v ι' G' H' e sr rel
    refine k w st' v ι' G' H' rfl e sr rel ?_
    have h' : wpW X ι N G (f w st') Q := h
    cases q : f w st' with
    | stuck => rw [q] at h'; exact h'
    | ex c s => rw [q] at h'; exact XW.mono e h'
    | ok w2 st2 =>
      rw [q] at h'
      exact fun v2 ι2 G2 H2 e2 sr2 rel2 => h' v2 ι2 G2 H2 (e.trans e2) sr2 rel2
theorem wpW.mono {X : Cx} {ι : Nat → Addr} {N : Nat} {G : Hp} {r : R W} {Q Q' : VK} (h : wpW X ι N G r Q) (k : ∀ v H, Q v H → Q' v H) : wpW X ι N G r Q' := by
  cases r with
  | stuck => exact h
  | ex c s => exact h
  | ok w st' => exact fun v ι' G' H' e sr rel => k _ _ (h v ι' G' H' e sr rel)
theorem wpW.later {X : Cx} {ι ι1 : Nat → Addr} {N N1 : Nat} {G G1 : Hp} {r : R W} {Q : VK} (e : Ext ι N G ι1 N1 G1) (h : wpW X ι N G r Q) : wpW X ι1 N1 G1 r Q := by
  cases r with
  | stuck => exact h
  | ex c s => exact XW.mono e h
  | ok w st' => exact fun v ι' G' H' e' sr rel => h v ι' G' H' (e.trans e') sr rel

abbrev Run := Ga → S → R W
/-- an expression's reading by its run -/
def tD (X : Cx) (run : Run) : TE := fun σ H Q => ∃ ι G st Γ, EnvR X.K ι st.nxt G σ Γ ∧ SR X.K ι st G H ∧ wpW X ι st.nxt G (run Γ st) Q
abbrev PD (X : Cx) (e : Expr) (run : Run) : Prop := PE X e (tD X run)
theorem PE.imp {X : Cx} {e : Expr} {t t' : TE} (h : PE X e t) (k : ∀ σ H Q, t' σ H Q → t σ H Q) : PE X e t' := fun pins s σ H Q I q => h pins s σ H Q I (k σ H Q q)
theorem PT.imp {X : Cx} {e : Expr} {t t' : TT} (h : PT X e t) (k : ∀ σ H Q, t' σ H Q → t σ H Q) : PT X e t' := fun pins s σ H Q I q => h pins s σ H Q I (k σ H Q q)
theorem PS.imp {X : Cx} {e : Stmt} {t t' : TS} (h : PS X e t) (k : ∀ D σ H, t' D σ H → t D σ H) : PS X e t' := fun pins s σ H D I q => h pins s σ H D I (k D σ H q)
theorem PSs.imp {X : Cx} {e : List Stmt} {t t' : TS} (h : PSs X e t) (k : ∀ D σ H, t' D σ H → t D σ H) : PSs X e t' := fun pins s σ H D I q => h pins s σ H D I (k D σ H q)
theorem PA.imp {X : Cx} {e : List Expr} {t t' : TA} (h : PA X e t) (k : ∀ σ H Q, t' σ H Q → t σ H Q) : PA X e t' := fun pos pins s σ H Q I q => h pos pins s σ H Q I (k σ H Q q)

/-- a test's reading: its value is a truth -/
def tDT (X : Cx) (run : Run) : TT := fun σ H Q => tD X run σ H fun v H' => ∃ b, v = .bl b ∧ Q b H'
/-- the heap is in a known moment: from readings' ends -/
def Mo (X : Cx) (ι : Nat → Addr) (G : Hp) (st : S) (σ : St) (Γ : Ga) (H : Hp) : Prop := EnvR X.K ι st.nxt G σ Γ ∧ SR X.K ι st G H

/-! ### names, constants -/
section
variable {X : Cx}
def rVar (i : Nat) : Run := fun Γ st => match Γ[i]? with
  | some (some w) => .ok w st
  | _ => .stuck
theorem pd_var {i : Nat} {x : Str} {pos : Pos} (hN : X.N[i]? = some x) (hv : Vis X.env.scope x) (hd : (x == ("__debug__" : Str)) = false) (hcd : (x == ("__classdict__" : Str)) = false) : PD X (.Name x pos) (rVar i) := by
  refine PE.imp (pe_var hN hv hd hcd) fun σ H Q h => ?_
  obtain ⟨ι, G, st, Γ, en, sr, q⟩ := h
  unfold rVar at q
  cases e : Γ[i]? with
  | none => rw [e] at q; exact q.elim
  | some o =>
    cases o with
    | none => rw [e] at q; exact q.elim
    | some w =>
      rw [e] at q
      obtain ⟨v, h1, h2⟩ := en.get i w e
      exact ⟨v, h1, q v ι G H (Ext.refl _ _ _) sr h2⟩
def rCon (w : W) : Run := fun _ st => .ok w st
theorem pd_con {e : Expr} {v : V} {w : W} (h : PE X e (tC v)) (r : ∀ ι N G, RelW X.K ι N G v w) : PD X e (rCon w) := by
  refine PE.imp h fun σ H Q h => ?_
  obtain ⟨ι, G, st, Γ, en, sr, q⟩ := h
  exact q v ι G H (Ext.refl _ _ _) sr (r _ _ _)

/-! ### operations -/
/-- two values in, a run -/
abbrev Op2 := W → W → S → R W
def OpW (X : Cx) (f : Value → Value → Sem Value) (op : Op2) : Prop :=
  ∀ (pins : List (Addr × Obj)) (s : Shared) (σ : St) (H : Hp) (ι : Nat → Addr) (G : Hp) (st : S) (x y : V) (w1 w2 : W) (v u : Value) (Q : VK), Inv X pins σ H s → SR X.K ι st G H → RelV x v → RelV y u → RelW X.K ι st.nxt G x w1 → RelW X.K ι st.nxt G y w2 →
    wpW X ι st.nxt G (op w1 w2 st) Q → wpAny (model X.prog X.w) X.A (f v u) (EP X pins σ Q) X.xe s
/-- both may be read out of the relation: an operation that the layer has -/
theorem OpW.of {f : Value → Value → Sem Value} {r : R2} {op : Op2} (h : OpR X f r)
    (k : ∀ H ι G st x y w1 w2 Q, SR X.K ι st G H → RelW X.K ι st.nxt G x w1 → RelW X.K ι st.nxt G y w2 → wpW X ι st.nxt G (op w1 w2 st) Q → r x y H Q) : OpW X f op :=
  fun pins s σ H ι G st x y w1 w2 v u Q I sr rx ry r1 r2 q => h pins s σ H x y v u Q I rx ry (k H ι G st x y w1 w2 Q sr r1 r2 q)
/-- the operation as a relation -/
def rOp (X : Cx) (op : Op2) : R2 := fun x y H Q => ∃ ι G st w1 w2, SR X.K ι st G H ∧ RelW X.K ι st.nxt G x w1 ∧ RelW X.K ι st.nxt G y w2 ∧ wpW X ι st.nxt G (op w1 w2 st) Q
theorem OpW.r {f : Value → Value → Sem Value} {op : Op2} (h : OpW X f op) : OpR X f (rOp X op) :=
  fun pins s σ H x y v u Q I rx ry ⟨ι, G, st, w1, w2, sr, r1, r2, q⟩ => h pins s σ H ι G st x y w1 w2 v u Q I sr rx ry r1 r2 q
def run2 (ra rb : Run) (op : Op2) : Run := fun Γ st => (ra Γ st).bind fun w1 st1 => (rb Γ st1).bind fun w2 st2 => op w1 w2 st2
theorem tD_op {ra rb : Run} {op : Op2} {σ : St} {H : Hp} {Q : VK} (h : tD X (run2 ra rb op) σ H Q) : tOp (rOp X op) (tD X ra) (tD X rb) σ H Q := by
  obtain ⟨ι, G, st, Γ, en, sr, q⟩ := h
  refine ⟨ι, G, st, Γ, en, sr, wpW.bind q fun w1 st1 v1 ι1 G1 H1 _ e1 sr1 r1 q1 => ?_⟩
  refine ⟨ι1, G1, st1, Γ, en.mono e1, sr1, wpW.bind q1 fun w2 st2 v2 ι2 G2 H2 _ e2 sr2 r2 q2 => ?_⟩
  exact ⟨ι2, G2, st2, w1, w2, sr2, r1.mono e2, r2, q2⟩
theorem pd_op {a b : Expr} {op : Operator} {pos : Pos} {ra rb : Run} {o : Op2} (ho : OpW X (binaryOp op) o) (ha : PD X a ra) (hb : PD X b rb) : PD X (.BinOp a op b pos) (run2 ra rb o) :=
  PE.imp (pe_op ho.r ha hb) fun _ _ _ h => tD_op h
theorem pd_cmp {a b : Expr} {op : CmpOp} {pos : Pos} {ra rb : Run} {o : Op2} (ho : OpW X (compareOp op) o) (ha : PD X a ra) (hb : PD X b rb) (hm : behindInMarks op b = false) : PD X (.Compare a [op] [b] pos) (run2 ra rb o) :=
  PE.imp (pe_cmpR ho.r ha hb hm) fun _ _ _ h => tD_op h
theorem pdt_cmp {a b : Expr} {op : CmpOp} {pos : Pos} {ra rb : Run} {o : Op2} (ho : OpW X (compareOp op) o) (ha : PD X a ra) (hb : PD X b rb) (hm : behindInMarks op b = false) : PT X (.Compare a [op] [b] pos) (tDT X (run2 ra rb o)) :=
  PT.imp (pt_cmpR ho.r ha hb hm) fun _ _ _ h => tD_op h
def runC (ra rb rc : Run) (o o' : Op2) : Run := fun Γ st => (ra Γ st).bind fun w1 st1 => (rb Γ st1).bind fun w2 st2 => (o w1 w2 st2).bind fun w st3 => match w with
  | .bl true => (rc Γ st3).bind fun w3 st4 => o' w2 w3 st4
  | .bl false => .ok (.bl false) st3
  | _ => .stuck
theorem tD_chain {ra rb rc : Run} {o o' : Op2} {σ : St} {H : Hp} {Q : VK} (h : tD X (runC ra rb rc o o') σ H Q) : tChain (rOp X o) (rOp X o') (tD X ra) (tD X rb) (tD X rc) σ H Q := by
  obtain ⟨ι, G, st, Γ, en, sr, q⟩ := h
  refine ⟨ι, G, st, Γ, en, sr, wpW.bind q fun w1 st1 v1 ι1 G1 H1 _ e1 sr1 r1 q1 => ?_⟩
  refine ⟨ι1, G1, st1, Γ, en.mono e1, sr1, wpW.bind q1 fun w2 st2 v2 ι2 G2 H2 _ e2 sr2 r2 q2 => ?_⟩
  refine ⟨ι2, G2, st2, w1, w2, sr2, r1.mono e2, r2, wpW.bind q2 fun w st3 v ι3 G3 H3 _ e3 sr3 r3 q3 => ?_⟩
  cases w with
  | bl b =>
    cases r3
    refine ⟨b, rfl, ?_⟩
    cases b with
    | false => rw [if_neg Bool.false_ne_true]; exact q3 _ ι3 G3 H3 (Ext.refl _ _ _) sr3 (.bl false)
    | true =>
      rw [if_pos rfl]
      refine ⟨ι3, G3, st3, Γ, ((en.mono e1).mono e2).mono e3, sr3, wpW.bind q3 fun w3 st4 v3 ι4 G4 H4 _ e4 sr4 r4 q4 => ?_⟩
      exact ⟨ι4, G4, st4, w2, w3, sr4, (r2.mono e3).mono e4, r4, q4⟩
  | _ => exact (show False from q3).elim
theorem pd_chain {a b c : Expr} {op op' : CmpOp} {pos : Pos} {ra rb rc : Run} {o o' : Op2} (ho : OpW X (compareOp op) o) (ho' : OpW X (compareOp op') o') (ha : PD X a ra) (hb : PD X b rb) (hc : PD X c rc) (hm : lastMarks [op, op'] [b, c] = false) :
    PD X (.Compare a [op, op'] [b, c] pos) (runC ra rb rc o o') := PE.imp (pe_chain ho.r ho'.r ha hb hc hm) fun _ _ _ h => tD_chain h
theorem pdt_chain {a b c : Expr} {op op' : CmpOp} {pos : Pos} {ra rb rc : Run} {o o' : Op2} (ho : OpW X (compareOp op) o) (ho' : OpW X (compareOp op') o') (ha : PD X a ra) (hb : PD X b rb) (hc : PD X c rc) (hm : lastMarks [op, op'] [b, c] = false) :
    PT X (.Compare a [op, op'] [b, c] pos) (tDT X (runC ra rb rc o o')) := PT.imp (pt_chain ho.r ho'.r ha hb hc hm) fun _ _ _ h => tD_chain h

/-! ### and, or, not, if -/
def runAnd (ra rb : Run) : Run := fun Γ st => (ra Γ st).bind fun w st1 => match w with
  | .bl true => rb Γ st1
  | .bl false => .ok (.bl false) st1
  | _ => .stuck
def runOr (ra rb : Run) : Run := fun Γ st => (ra Γ st).bind fun w st1 => match w with
  | .bl true => .ok (.bl true) st1
  | .bl false => rb Γ st1
  | _ => .stuck
def runNot (ra : Run) : Run := fun Γ st => (ra Γ st).bind fun w st1 => match w with
  | .bl b => .ok (.bl (!b)) st1
  | _ => .stuck
def runIf (rc ra rb : Run) : Run := fun Γ st => (rc Γ st).bind fun w st1 => match w with
  | .bl true => ra Γ st1
  | .bl false => rb Γ st1
  | _ => .stuck
theorem pd_one {a : Expr} {op : BoolOp} {pos : Pos} {ra : Run} (ha : PD X a ra) : PD X (.BoolOp op [a] pos) ra := pe_one ha
theorem pd_and {a b : Expr} {rest : List Expr} {pos : Pos} {ra rb : Run} (ha : PD X a ra) (hb : PD X (.BoolOp .And (b :: rest) pos) rb) : PD X (.BoolOp .And (a :: b :: rest) pos) (runAnd ra rb) := by
  refine PE.imp (pe_and ha hb) fun σ H Q h => ?_
  obtain ⟨ι, G, st, Γ, en, sr, q⟩ := h
  refine ⟨ι, G, st, Γ, en, sr, wpW.bind q fun w st1 v ι1 G1 H1 _ e1 sr1 r1 q1 => ?_⟩
  cases w with
  | bl b =>
    cases r1
    refine ⟨b, rfl, ?_⟩
    cases b with
    | false => rw [if_neg Bool.false_ne_true]; exact q1 _ ι1 G1 H1 (Ext.refl _ _ _) sr1 (.bl false)
    | true => rw [if_pos rfl]; exact ⟨ι1, G1, st1, Γ, en.mono e1, sr1, q1⟩
  | _ => exact (show False from q1).elim
theorem pd_or {a b : Expr} {rest : List Expr} {pos : Pos} {ra rb : Run} (ha : PD X a ra) (hb : PD X (.BoolOp .Or (b :: rest) pos) rb) : PD X (.BoolOp .Or (a :: b :: rest) pos) (runOr ra rb) := by
  refine PE.imp (pe_or ha hb) fun σ H Q h => ?_
  obtain ⟨ι, G, st, Γ, en, sr, q⟩ := h
  refine ⟨ι, G, st, Γ, en, sr, wpW.bind q fun w st1 v ι1 G1 H1 _ e1 sr1 r1 q1 => ?_⟩
  cases w with
  | bl b =>
    cases r1
    refine ⟨b, rfl, ?_⟩
    cases b with
    | true => rw [if_pos rfl]; exact q1 _ ι1 G1 H1 (Ext.refl _ _ _) sr1 (.bl true)
    | false => rw [if_neg Bool.false_ne_true]; exact ⟨ι1, G1, st1, Γ, en.mono e1, sr1, q1⟩
  | _ => exact (show False from q1).elim
theorem pd_not {a : Expr} {pos : Pos} {ra : Run} (ha : PD X a ra) : PD X (.UnaryOp .Not a pos) (runNot ra) := by
  refine PE.imp (pe_not ha) fun σ H Q h => ?_
  obtain ⟨ι, G, st, Γ, en, sr, q⟩ := h
  refine ⟨ι, G, st, Γ, en, sr, wpW.bind q fun w st1 v ι1 G1 H1 _ e1 sr1 r1 q1 => ?_⟩
  cases w with
  | bl b => cases r1; exact ⟨b, rfl, q1 _ ι1 G1 H1 (Ext.refl _ _ _) sr1 (.bl _)⟩
  | _ => exact (show False from q1).elim
theorem pdt_not {a : Expr} {pos : Pos} {ra : Run} (ha : PT X a (tDT X ra)) : PT X (.UnaryOp .Not a pos) (tDT X (runNot ra)) := by
  refine PT.imp (pt_not ha) fun σ H Q h => ?_
  obtain ⟨ι, G, st, Γ, en, sr, q⟩ := h
  refine ⟨ι, G, st, Γ, en, sr, wpW.bind q fun w st1 v ι1 G1 H1 _ e1 sr1 r1 q1 => ?_⟩
  cases w with
  | bl b =>
    cases r1
    obtain ⟨b', e, q'⟩ := q1 _ ι1 G1 H1 (Ext.refl _ _ _) sr1 (.bl _)
    cases e
    exact ⟨b, rfl, q'⟩
  | _ => exact (show False from q1).elim
theorem pwt_one {a : Expr} {op : BoolOp} {pos : Pos} {ra : Run} (ha : PT X a (tDT X ra)) : PW X (.BoolOp op [a] pos) (tDT X ra) := by
  cases op with
  | And => exact pw_and1 ha
  | Or => exact pw_or1 ha
theorem PW.imp {e : Expr} {t t' : TT} (h : PW X e t) (k : ∀ σ H Q, t' σ H Q → t σ H Q) : PW X e t' := fun whole pins s σ H Q I q => h whole pins s σ H Q I (k σ H Q q)
theorem pwt_and {a b : Expr} {rest : List Expr} {pos : Pos} {ra rb : Run} (ha : PT X a (tDT X ra)) (hb : PW X (.BoolOp .And (b :: rest) pos) (tDT X rb)) : PW X (.BoolOp .And (a :: b :: rest) pos) (tDT X (runAnd ra rb)) := by
  refine PW.imp (pw_and ha hb) fun σ H Q h => ?_
  obtain ⟨ι, G, st, Γ, en, sr, q⟩ := h
  refine ⟨ι, G, st, Γ, en, sr, wpW.bind q fun w st1 v ι1 G1 H1 _ e1 sr1 r1 q1 => ?_⟩
  cases w with
  | bl b =>
    cases r1
    refine ⟨b, rfl, ?_⟩
    cases b with
    | false =>
      rw [if_neg Bool.false_ne_true]
      obtain ⟨b', e, q'⟩ := q1 _ ι1 G1 H1 (Ext.refl _ _ _) sr1 (.bl false)
      cases e; exact q'
    | true => rw [if_pos rfl]; exact ⟨ι1, G1, st1, Γ, en.mono e1, sr1, q1⟩
  | _ => exact (show False from q1).elim
theorem pwt_or {a b : Expr} {rest : List Expr} {pos : Pos} {ra rb : Run} (ha : PT X a (tDT X ra)) (hb : PW X (.BoolOp .Or (b :: rest) pos) (tDT X rb)) : PW X (.BoolOp .Or (a :: b :: rest) pos) (tDT X (runOr ra rb)) := by
  refine PW.imp (pw_or ha hb) fun σ H Q h => ?_
  obtain ⟨ι, G, st, Γ, en, sr, q⟩ := h
  refine ⟨ι, G, st, Γ, en, sr, wpW.bind q fun w st1 v ι1 G1 H1 _ e1 sr1 r1 q1 => ?_⟩
  cases w with
  | bl b =>
    cases r1
    refine ⟨b, rfl, ?_⟩
    cases b with
    | true =>
      rw [if_pos rfl]
      obtain ⟨b', e, q'⟩ := q1 _ ι1 G1 H1 (Ext.refl _ _ _) sr1 (.bl true)
      cases e; exact q'
    | false => rw [if_neg Bool.false_ne_true]; exact ⟨ι1, G1, st1, Γ, en.mono e1, sr1, q1⟩
  | _ => exact (show False from q1).elim
theorem pd_if {c a b : Expr} {pos : Pos} {rc ra rb : Run} (hc : PT X c (tDT X rc)) (ha : PD X a ra) (hb : PD X b rb) : PD X (.IfExp c a b pos) (runIf rc ra rb) := by
  refine PE.imp (pe_ifExp hc ha hb) fun σ H Q h => ?_
  obtain ⟨ι, G, st, Γ, en, sr, q⟩ := h
  refine ⟨ι, G, st, Γ, en, sr, wpW.bind q fun w st1 v ι1 G1 H1 _ e1 sr1 r1 q1 => ?_⟩
  cases w with
  | bl b =>
    cases r1
    refine ⟨b, rfl, ?_⟩
    cases b with
    | true => rw [if_pos rfl]; exact ⟨ι1, G1, st1, Γ, en.mono e1, sr1, q1⟩
    | false => rw [if_neg Bool.false_ne_true]; exact ⟨ι1, G1, st1, Γ, en.mono e1, sr1, q1⟩
  | _ => exact (show False from q1).elim
/-- a test whose value is a truth -/
theorem pdt_val {e : Expr} {r : Run} (h : PD X e r) (he : ∀ whole, isTrue e X.env whole = (do let v ← whole; standAt e.pos; holding [v] (truthy v))) : PT X e (tDT X r) := pt_val h he

/-! ### argument lists -/
abbrev Runs := Ga → S → R (List W)
def tDA (X : Cx) (run : Runs) : TA := fun σ H Q => ∃ ι G st Γ, EnvR X.K ι st.nxt G σ Γ ∧ SR X.K ι st G H ∧ (match run Γ st with
  | .ok ws st' => ∀ vs ι' G' H', Ext ι st.nxt G ι' st'.nxt G' → SR X.K ι' st' G' H' → RelWs X.K ι' st'.nxt G' vs ws → Q vs H'
  | .ex c st' => XW X ι st.nxt G c st'
  | .stuck => False)
abbrev PDA (X : Cx) (es : List Expr) (run : Runs) : Prop := PA X es (tDA X run)
def runsNil : Runs := fun _ st => .ok [] st
def runsCons (ra : Run) (rr : Runs) : Runs := fun Γ st => (ra Γ st).bind fun w st1 => (rr Γ st1).bind fun ws st2 => .ok (w :: ws) st2
theorem pda_nil : PDA X [] runsNil := by
  refine PA.imp pa_nil fun σ H Q h => ?_
  obtain ⟨ι, G, st, Γ, en, sr, q⟩ := h
  exact q [] ι G H (Ext.refl _ _ _) sr .nil
theorem pda_cons {e : Expr} {es : List Expr} {ra : Run} {rr : Runs} (ha : PD X e ra) (hr : PDA X es rr) (hs : starEach (e :: es) X.env = (false, eval e X.env) :: starEach es X.env) : PDA X (e :: es) (runsCons ra rr) := by
  refine PA.imp (pa_cons ha hr hs) fun σ H Q h => ?_
  obtain ⟨ι, G, st, Γ, en, sr, q⟩ := h
  refine ⟨ι, G, st, Γ, en, sr, ?_⟩
  unfold runsCons at q
  cases e1 : ra Γ st with
  | stuck => rw [e1] at q; exact q
  | ex c s => rw [e1] at q; exact q
  | ok w st1 =>
    rw [e1] at q
    intro v ι1 G1 H1 x1 sr1 r1
    refine ⟨ι1, G1, st1, Γ, en.mono x1, sr1, ?_⟩
    have q' : match (rr Γ st1).bind fun ws st2 => R.ok (w :: ws) st2 with
      | .ok ws st' => ∀ vs ι' G' H', Ext ι st.nxt G ι' st'.nxt G' → SR X.K ι' st' G' H' → RelWs X.K ι' st'.nxt G' vs ws → Q vs H'
      | .ex c st' => XW X ι st.nxt G c st'
      | .stuck => False := q
    cases e2 : rr Γ st1 with
    | stuck => rw [e2] at q'; exact q'
    | ex c s => rw [e2] at q'; exact XW.mono x1 q'
    | ok ws st2 =>
      rw [e2] at q'
      exact fun vs ι2 G2 H2 x2 sr2 r2 => q' (v :: vs) ι2 G2 H2 (x1.trans x2) sr2 (.cons (r1.mono x2) r2)
/-- a call by values -/
abbrev OpN := List W → S → R W
def runN (rr : Runs) (op : OpN) : Run := fun Γ st => (rr Γ st).bind op
theorem tD_args {rr : Runs} {op : OpN} {σ : St} {H : Hp} {Q : VK} {Q' : List V → Hp → Prop} (h : tD X (runN rr op) σ H Q)
    (k : ∀ ws st' vs ι' G' H', SR X.K ι' st' G' H' → RelWs X.K ι' st'.nxt G' vs ws → wpW X ι' st'.nxt G' (op ws st') Q → Q' vs H') : tDA X rr σ H Q' := by
  obtain ⟨ι, G, st, Γ, en, sr, q⟩ := h
  refine ⟨ι, G, st, Γ, en, sr, ?_⟩
  unfold runN at q
  cases e1 : rr Γ st with
  | stuck => rw [e1] at q; exact q
  | ex c s => rw [e1] at q; exact q
  | ok ws st1 =>
    rw [e1] at q
    intro vs ι1 G1 H1 x1 sr1 r1
    exact k ws st1 vs ι1 G1 H1 sr1 r1 (wpW.later x1 (show wpW X ι st.nxt G (op ws st1) Q from q))
def CallW (X : Cx) (f : Value) (op : OpN) : Prop :=
  ∀ (pins : List (Addr × Obj)) (s : Shared) (σ : St) (H : Hp) (ι : Nat → Addr) (G : Hp) (st : S) (xs : List V) (ws : List W) (us : List Value) (Q : VK), Inv X pins σ H s → SR X.K ι st G H → Vals xs us → RelWs X.K ι st.nxt G xs ws →
    wpW X ι st.nxt G (op ws st) Q → wpAny (model X.prog X.w) X.A (call f us) (EP X pins σ Q) X.xe s
def rCall (X : Cx) (op : OpN) : List V → Hp → VK → Prop := fun xs H Q => ∃ ι G st ws, SR X.K ι st G H ∧ RelWs X.K ι st.nxt G xs ws ∧ wpW X ι st.nxt G (op ws st) Q
theorem CallW.r {f : Value} {op : OpN} (h : CallW X f op) : CallR X f (rCall X op) := fun pins s σ H xs us Q I r ⟨ι, G, st, ws, sr, r1, q⟩ => h pins s σ H ι G st xs ws us Q I sr r r1 q
theorem CallW.of {f : Value} {r : List V → Hp → VK → Prop} {op : OpN} (h : CallR X f r)
    (k : ∀ H ι G st xs ws Q, SR X.K ι st G H → RelWs X.K ι st.nxt G xs ws → wpW X ι st.nxt G (op ws st) Q → r xs H Q) : CallW X f op :=
  fun pins s σ H ι G st xs ws us Q I sr rv r1 q => h pins s σ H xs us Q I rv (k H ι G st xs ws Q sr r1 q)
theorem tD_callB {rr : Runs} {op : OpN} {σ : St} {H : Hp} {Q : VK} (h : tD X (runN rr op) σ H Q) : tCB (rCall X op) (tDA X rr) σ H Q :=
  tD_args h fun ws st' vs ι' G' H' sr r q => ⟨ι', G', st', ws, sr, r, q⟩
/-- tuples and lists as displays -/
def opTup : OpN := fun ws st => if ws.length ≤ sizeLine then .ok (.tup ws) st else .stuck
def opLst : OpN := fun ws st => if ws.length ≤ sizeLine then .ok (.lst ws) st else .stuck
def opNewL : OpN := fun ws st => if ws.length ≤ sizeLine then .ok (.ref st.nxt) (st.new (.lst ws)) else .stuck
theorem tup_laid {ι : Nat → Addr} {G H : Hp} {st : S} {xs : List V} {ws : List W} {Q : VK} (sr : SR X.K ι st G H) (r : RelWs X.K ι st.nxt G xs ws) (q : wpW X ι st.nxt G (opTup ws st) Q) : xs.length ≤ sizeLine ∧ ∀ p, H p = none → Q (.ref p) (upd H p (.tup xs)) := by
  unfold opTup at q
  by_cases hl : ws.length ≤ sizeLine
  · rw [if_pos hl] at q
    refine ⟨by rw [r.length]; exact hl, fun p hp => ?_⟩
    obtain ⟨s2, e2⟩ := sr.laid (o := .tup xs) hp
    exact q _ ι _ _ e2 s2 (.tup (.inl (.inl upd_same)) (r.mono e2))
  · rw [if_neg hl] at q; exact q.elim
theorem lst_laid {ι : Nat → Addr} {G H : Hp} {st : S} {xs : List V} {ws : List W} {Q : VK} (sr : SR X.K ι st G H) (r : RelWs X.K ι st.nxt G xs ws) (q : wpW X ι st.nxt G (opLst ws st) Q) : xs.length ≤ sizeLine ∧ ∀ p, H p = none → Q (.ref p) (upd H p (.lst xs)) := by
  unfold opLst at q
  by_cases hl : ws.length ≤ sizeLine
  · rw [if_pos hl] at q
    refine ⟨by rw [r.length]; exact hl, fun p hp => ?_⟩
    obtain ⟨s2, e2⟩ := sr.laid (o := .lst xs) hp
    exact q _ ι _ _ e2 s2 (.lst (.inl (.inl upd_same)) (r.mono e2))
  · rw [if_neg hl] at q; exact q.elim
theorem newL_laid {ι : Nat → Addr} {G H : Hp} {st : S} {xs : List V} {ws : List W} {Q : VK} (sr : SR X.K ι st G H) (r : RelWs X.K ι st.nxt G xs ws) (q : wpW X ι st.nxt G (opNewL ws st) Q) : xs.length ≤ sizeLine ∧ ∀ p, H p = none → Q (.ref p) (upd H p (.lst xs)) := by
  unfold opNewL at q
  by_cases hl : ws.length ≤ sizeLine
  · rw [if_pos hl] at q
    refine ⟨by rw [r.length]; exact hl, fun p hp => ?_⟩
    obtain ⟨ι', e2, s2, ep⟩ := sr.newL hp r
    have q' := q (.ref p) ι' G (upd H p (.lst xs)) e2 s2
    rw [← ep] at q' ⊢
    exact q' (.ref (Nat.lt_succ_self _))
  · rw [if_neg hl] at q; exact q.elim
theorem pd_tup {es : List Expr} {k : Nat} {pos : Pos} {rr : Runs} (h : PDA X es rr) : PD X (.Tuple es k pos) (runN rr opTup) :=
  PE.imp (pe_tup h) fun _ _ _ h => tD_args h fun _ _ _ _ _ _ sr r q => tup_laid sr r q
theorem pd_lst {es : List Expr} {pos : Pos} {rr : Runs} (h : PDA X es rr) : PD X (.List es pos) (runN rr opLst) :=
  PE.imp (pe_lst h) fun _ _ _ h => tD_args h fun _ _ _ _ _ _ sr r q => lst_laid sr r q
theorem pd_newL {es : List Expr} {pos : Pos} {rr : Runs} (h : PDA X es rr) : PD X (.List es pos) (runN rr opNewL) :=
  PE.imp (pe_lst h) fun _ _ _ h => tD_args h fun _ _ _ _ _ _ sr r q => newL_laid sr r q
end
end DL
/-! DATA LAYER 2: operations -/
namespace DL
open PySem PySem.Spec PyProof.Rows L2
section
variable {X : Cx}

/-! ### arithmetic -/
def MO.items : Option MO → Option (List W)
  | some (.lst xs) => some xs
  | _ => none
def catO (a b : Option (List W)) (st : S) : R W := match a, b with
  | some xs, some ys => if xs.length + ys.length ≤ sizeLine then .ok (.lst (xs ++ ys)) st else .stuck
  | _, _ => .stuck
def opAdd : Op2 := fun a b st => match a, b with
  | .int i, .int j => .ok (.int (i + j)) st
  | .str x, .str y => if x.length + y.length ≤ sizeLine then .ok (.str (x ++ y)) st else .stuck
  | .lst xs, .lst ys => catO (some xs) (some ys) st
  | .lst xs, .ref m => catO (some xs) (MO.items (st.mu m)) st
  | .ref n, .lst ys => catO (MO.items (st.mu n)) (some ys) st
  | .ref n, .ref m => catO (MO.items (st.mu n)) (MO.items (st.mu m)) st
  | .tup xs, .tup ys => if xs ≠ [] ∧ xs.length + ys.length ≤ sizeLine then .ok (.tup (xs ++ ys)) st else .stuck
  | _, _ => .stuck
def opSub : Op2 := fun a b st => match a, b with
  | .int i, .int j => .ok (.int (i - j)) st
  | _, _ => .stuck
instance (i j : Int) : Decidable (CMul i j) := by unfold CMul; infer_instance
instance (i j : Int) : Decidable (CDiv i j) := by unfold CDiv; infer_instance
instance (i j : Int) : Decidable (CPow i j) := by unfold CPow; infer_instance
def opMul : Op2 := fun a b st => match a, b with
  | .int i, .int j => if CMul i j then .ok (.int (i * j)) st else .stuck
  | _, _ => .stuck
def opDiv : Op2 := fun a b st => match a, b with
  | .int i, .int j => if CDiv i j then .ok (.int (i / j)) st else .stuck
  | _, _ => .stuck
def opMod : Op2 := fun a b st => match a, b with
  | .int i, .int j => if 0 < j then .ok (.int (i % j)) st else .stuck
  | _, _ => .stuck
def opPow : Op2 := fun a b st => match a, b with
  | .int i, .int j => if CPow i j then .ok (.int (i ^ j.toNat)) st else .stuck
  | _, _ => .stuck

/-- a list, wherever it is read -/
theorem op_catL : OpR X (binaryOp .Add) (fun x y H Q => ∃ l b xs zs, x = .ref l ∧ y = .ref b ∧ SqL X.K H l xs ∧ SqL X.K H b zs ∧ xs.length + zs.length ≤ sizeLine ∧ ∀ p, H p = none → Q (.ref p) (upd H p (.lst (xs ++ zs)))) := by
  intro pins s σ H x y v u Q I rx ry h
  obtain ⟨l, b, xs, zs, rfl, rfl, hH, hB, hz, q⟩ := h
  cases rx
  cases ry
  obtain ⟨its, r, pl, z⟩ := I.list hH
  obtain ⟨its2, r2, pl2, z2⟩ := I.list hB
  have hl := r.length
  have hl2 := r2.length
  obtain ⟨⟨cls, dd, data, sl⟩, n, e, ec, ed, es⟩ := pl
  obtain ⟨⟨cls2, dd2, data2, sl2⟩, n2, e2, ec2, ed2, es2⟩ := pl2
  simp only at ec es ec2 es2
  subst ec es ec2 es2
  have ea : its.toArray ++ its2.toArray = (its ++ its2).toArray := by simp
  refine concat_meets ⟨_, e, rfl⟩ ⟨_, e2, rfl⟩ noFill_list_add seq_list_add PySem.F.slot_list_add PySem.F.entry_list_add (PySem.F.args_list_add_2 _ _) (list_addW l b its.toArray its2.toArray n n2 dd dd2 sl sl2 (by rw [List.size_toArray, List.size_toArray]; omega)) ⟨e, e2, ?_⟩
  rw [ea]
  exact ⟨.ref _, _, I.lnew (t' := s.toks) (r.append r2) (by rw [List.length_append]; omega), rfl, q _ I.fresh⟩

theorem items_live {K : PySem.W.Frag} {ι : Nat → Addr} {st : S} {G H : Hp} {n : Nat} {ws : List W} (sr : SR K ι st G H) (h : MO.items (st.mu n) = some ws) : ∃ xs, SqL K H (ι n) xs ∧ RelWs K ι st.nxt G xs ws := by
  cases e : st.mu n with
  | none => rw [e] at h; cases h
  | some o =>
    obtain ⟨_, _, h3⟩ := sr.live n o e
    cases o with
    | lst zs =>
      rw [e] at h
      cases h
      obtain ⟨vs, q, r⟩ := h3
      exact ⟨vs, SqL.of q, r⟩
    | dct ks vs => rw [e] at h; cases h
theorem opw_add : OpW X (binaryOp .Add) opAdd := by
  intro pins s σ H ι G st x y w1 w2 v u Q I sr rx ry r1 r2 q
  have cat : ∀ {a b : Addr} {xs ys : List V} {ws ws' : List W}, RelV (.ref a) v → RelV (.ref b) u → SqL X.K H a xs → SqL X.K H b ys → RelWs X.K ι st.nxt G xs ws → RelWs X.K ι st.nxt G ys ws' → wpW X ι st.nxt G (catO (some ws) (some ws') st) Q →
      wpAny (model X.prog X.w) X.A (binaryOp .Add v u) (EP X pins σ Q) X.xe s := by
    intro a b xs ys ws ws' rx ry s1 s2 t1 t2 q
    have q' : wpW X ι st.nxt G (if ws.length + ws'.length ≤ sizeLine then .ok (.lst (ws ++ ws')) st else .stuck) Q := q
    by_cases hl : ws.length + ws'.length ≤ sizeLine
    · rw [if_pos hl] at q'
      refine op_catL pins s σ H _ _ v u Q I rx ry ⟨_, _, _, _, rfl, rfl, s1, s2, by rw [t1.length, t2.length]; exact hl, fun p hp => ?_⟩
      obtain ⟨sr2, e2⟩ := sr.laid (o := .lst _) hp
      exact q' _ ι _ _ e2 sr2 (.lst (.inl (.inl upd_same)) ((t1.append t2).mono e2))
    · rw [if_neg hl] at q'; exact q'.elim
  cases w1 with
  | int i =>
    cases w2 with
    | int j => cases r1; cases r2; exact op_add pins s σ H _ _ v u Q I rx ry ⟨i, j, rfl, rfl, q _ ι G H (Ext.refl _ _ _) sr (.int _)⟩
    | _ => exact (show False from q).elim
  | str i =>
    cases w2 with
    | str j =>
      cases r1; cases r2
      have q' : wpW X ι st.nxt G (if i.length + j.length ≤ sizeLine then .ok (.str (i ++ j)) st else .stuck) Q := q
      by_cases hl : i.length + j.length ≤ sizeLine
      · rw [if_pos hl] at q'
        exact op_add_str pins s σ H _ _ v u Q I rx ry ⟨i, j, rfl, rfl, hl, q' _ ι G H (Ext.refl _ _ _) sr (.str _)⟩
      · rw [if_neg hl] at q'; exact q'.elim
    | _ => exact (show False from q).elim
  | lst xs =>
    cases w2 with
    | lst ys =>
      cases r1 with
      | lst s1 t1 =>
        cases r2 with
        | lst s2 t2 => exact cat rx ry (sr.sub.seq s1) (sr.sub.seq s2) t1 t2 q
    | ref m =>
      cases r1 with
      | lst s1 t1 =>
        have q' : wpW X ι st.nxt G (catO (some xs) (MO.items (st.mu m)) st) Q := q
        cases hm : MO.items (st.mu m) with
        | none => rw [hm] at q'; exact (show False from q').elim
        | some ys =>
          rw [hm] at q'
          cases r2 with
          | ref hn =>
            obtain ⟨vs, h1, h2⟩ := items_live sr hm
            exact cat rx ry (sr.sub.seq s1) h1 t1 h2 q'
    | _ => exact (show False from q).elim
  | ref n =>
    cases w2 with
    | lst ys =>
      cases r2 with
      | lst s2 t2 =>
        have q' : wpW X ι st.nxt G (catO (MO.items (st.mu n)) (some ys) st) Q := q
        cases hm : MO.items (st.mu n) with
        | none => rw [hm] at q'; exact (show False from q').elim
        | some xs =>
          rw [hm] at q'
          cases r1 with
          | ref hn =>
            obtain ⟨vs, h1, h2⟩ := items_live sr hm
            exact cat rx ry h1 (sr.sub.seq s2) h2 t2 q'
    | ref m =>
      have q' : wpW X ι st.nxt G (catO (MO.items (st.mu n)) (MO.items (st.mu m)) st) Q := q
      cases hm : MO.items (st.mu n) with
      | none => rw [hm] at q'; exact (show False from q').elim
      | some xs =>
        cases hk : MO.items (st.mu m) with
        | none => rw [hm, hk] at q'; exact (show False from q').elim
        | some ys =>
          rw [hm, hk] at q'
          cases r1 with
          | ref hn =>
            cases r2 with
            | ref hn' =>
              obtain ⟨vs, h1, h2⟩ := items_live sr hm
              obtain ⟨vs', h3, h4⟩ := items_live sr hk
              exact cat rx ry h1 h3 h2 h4 q'
    | _ => exact (show False from q).elim
  | tup xs =>
    cases w2 with
    | tup ys =>
      cases r1 with
      | tup s1 t1 =>
        cases r2 with
        | tup s2 t2 =>
          have q' : wpW X ι st.nxt G (if xs ≠ [] ∧ xs.length + ys.length ≤ sizeLine then .ok (.tup (xs ++ ys)) st else .stuck) Q := q
          by_cases hl : xs ≠ [] ∧ xs.length + ys.length ≤ sizeLine
          · rw [if_pos hl] at q'
            refine op_catT pins s σ H _ _ v u Q I rx ry ⟨_, _, _, _, rfl, rfl, sqT_same sr.sub s1, sqT_same sr.sub s2, fun z => hl.1 ?_, by rw [t1.length, t2.length]; exact hl.2, fun z => ?_, fun z p hp => ?_⟩
            · subst z; cases t1; rfl
            · subst z
              cases t2
              refine q' _ ι G H (Ext.refl _ _ _) sr (.tup s1 ?_)
              rw [List.append_nil]; exact t1
            · obtain ⟨sr2, e2⟩ := sr.laid (o := .tup _) hp
              exact q' _ ι _ _ e2 sr2 (.tup (.inl (.inl upd_same)) ((t1.append t2).mono e2))
          · rw [if_neg hl] at q'; exact q'.elim
    | _ => exact (show False from q).elim
  | _ => exact (show False from q).elim
theorem opw_sub : OpW X (binaryOp .Sub) opSub := by
  intro pins s σ H ι G st x y w1 w2 v u Q I sr rx ry r1 r2 q
  cases w1 with
  | int i =>
    cases w2 with
    | int j => cases r1; cases r2; exact op_sub pins s σ H _ _ v u Q I rx ry ⟨i, j, rfl, rfl, q _ ι G H (Ext.refl _ _ _) sr (.int _)⟩
    | _ => exact (show False from q).elim
  | _ => exact (show False from q).elim
theorem opw_I {f : Value → Value → Sem Value} {C : Int → Int → Prop} [∀ i j, Decidable (C i j)] {g : Int → Int → Int} {op : Op2} (h : OpR X f (rI C fun i j => .int (g i j)))
    (hi : ∀ i j st, op (.int i) (.int j) st = if C i j then .ok (.int (g i j)) st else .stuck) (ho : ∀ a b st, (∀ i j, ¬ (a = .int i ∧ b = .int j)) → op a b st = .stuck) : OpW X f op := by
  intro pins s σ H ι G st x y w1 w2 v u Q I sr rx ry r1 r2 q
  by_cases hw : ∃ i j, w1 = .int i ∧ w2 = .int j
  · obtain ⟨i, j, rfl, rfl⟩ := hw
    cases r1; cases r2
    rw [hi] at q
    by_cases hc : C i j
    · rw [if_pos hc] at q
      exact h pins s σ H _ _ v u Q I rx ry ⟨i, j, rfl, rfl, hc, q _ ι G H (Ext.refl _ _ _) sr (.int _)⟩
    · rw [if_neg hc] at q; exact (show False from q).elim
  · rw [ho _ _ _ fun i j z => hw ⟨i, j, z.1, z.2⟩] at q
    exact (show False from q).elim
theorem opw_mul : OpW X (binaryOp .Mult) opMul := opw_I op_mul (fun _ _ _ => rfl) fun a b st h => by
  cases a <;> cases b <;> first | rfl | exact absurd ⟨rfl, rfl⟩ (h _ _)
theorem opw_div : OpW X (binaryOp .FloorDiv) opDiv := opw_I op_fdiv (fun _ _ _ => rfl) fun a b st h => by
  cases a <;> cases b <;> first | rfl | exact absurd ⟨rfl, rfl⟩ (h _ _)
theorem opw_mod : OpW X (binaryOp .Mod) opMod := opw_I op_mod (fun _ _ _ => rfl) fun a b st h => by
  cases a <;> cases b <;> first | rfl | exact absurd ⟨rfl, rfl⟩ (h _ _)
theorem opw_pow : OpW X (binaryOp .Pow) opPow := opw_I op_pow (fun _ _ _ => rfl) fun a b st h => by
  cases a <;> cases b <;> first | rfl | exact absurd ⟨rfl, rfl⟩ (h _ _)
def opNeg : W → S → R W := fun a st => match a with
  | .int i => .ok (.int (-i)) st
  | _ => .stuck
def run1 (ra : Run) (op : W → S → R W) : Run := fun Γ st => (ra Γ st).bind op
theorem pd_neg {a : Expr} {pos : Pos} {ra : Run} (ha : PD X a ra) : PD X (.UnaryOp .USub a pos) (run1 ra opNeg) := by
  refine PE.imp (pe_un un_neg ha) fun σ H Q h => ?_
  obtain ⟨ι, G, st, Γ, en, sr, q⟩ := h
  refine ⟨ι, G, st, Γ, en, sr, wpW.bind q fun w st1 v ι1 G1 H1 _ e1 sr1 r1 q1 => ?_⟩
  cases w with
  | int i => cases r1; exact ⟨i, rfl, q1 _ ι1 G1 H1 (Ext.refl _ _ _) sr1 (.int _)⟩
  | _ => exact (show False from q1).elim

/-! ### < and its kin -/
def opLt : Op2 := fun a b st => match a, b with
  | .int i, .int j => .ok (.bl (decide (i < j))) st
  | .str x, .str y => .ok (.bl (decide (x.cps.toList < y.cps.toList))) st
  | _, _ => .stuck
def opLe : Op2 := fun a b st => match a, b with
  | .int i, .int j => .ok (.bl (decide (i ≤ j))) st
  | _, _ => .stuck
def opGt : Op2 := fun a b st => match a, b with
  | .int i, .int j => .ok (.bl (decide (j < i))) st
  | _, _ => .stuck
def opGe : Op2 := fun a b st => match a, b with
  | .int i, .int j => .ok (.bl (decide (j ≤ i))) st
  | _, _ => .stuck
theorem opw_B {f : Value → Value → Sem Value} {g : Int → Int → Bool} {op : Op2} (h : OpR X f (rI0 fun i j => .bl (g i j)))
    (hi : ∀ i j st, op (.int i) (.int j) st = .ok (.bl (g i j)) st) (ho : ∀ a b st, (∀ i j, ¬ (a = .int i ∧ b = .int j)) → op a b st = .stuck) : OpW X f op := by
  intro pins s σ H ι G st x y w1 w2 v u Q I sr rx ry r1 r2 q
  by_cases hw : ∃ i j, w1 = .int i ∧ w2 = .int j
  · obtain ⟨i, j, rfl, rfl⟩ := hw
    cases r1; cases r2
    rw [hi] at q
    exact h pins s σ H _ _ v u Q I rx ry ⟨i, j, rfl, rfl, q _ ι G H (Ext.refl _ _ _) sr (.bl _)⟩
  · rw [ho _ _ _ fun i j z => hw ⟨i, j, z.1, z.2⟩] at q
    exact (show False from q).elim
theorem opw_le : OpW X (compareOp .LtE) opLe := opw_B op_le (fun _ _ _ => rfl) fun a b st h => by
  cases a <;> cases b <;> first | rfl | exact absurd ⟨rfl, rfl⟩ (h _ _)
theorem opw_gt : OpW X (compareOp .Gt) opGt := opw_B op_gt (fun _ _ _ => rfl) fun a b st h => by
  cases a <;> cases b <;> first | rfl | exact absurd ⟨rfl, rfl⟩ (h _ _)
theorem opw_ge : OpW X (compareOp .GtE) opGe := opw_B op_ge (fun _ _ _ => rfl) fun a b st h => by
  cases a <;> cases b <;> first | rfl | exact absurd ⟨rfl, rfl⟩ (h _ _)
theorem opw_lt : OpW X (compareOp .Lt) opLt := by
  intro pins s σ H ι G st x y w1 w2 v u Q I sr rx ry r1 r2 q
  cases w1 with
  | int i =>
    cases w2 with
    | int j => cases r1; cases r2; exact op_lt pins s σ H _ _ v u Q I rx ry ⟨i, j, rfl, rfl, q _ ι G H (Ext.refl _ _ _) sr (.bl _)⟩
    | _ => exact (show False from q).elim
  | str i =>
    cases w2 with
    | str j => cases r1; cases r2; exact op_lt_str pins s σ H _ _ v u Q I rx ry ⟨i, j, rfl, rfl, q _ ι G H (Ext.refl _ _ _) sr (.bl _)⟩
    | _ => exact (show False from q).elim
  | _ => exact (show False from q).elim

/-! ### == and != -/
def flatW : W → Option V
  | .non => some .non
  | .bl b => some (.bl b)
  | .int i => some (.int i)
  | .str x => some (.str x)
  | _ => none
def isSeq : W → Bool
  | .tup _ => true
  | .lst _ => true
  | _ => false
def eqItems (f : W → W → Option Bool) : List W → List W → Option Bool
  | x :: xs, y :: ys => match f x y, eqItems f xs ys with
    | some a, some b => some (a && b)
    | _, _ => none
  | _, _ => some true
/-- == of data without things of the mini heap, n deep -/
def eqD : Nat → W → W → Option Bool
  | 0, _, _ => none
  | n + 1, a, b => match flatW a, flatW b with
    | some x, some y => some (eqV x y)
    | some _, none => if isSeq b then some false else none
    | none, some _ => if isSeq a then some false else none
    | none, none => match a, b with
      | .tup xs, .tup ys => (eqItems (eqD n) xs ys).map fun r => r && xs.length == ys.length
      | .lst xs, .lst ys => if xs.length = ys.length then eqItems (eqD n) xs ys else some false
      | .tup _, .lst _ => some false
      | .lst _, .tup _ => some false
      | _, _ => none
theorem eqItems_e {f : W → W → Option Bool} : ∀ {xs ys : List W} {r : Bool}, eqItems f xs ys = some r →
    ∃ e : Nat → Bool, (∀ (j : Nat) x y, xs[j]? = some x → ys[j]? = some y → f x y = some (e j)) ∧ (List.range (min xs.length ys.length)).all e = r
  | [], ys, r, h => by
    refine ⟨fun _ => true, fun j x y hx _ => by simp at hx, ?_⟩
    cases h
    simp
  | x :: xs, [], r, h => by
    refine ⟨fun _ => true, fun j x y _ hy => by simp at hy, ?_⟩
    cases h
    simp
  | x :: xs, y :: ys, r, h => by
    unfold eqItems at h
    cases e1 : f x y with
    | none => rw [e1] at h; cases h
    | some a =>
      cases e2 : eqItems f xs ys with
      | none => rw [e1, e2] at h; cases h
      | some b =>
        rw [e1, e2] at h
        obtain ⟨e, h1, h2⟩ := eqItems_e e2
        refine ⟨fun j => match j with | 0 => a | j + 1 => e j, fun j x' y' hx hy => ?_, ?_⟩
        · cases j with
          | zero => simp at hx hy; subst hx hy; exact e1
          | succ j => exact h1 j x' y' (by simpa using hx) (by simpa using hy)
        · have em : min (x :: xs).length (y :: ys).length = min xs.length ys.length + 1 := by simp only [List.length_cons]; omega
          rw [em, List.range_succ_eq_map, List.all_cons, List.all_map]
          cases h
          show (a && (List.range (min xs.length ys.length)).all e) = (a && b)
          rw [h2]
theorem flatW_rel {K : PySem.W.Frag} {ι : Nat → Addr} {N : Nat} {G : Hp} {v x : V} {w : W} (r : RelW K ι N G v w) (h : flatW w = some x) : v = x ∧ flatV x = true := by
  cases r <;> first | (cases h; exact ⟨rfl, rfl⟩) | cases h
theorem eqD_same {K : PySem.W.Frag} {ι : Nat → Addr} {N : Nat} {G : Hp} (inT : ∀ a xs ys, SqT K G a xs → SqT K G a ys → xs = ys) (inL : ∀ a xs ys, SqL K G a xs → SqL K G a ys → xs = ys) (ntl : ∀ a xs ys, SqT K G a xs → SqL K G a ys → False) :
    ∀ (n : Nat) {v : V} {w1 w2 : W} {b : Bool}, RelW K ι N G v w1 → RelW K ι N G v w2 → eqD n w1 w2 = some b → b = true
  | 0, _, _, _, _, _, _, h => by cases h
  | n + 1, v, w1, w2, b, r1, r2, h => by
    have items : ∀ {xs : List V} {ws1 ws2 : List W} {r : Bool}, RelWs K ι N G xs ws1 → RelWs K ι N G xs ws2 → eqItems (eqD n) ws1 ws2 = some r → r = true := by
      intro xs
      induction xs with
      | nil => intro ws1 ws2 r t1 t2 e; cases t1; cases t2; cases e; rfl
      | cons x xs ih =>
        intro ws1 ws2 r t1 t2 e
        cases t1 with
        | @cons _ w _ wt1 a1 t1 =>
          cases t2 with
          | @cons _ w' _ wt2 a2 t2 =>
            unfold eqItems at e
            cases e1 : eqD n w w' with
            | none => rw [e1] at e; cases e
            | some p =>
              cases e2 : eqItems (eqD n) wt1 wt2 with
              | none => rw [e1, e2] at e; cases e
              | some q =>
                rw [e1, e2] at e
                cases e
                rw [eqD_same inT inL ntl n a1 a2 e1, ih t1 t2 e2]; rfl
    unfold eqD at h
    cases f1 : flatW w1 with
    | some x =>
      obtain ⟨ex, fx⟩ := flatW_rel r1 f1
      cases f2 : flatW w2 with
      | some y =>
        obtain ⟨ey, fy⟩ := flatW_rel r2 f2
        rw [f1, f2] at h
        have h' : some (eqV x y) = some b := h
        cases h'
        rw [← ex, ← ey]
        exact eqV_refl (by rw [ex]; exact fx)
      | none =>
        rw [f1, f2] at h
        cases r2 <;> first | (cases f2; done) | (subst ex; cases fx; done)
    | none =>
      cases f2 : flatW w2 with
      | some y =>
        obtain ⟨ey, fy⟩ := flatW_rel r2 f2
        cases r1 <;> first | (cases f1; done) | (subst ey; cases fy; done)
      | none =>
        rw [f1, f2] at h
        cases r1 with
        | tup s1 t1 =>
          rename_i a xs ws1
          cases w2 with
          | tup ws2 =>
            cases r2 with
            | tup s2 t2 =>
              cases inT _ _ _ s1 s2
              have h' : (eqItems (eqD n) ws1 ws2).map (fun r => r && ws1.length == ws2.length) = some b := h
              cases e : eqItems (eqD n) ws1 ws2 with
              | none => rw [e] at h'; cases h'
              | some r =>
                rw [e] at h'
                cases h'
                rw [items t1 t2 e, ← t1.length, ← t2.length]
                simp
          | lst ws2 =>
            cases r2 with
            | lst s2 t2 => exact (ntl _ _ _ s1 s2).elim
          | _ => cases h
        | lst s1 t1 =>
          rename_i a xs ws1
          cases w2 with
          | lst ws2 =>
            cases r2 with
            | lst s2 t2 =>
              cases inL _ _ _ s1 s2
              have h' : (if ws1.length = ws2.length then eqItems (eqD n) ws1 ws2 else some false) = some b := h
              rw [if_pos (by rw [← t1.length, ← t2.length])] at h'
              exact items t1 t2 h'
          | tup ws2 =>
            cases r2 with
            | tup s2 t2 => exact (ntl _ _ _ s2 s1).elim
          | _ => cases h
        | _ => first | (cases f1; done) | (cases w2 <;> cases h)
end
end DL
/-! DATA LAYER 3: == of data, in, places, slices, built-in calls -/
namespace DL
open PySem PySem.Spec PyProof.Rows L2
section
variable {X : Cx}
/-- == and != as they are met at the top and within -/
def EqB (A : Around) (s : Shared) (u v : Value) (b : Bool) : Prop := SeqAt.EqAt A s u v b ∧ SeqAt.RcAt A s u v b ∧ SeqAt.RcNeAt A s u v (!b)
theorem eqB_V {A : Around} {s : Shared} {y x : V} {u v : Value} (ry : RelV y u) (rx : RelV x v) (fy : flatV y = true) (fx : flatV x = true) : EqB A s u v (eqV y x) := by
  refine ⟨eqAt_V ry rx fy fx, ?_⟩
  cases y with
  | non =>
    cases ry
    cases x with
    | non => cases rx; exact ⟨SeqAt.RcAt.none_none, SeqAt.RcNeAt.none_none⟩
    | bl b => cases rx; exact ⟨SeqAt.RcAt.none_bool b, SeqAt.RcNeAt.none_bool b⟩
    | int b => obtain ⟨t, rfl⟩ := rx; exact ⟨SeqAt.RcAt.none_int b t, SeqAt.RcNeAt.none_int b t⟩
    | str b => obtain ⟨t, rfl⟩ := rx; exact ⟨SeqAt.RcAt.none_str b t, SeqAt.RcNeAt.none_str b t⟩
    | _ => exact absurd (show false = true from fx) Bool.false_ne_true
  | bl a =>
    cases ry
    cases x with
    | non => cases rx; exact ⟨SeqAt.RcAt.bool_none a, SeqAt.RcNeAt.bool_none a⟩
    | bl b => cases rx; exact ⟨SeqAt.RcAt.bool_bool a b, SeqAt.RcNeAt.bool_bool a b⟩
    | int b => obtain ⟨t, rfl⟩ := rx; exact ⟨SeqAt.RcAt.bool_int a b t, SeqAt.RcNeAt.bool_int a b t⟩
    | str b => obtain ⟨t, rfl⟩ := rx; exact ⟨SeqAt.RcAt.bool_str a b t, SeqAt.RcNeAt.bool_str a b t⟩
    | _ => exact absurd (show false = true from fx) Bool.false_ne_true
  | int a =>
    obtain ⟨t', rfl⟩ := ry
    cases x with
    | non => cases rx; exact ⟨SeqAt.RcAt.int_none a t', SeqAt.RcNeAt.int_none a t'⟩
    | bl b => cases rx; exact ⟨SeqAt.RcAt.int_bool a t' b, SeqAt.RcNeAt.int_bool a t' b⟩
    | int b => obtain ⟨t, rfl⟩ := rx; exact ⟨SeqAt.RcAt.int_int a t' b t, SeqAt.RcNeAt.int_int a t' b t⟩
    | str b => obtain ⟨t, rfl⟩ := rx; exact ⟨SeqAt.RcAt.int_str a t' b t, SeqAt.RcNeAt.int_str a t' b t⟩
    | _ => exact absurd (show false = true from fx) Bool.false_ne_true
  | str a =>
    obtain ⟨t', rfl⟩ := ry
    cases x with
    | non => cases rx; exact ⟨SeqAt.RcAt.str_none a t', SeqAt.RcNeAt.str_none a t'⟩
    | bl b => cases rx; exact ⟨SeqAt.RcAt.str_bool a t' b, SeqAt.RcNeAt.str_bool a t' b⟩
    | int b => obtain ⟨t, rfl⟩ := rx; exact ⟨SeqAt.RcAt.str_int a t' b t, SeqAt.RcNeAt.str_int a t' b t⟩
    | str b => obtain ⟨t, rfl⟩ := rx; exact ⟨SeqAt.RcAt.str_str a t' b t, SeqAt.RcNeAt.str_str a t' b t⟩
    | _ => exact absurd (show false = true from fx) Bool.false_ne_true
  | _ => exact absurd (show false = true from fy) Bool.false_ne_true
section
variable {A : Around} {s : Shared} {y : V} {u : Value} {l : Addr} {items : Array Value}
theorem eqB_flat_list (ry : RelV y u) (fy : flatV y = true) (hl : s.heap.IsList l items) (hu : A.units < cLine) : EqB A s u (.ref l) false := by
  cases y with
  | non => cases ry; exact ⟨SeqAt.EqAt.none_list hl hu, SeqAt.RcAt.none_list hl hu, SeqAt.RcNeAt.none_list hl hu⟩
  | bl b => cases ry; exact ⟨SeqAt.EqAt.bool_list b hl hu, SeqAt.RcAt.bool_list b hl hu, SeqAt.RcNeAt.bool_list b hl hu⟩
  | int b => obtain ⟨t, rfl⟩ := ry; exact ⟨SeqAt.EqAt.int_list b t hl hu, SeqAt.RcAt.int_list b t hl hu, SeqAt.RcNeAt.int_list b t hl hu⟩
  | str b => obtain ⟨t, rfl⟩ := ry; exact ⟨SeqAt.EqAt.str_list b t hl hu, SeqAt.RcAt.str_list b t hl hu, SeqAt.RcNeAt.str_list b t hl hu⟩
  | _ => exact absurd (show false = true from fy) Bool.false_ne_true
theorem eqB_list_flat (ry : RelV y u) (fy : flatV y = true) (hl : s.heap.IsList l items) (hu : A.units < cLine) : EqB A s (.ref l) u false := by
  cases y with
  | non => cases ry; exact ⟨SeqAt.EqAt.list_none hl hu, SeqAt.RcAt.list_none hl hu, SeqAt.RcNeAt.list_none hl hu⟩
  | bl b => cases ry; exact ⟨SeqAt.EqAt.list_bool b hl hu, SeqAt.RcAt.list_bool b hl hu, SeqAt.RcNeAt.list_bool b hl hu⟩
  | int b => obtain ⟨t, rfl⟩ := ry; exact ⟨SeqAt.EqAt.list_int b t hl hu, SeqAt.RcAt.list_int b t hl hu, SeqAt.RcNeAt.list_int b t hl hu⟩
  | str b => obtain ⟨t, rfl⟩ := ry; exact ⟨SeqAt.EqAt.list_str b t hl hu, SeqAt.RcAt.list_str b t hl hu, SeqAt.RcNeAt.list_str b t hl hu⟩
  | _ => exact absurd (show false = true from fy) Bool.false_ne_true
theorem eqB_flat_tuple (ry : RelV y u) (fy : flatV y = true) (hl : s.heap.IsTuple l items) (hu : A.units < cLine) : EqB A s u (.ref l) false := by
  cases y with
  | non => cases ry; exact ⟨SeqAt.EqAt.none_tuple hl hu, SeqAt.RcAt.none_tuple hl hu, SeqAt.RcNeAt.none_tuple hl hu⟩
  | bl b => cases ry; exact ⟨SeqAt.EqAt.bool_tuple b hl hu, SeqAt.RcAt.bool_tuple b hl hu, SeqAt.RcNeAt.bool_tuple b hl hu⟩
  | int b => obtain ⟨t, rfl⟩ := ry; exact ⟨SeqAt.EqAt.int_tuple b t hl hu, SeqAt.RcAt.int_tuple b t hl hu, SeqAt.RcNeAt.int_tuple b t hl hu⟩
  | str b => obtain ⟨t, rfl⟩ := ry; exact ⟨SeqAt.EqAt.str_tuple b t hl hu, SeqAt.RcAt.str_tuple b t hl hu, SeqAt.RcNeAt.str_tuple b t hl hu⟩
  | _ => exact absurd (show false = true from fy) Bool.false_ne_true
theorem eqB_tuple_flat (ry : RelV y u) (fy : flatV y = true) (hl : s.heap.IsTuple l items) (hu : A.units < cLine) : EqB A s (.ref l) u false := by
  cases y with
  | non => cases ry; exact ⟨SeqAt.EqAt.tuple_none hl hu, SeqAt.RcAt.tuple_none hl hu, SeqAt.RcNeAt.tuple_none hl hu⟩
  | bl b => cases ry; exact ⟨SeqAt.EqAt.tuple_bool b hl hu, SeqAt.RcAt.tuple_bool b hl hu, SeqAt.RcNeAt.tuple_bool b hl hu⟩
  | int b => obtain ⟨t, rfl⟩ := ry; exact ⟨SeqAt.EqAt.tuple_int b t hl hu, SeqAt.RcAt.tuple_int b t hl hu, SeqAt.RcNeAt.tuple_int b t hl hu⟩
  | str b => obtain ⟨t, rfl⟩ := ry; exact ⟨SeqAt.EqAt.tuple_str b t hl hu, SeqAt.RcAt.tuple_str b t hl hu, SeqAt.RcNeAt.tuple_str b t hl hu⟩
  | _ => exact absurd (show false = true from fy) Bool.false_ne_true
end
section
variable {pins : List (Addr × Obj)} {σ : St} {H : Hp} {s : Shared} {ι : Nat → Addr} {N : Nat}
theorem list_inj (I : Inv X pins σ H s) {a : Addr} {xs ys : List V} (h1 : SqL X.K H a xs) (h2 : SqL X.K H a ys) : xs = ys := by
  obtain ⟨its, r, pl, _⟩ := I.list h1
  obtain ⟨its2, r2, pl2, _⟩ := I.list h2
  obtain ⟨o, n, e, _, _, d⟩ := pl
  obtain ⟨o2, n2, e2, _, _, d2⟩ := pl2
  rw [e] at e2; cases e2
  rw [d] at d2; cases d2
  exact r.inj r2
theorem not_both (I : Inv X pins σ H s) {a : Addr} {xs ys : List V} (h1 : SqT X.K H a xs) (h2 : SqL X.K H a ys) : False := by
  obtain ⟨its, r, pl, _⟩ := I.tuple h1
  obtain ⟨its2, r2, pl2, _⟩ := I.list h2
  obtain ⟨o, e, c, _⟩ := pl
  obtain ⟨o2, n2, e2, c2, _, _⟩ := pl2
  rw [e] at e2; cases e2
  rw [c] at c2
  injection c2 with h
  exact absurd h (by decide)
theorem eqD_at (I : Inv X pins σ H s) : ∀ (n : Nat) {w1 w2 : W} {b : Bool} {v1 v2 : V} {u1 u2 : Value} {A : Around}, eqD n w1 w2 = some b → RelW X.K ι N H v1 w1 → RelW X.K ι N H v2 w2 → RelV v1 u1 → RelV v2 u2 → A.units + n < cLine → EqB A s u1 u2 b
  | 0, _, _, _, _, _, _, _, _, h, _, _, _, _, _ => by cases h
  | n + 1, w1, w2, b, v1, v2, u1, u2, A, h, r1, r2, q1, q2, hA => by
    have hA1 : A.units < cLine := by omega
    have its_at : ∀ {xs ys : List V} {ws1 ws2 : List W} {its its2 : List Value} {e : Nat → Bool}, RelWs X.K ι N H xs ws1 → RelWs X.K ι N H ys ws2 → Vals xs its → Vals ys its2 → (∀ (j : Nat) x y, ws1[j]? = some x → ws2[j]? = some y → eqD n x y = some (e j)) →
        ∀ j (h1 : j < its.toArray.size) (h2 : j < its2.toArray.size), SeqAt.EqAt A.in1 s its.toArray[j] its2.toArray[j] (e j) := by
      intro xs ys ws1 ws2 its its2 e t1 t2 p1 p2 he j h1 h2
      have h1' : j < its.length := by simpa using h1
      have h2' : j < its2.length := by simpa using h2
      obtain ⟨x', ex, rx⟩ := p1.at h1'
      obtain ⟨y', ey, ry⟩ := p2.at h2'
      obtain ⟨w, ew, rw1⟩ := t1.get' ex
      obtain ⟨w', ew', rw2⟩ := t2.get' ey
      have z1 : its.toArray[j] = its[j] := by simp
      have z2 : its2.toArray[j] = its2[j] := by simp
      rw [z1, z2]
      exact (eqD_at I n (A := A.in1) (he j w w' ew ew') rw1 rw2 rx ry (by show A.units + 1 + n < cLine; omega)).1
    have keep := h
    unfold eqD at h
    cases f1 : flatW w1 with
    | some x =>
      obtain ⟨ex, fx⟩ := flatW_rel r1 f1
      subst ex
      cases f2 : flatW w2 with
      | some y =>
        obtain ⟨ey, fy⟩ := flatW_rel r2 f2
        subst ey
        rw [f1, f2] at h
        have h' : some (eqV v1 v2) = some b := h
        cases h'
        exact eqB_V q1 q2 fx fy
      | none =>
        rw [f1, f2] at h
        have h' : (if isSeq w2 then some false else none) = some b := h
        cases r2 with
        | tup s2 t2 =>
          cases h'
          cases q2
          obtain ⟨its, _, pl, _⟩ := I.tuple s2
          exact eqB_flat_tuple q1 fx pl hA1
        | lst s2 t2 =>
          cases h'
          cases q2
          obtain ⟨its, _, pl, _⟩ := I.list s2
          exact eqB_flat_list q1 fx pl.isList hA1
        | _ => first | (cases f2; done) | (cases h'; done)
    | none =>
      cases f2 : flatW w2 with
      | some y =>
        obtain ⟨ey, fy⟩ := flatW_rel r2 f2
        subst ey
        rw [f1, f2] at h
        have h' : (if isSeq w1 then some false else none) = some b := h
        cases r1 with
        | tup s1 t1 =>
          cases h'
          cases q1
          obtain ⟨its, _, pl, _⟩ := I.tuple s1
          exact eqB_tuple_flat q2 fy pl hA1
        | lst s1 t1 =>
          cases h'
          cases q1
          obtain ⟨its, _, pl, _⟩ := I.list s1
          exact eqB_list_flat q2 fy pl.isList hA1
        | _ => first | (cases f1; done) | (cases h'; done)
      | none =>
        rw [f1, f2] at h
        cases r1 with
        | tup s1 t1 =>
          rename_i a xs ws1
          cases q1
          obtain ⟨its, p1, pl1, _⟩ := I.tuple s1
          cases w2 with
          | tup ws2 =>
            cases r2 with
            | tup s2 t2 =>
              rename_i a2 ys
              cases q2
              obtain ⟨its2, p2, pl2, _⟩ := I.tuple s2
              have h' : (eqItems (eqD n) ws1 ws2).map (fun r => r && ws1.length == ws2.length) = some b := h
              cases e : eqItems (eqD n) ws1 ws2 with
              | none => rw [e] at h'; cases h'
              | some r =>
                rw [e] at h'
                obtain ⟨ef, he1, he2⟩ := eqItems_e e
                have l1 : ws1.length = its.toArray.size := by rw [List.size_toArray, ← p1.length, t1.length]
                have l2 : ws2.length = its2.toArray.size := by rw [List.size_toArray, ← p2.length, t2.length]
                have eb : b = ((List.range (min its.toArray.size its2.toArray.size)).all ef && its.toArray.size == its2.toArray.size) := by
                  cases h'
                  rw [← l1, ← l2, he2]
                have at1 := its_at t1 t2 p1 p2 he1
                have rc : SeqAt.RcAt A s (.ref a) (.ref a2) b := by
                  rw [eb]
                  exact SeqAt.RcAt.tuples (e := ef) pl1 pl2 hA1 at1
                refine ⟨?_, rc, ?_⟩
                · by_cases ha : a = a2
                  · subst ha
                    have ht : b = true := eqD_same (fun a xs ys h1 h2 => I.tuple_inj h1 h2) (fun a xs ys h1 h2 => list_inj I h1 h2) (fun a xs ys h1 h2 => not_both I h1 h2) (n + 1) (.tup s1 t1) (.tup s2 t2) keep
                    rw [ht]; exact SeqAt.EqAt.same _
                  · exact SeqAt.EqAt.of_refs ha rc
                · rw [eb]
                  exact SeqAt.RcNeAt.tuples (e := ef) pl1 pl2 hA1 at1
          | lst ws2 =>
            cases r2 with
            | lst s2 t2 =>
              cases q2
              cases h
              obtain ⟨its2, p2, pl2, _⟩ := I.list s2
              exact ⟨SeqAt.EqAt.tuple_list pl1 pl2.isList hA1, SeqAt.RcAt.tuple_list pl1 pl2.isList hA1, SeqAt.RcNeAt.tuple_list pl1 pl2.isList hA1⟩
          | _ => cases h
        | lst s1 t1 =>
          rename_i a xs ws1
          cases q1
          obtain ⟨its, p1, pl1, _⟩ := I.list s1
          cases w2 with
          | lst ws2 =>
            cases r2 with
            | lst s2 t2 =>
              rename_i a2 ys
              cases q2
              obtain ⟨its2, p2, pl2, _⟩ := I.list s2
              have l1 : ws1.length = its.toArray.size := by rw [List.size_toArray, ← p1.length, t1.length]
              have l2 : ws2.length = its2.toArray.size := by rw [List.size_toArray, ← p2.length, t2.length]
              have h' : (if ws1.length = ws2.length then eqItems (eqD n) ws1 ws2 else some false) = some b := h
              by_cases hl : ws1.length = ws2.length
              · rw [if_pos hl] at h'
                obtain ⟨ef, he1, he2⟩ := eqItems_e h'
                have hsz : its.toArray.size = its2.toArray.size := by rw [← l1, ← l2, hl]
                have eb : b = (List.range its.toArray.size).all ef := by
                  rw [← he2, ← l1, ← hl, Nat.min_self]
                have at1 := its_at t1 t2 p1 p2 he1
                have rc : SeqAt.RcAt A s (.ref a) (.ref a2) b := by
                  rw [eb]
                  exact SeqAt.RcAt.lists (e := ef) pl1.isList pl2.isList hsz hA1 at1
                refine ⟨?_, rc, ?_⟩
                · by_cases ha : a = a2
                  · subst ha
                    have ht : b = true := eqD_same (fun a xs ys h1 h2 => I.tuple_inj h1 h2) (fun a xs ys h1 h2 => list_inj I h1 h2) (fun a xs ys h1 h2 => not_both I h1 h2) (n + 1) (.lst s1 t1) (.lst s2 t2) keep
                    rw [ht]; exact SeqAt.EqAt.same _
                  · exact SeqAt.EqAt.of_refs ha rc
                · rw [eb]
                  exact SeqAt.RcNeAt.lists (e := ef) pl1.isList pl2.isList hsz hA1 at1
              · rw [if_neg hl] at h'
                cases h'
                have hsz : (its.toArray.size != its2.toArray.size) = true := by
                  rw [← l1, ← l2]; simpa using hl
                have rc : SeqAt.RcAt A s (.ref a) (.ref a2) false := SeqAt.RcAt.lists_lengths pl1.isList pl2.isList hsz hA1
                refine ⟨SeqAt.EqAt.of_refs (fun ha => ?_) rc, rc, SeqAt.RcNeAt.lists_lengths pl1.isList pl2.isList hsz hA1⟩
                subst ha
                have := list_inj I s1 s2
                subst this
                exact hl (by rw [← t1.length, ← t2.length])
          | tup ws2 =>
            cases r2 with
            | tup s2 t2 =>
              cases q2
              cases h
              obtain ⟨its2, p2, pl2, _⟩ := I.tuple s2
              exact ⟨SeqAt.EqAt.list_tuple pl1.isList pl2 hA1, SeqAt.RcAt.list_tuple pl1.isList pl2 hA1, SeqAt.RcNeAt.list_tuple pl1.isList pl2 hA1⟩
          | _ => cases h
        | _ => first | (cases f1; done) | (cases w2 <;> cases h)
end
/-- the whole heap as what never changes: for a look -/
theorem SR.look {K : PySem.W.Frag} {ι : Nat → Addr} {st : S} {G H : Hp} (h : SR K ι st G H) : Ext ι st.nxt G ι st.nxt H := ⟨Nat.le_refl _, fun _ _ => rfl, h.sub⟩
def opEq : Op2 := fun a b st => match eqD 12 a b with
  | some r => .ok (.bl r) st
  | none => .stuck
def opNe : Op2 := fun a b st => match eqD 12 a b with
  | some r => .ok (.bl (!r)) st
  | none => .stuck
theorem opw_eq (hu : X.A.units + 64 < cLine) : OpW X (compareOp .Eq) opEq := by
  intro pins s σ H ι G st x y w1 w2 v u Q I sr rx ry r1 r2 q
  unfold opEq at q
  cases e : eqD 12 w1 w2 with
  | none => rw [e] at q; exact (show False from q).elim
  | some b =>
    rw [e] at q
    exact (eqD_at I 12 (A := X.A) e (r1.mono sr.look) (r2.mono sr.look) rx ry (by omega)).2.1 _ _ _ _ ⟨.bl b, H, I, rfl, q _ ι G H (Ext.refl _ _ _) sr (.bl _)⟩
theorem opw_ne (hu : X.A.units + 64 < cLine) : OpW X (compareOp .NotEq) opNe := by
  intro pins s σ H ι G st x y w1 w2 v u Q I sr rx ry r1 r2 q
  unfold opNe at q
  cases e : eqD 12 w1 w2 with
  | none => rw [e] at q; exact (show False from q).elim
  | some b =>
    rw [e] at q
    exact (eqD_at I 12 (A := X.A) e (r1.mono sr.look) (r2.mono sr.look) rx ry (by omega)).2.2 _ _ _ _ ⟨.bl (!b), H, I, rfl, q _ ι G H (Ext.refl _ _ _) sr (.bl _)⟩

/-! ### in, not in -/
def inStr (i j : Str) : Bool := !(Builtin.Str.occurrences j i 0 j.length 1).isEmpty
/-- is one of the items; all must be comparable -/
def inD (x : W) : List W → Option Bool
  | [] => some false
  | y :: ys => match eqD 12 y x, inD x ys with
    | some a, some b => some (a || b)
    | _, _ => none
def itemsOf (st : S) : W → Option (List W)
  | .lst xs => some xs
  | .tup xs => some xs
  | .ref n => MO.items (st.mu n)
  | _ => none
def inW (st : S) (a b : W) : Option Bool := match a, b with
  | .str i, .str j => some (inStr i j)
  | x, y => match itemsOf st y with
    | some ys => inD x ys
    | none => none
def opIn : Op2 := fun a b st => match inW st a b with
  | some r => .ok (.bl r) st
  | none => .stuck
def opNotIn : Op2 := fun a b st => match inW st a b with
  | some r => .ok (.bl (!r)) st
  | none => .stuck
/-- a list or tuple as it is read -/
theorem items_rel {K : PySem.W.Frag} {ι : Nat → Addr} {st : S} {G H : Hp} {v : V} {w : W} {ws : List W} (sr : SR K ι st G H) (r : RelW K ι st.nxt G v w) (h : itemsOf st w = some ws) : ∃ a xs, v = .ref a ∧ (SqL K H a xs ∨ SqT K H a xs) ∧ RelWs K ι st.nxt G xs ws := by
  cases r with
  | tup s1 t1 => cases h; exact ⟨_, _, rfl, .inr (sqT_same sr.sub s1), t1⟩
  | lst s1 t1 => cases h; exact ⟨_, _, rfl, .inl (sr.sub.seq s1), t1⟩
  | ref hn =>
    rename_i n
    have h : MO.items (st.mu n) = some ws := h
    cases e : st.mu n with
    | none => rw [e] at h; cases h
    | some o =>
      obtain ⟨_, _, h3⟩ := sr.live n o e
      cases o with
      | lst xs =>
        rw [e] at h
        cases h
        obtain ⟨vs, q, r⟩ := h3
        exact ⟨_, vs, rfl, .inl (SqL.of q), r⟩
      | dct ks vs => rw [e] at h; cases h
  | _ => cases h
theorem inD_e {x : W} : ∀ {ws : List W} {b : Bool}, inD x ws = some b → ∃ e : List Bool, e.length = ws.length ∧ (∀ (j : Nat) y c, ws[j]? = some y → e[j]? = some c → eqD 12 y x = some c) ∧ e.any id = b
  | [], b, h => by cases h; exact ⟨[], rfl, fun j y c hy _ => by simp at hy, rfl⟩
  | y :: ys, b, h => by
    unfold inD at h
    cases e1 : eqD 12 y x with
    | none => rw [e1] at h; cases h
    | some a =>
      cases e2 : inD x ys with
      | none => rw [e1, e2] at h; cases h
      | some c =>
        rw [e1, e2] at h
        cases h
        obtain ⟨e, h1, h2, h3⟩ := inD_e e2
        refine ⟨a :: e, by simp [h1], fun j z c' hy hc => ?_, by simp [h3]⟩
        cases j with
        | zero => simp at hy hc; subst hy hc; exact e1
        | succ j => exact h2 j z c' (by simpa using hy) (by simpa using hc)

/-- what a value's == answers does not hang on which datum it is read as -/
theorem eqD_det {K : PySem.W.Frag} {ι : Nat → Addr} {N : Nat} {G : Hp} (inT : ∀ a xs ys, SqT K G a xs → SqT K G a ys → xs = ys) (inL : ∀ a xs ys, SqL K G a xs → SqL K G a ys → xs = ys) (ntl : ∀ a xs ys, SqT K G a xs → SqL K G a ys → False) :
    ∀ (n : Nat) {v : V} {w w' x : W} {c c' : Bool}, RelW K ι N G v w → RelW K ι N G v w' → eqD n w x = some c → eqD n w' x = some c' → c = c'
  | 0, _, _, _, _, _, _, _, _, h, _ => by cases h
  | n + 1, v, w, w', x, c, c', r1, r2, h1, h2 => by
    have items : ∀ {vs : List V} {ws1 ws2 ys : List W} {r r' : Bool}, RelWs K ι N G vs ws1 → RelWs K ι N G vs ws2 → eqItems (eqD n) ws1 ys = some r → eqItems (eqD n) ws2 ys = some r' → r = r' := by
      intro vs
      induction vs with
      | nil => intro ws1 ws2 ys r r' t1 t2 e e'; cases t1; cases t2; rw [e] at e'; exact Option.some.inj e'
      | cons x xs ih =>
        intro ws1 ws2 ys r r' t1 t2 e e'
        cases t1 with
        | @cons _ w1 _ wt1 a1 t1 =>
          cases t2 with
          | @cons _ w2 _ wt2 a2 t2 =>
            cases ys with
            | nil => cases e; cases e'; rfl
            | cons y ys =>
              unfold eqItems at e e'
              cases e1 : eqD n w1 y with
              | none => rw [e1] at e; cases e
              | some p =>
                cases e2 : eqItems (eqD n) wt1 ys with
                | none => rw [e1, e2] at e; cases e
                | some q =>
                  cases e3 : eqD n w2 y with
                  | none => rw [e3] at e'; cases e'
                  | some p' =>
                    cases e4 : eqItems (eqD n) wt2 ys with
                    | none => rw [e3, e4] at e'; cases e'
                    | some q' =>
                      rw [e1, e2] at e
                      rw [e3, e4] at e'
                      cases e; cases e'
                      rw [eqD_det inT inL ntl n a1 a2 e1 e3, ih t1 t2 e2 e4]
    unfold eqD at h1 h2
    cases f1 : flatW w with
    | some y =>
      obtain ⟨ey, fy⟩ := flatW_rel r1 f1
      cases f2 : flatW w' with
      | some z =>
        obtain ⟨ez, fz⟩ := flatW_rel r2 f2
        have : y = z := by rw [← ey, ← ez]
        subst this
        cases f3 : flatW x with
        | some z =>
          rw [f1, f3] at h1; rw [f2, f3] at h2
          have g1 : some (eqV y z) = some c := h1
          have g2 : some (eqV y z) = some c' := h2
          rw [g1] at g2; exact Option.some.inj g2
        | none =>
          rw [f1, f3] at h1; rw [f2, f3] at h2
          have g1 : (if isSeq x then some false else none) = some c := h1
          have g2 : (if isSeq x then some false else none) = some c' := h2
          rw [g1] at g2; exact Option.some.inj g2
      | none => cases r2 <;> first | (cases f2; done) | (subst ey; cases fy; done)
    | none =>
      cases f2 : flatW w' with
      | some z =>
        obtain ⟨ez, fz⟩ := flatW_rel r2 f2
        cases r1 <;> first | (cases f1; done) | (subst ez; cases fz; done)
      | none =>
        rw [f1] at h1; rw [f2] at h2
        cases r1 with
        | tup s1 t1 =>
          rename_i a xs ws1
          cases w' with
          | tup ws2 =>
            cases r2 with
            | tup s2 t2 =>
              cases inT _ _ _ s1 s2
              cases f3 : flatW x with
              | some z => rw [f3] at h1 h2; cases h1; cases h2; rfl
              | none =>
                rw [f3] at h1 h2
                cases x with
                | tup ys =>
                  have g1 : (eqItems (eqD n) ws1 ys).map (fun r => r && ws1.length == ys.length) = some c := h1
                  have g2 : (eqItems (eqD n) ws2 ys).map (fun r => r && ws2.length == ys.length) = some c' := h2
                  cases e1 : eqItems (eqD n) ws1 ys with
                  | none => rw [e1] at g1; cases g1
                  | some p =>
                    cases e2 : eqItems (eqD n) ws2 ys with
                    | none => rw [e2] at g2; cases g2
                    | some q =>
                      rw [e1] at g1; rw [e2] at g2
                      cases g1; cases g2
                      rw [items t1 t2 e1 e2, ← t1.length, ← t2.length]
                | lst ys => cases h1; cases h2; rfl
                | _ => cases h1
          | lst ws2 => cases r2 with | lst s2 t2 => exact (ntl _ _ _ s1 s2).elim
          | _ => first | (cases f2; done) | (cases f3 : flatW x <;> rw [f3] at h2 <;> first | (cases h2; done) | (cases x <;> cases h2))
        | lst s1 t1 =>
          rename_i a xs ws1
          cases w' with
          | lst ws2 =>
            cases r2 with
            | lst s2 t2 =>
              cases inL _ _ _ s1 s2
              cases f3 : flatW x with
              | some z => rw [f3] at h1 h2; cases h1; cases h2; rfl
              | none =>
                rw [f3] at h1 h2
                cases x with
                | lst ys =>
                  have g1 : (if ws1.length = ys.length then eqItems (eqD n) ws1 ys else some false) = some c := h1
                  have g2 : (if ws2.length = ys.length then eqItems (eqD n) ws2 ys else some false) = some c' := h2
                  have hl : ws1.length = ws2.length := by rw [← t1.length, ← t2.length]
                  rw [← hl] at g2
                  by_cases hy : ws1.length = ys.length
                  · rw [if_pos hy] at g1 g2
                    exact items t1 t2 g1 g2
                  · rw [if_neg hy] at g1 g2
                    cases g1; cases g2; rfl
                | tup ys => cases h1; cases h2; rfl
                | _ => cases h1
          | tup ws2 => cases r2 with | tup s2 t2 => exact (ntl _ _ _ s2 s1).elim
          | _ => first | (cases f2; done) | (cases f3 : flatW x <;> rw [f3] at h2 <;> first | (cases h2; done) | (cases x <;> cases h2))
        | _ => first | (cases f1; done) | (cases f3 : flatW x <;> rw [f3] at h1 <;> first | (cases h1; done) | (cases x <;> cases h1))
/-- the items' answers as a function of the values -/
theorem mem_fun {pins : List (Addr × Obj)} {σ : St} {H : Hp} {s : Shared} {ι : Nat → Addr} {N : Nat} {A : Around} {x : W} {vx : V} {ux : Value} (I : Inv X pins σ H s) (rx : RelW X.K ι N H vx x) (qx : RelV vx ux) (hA : A.units + 12 < cLine) :
    ∀ {ws : List W} {vs : List V} {us : List Value} {b : Bool}, inD x ws = some b → RelWs X.K ι N H vs ws → Vals vs us →
      ∃ e : Value → Bool, (∀ u ∈ us, SeqAt.EqAt A s u ux (e u)) ∧ us.any e = b ∧ ∀ (j : Nat) v u w, vs[j]? = some v → us[j]? = some u → ws[j]? = some w → eqD 12 w x = some (e u) := by
  intro ws
  induction ws with
  | nil => intro vs us b h t q; cases t; cases q; cases h; exact ⟨fun _ => false, fun u hu => (by cases hu), rfl, fun j v u w hv => (by simp at hv)⟩
  | cons w ws ih =>
    intro vs us b h t q
    cases t with
    | cons r t =>
      cases q with
      | cons qv q =>
        rename_i v vs u us
        unfold inD at h
        cases e1 : eqD 12 w x with
        | none => rw [e1] at h; cases h
        | some a =>
          cases e2 : inD x ws with
          | none => rw [e1, e2] at h; cases h
          | some c =>
            rw [e1, e2] at h
            obtain ⟨e, h1, h2, h3⟩ := ih e2 t q
            have at1 := (eqD_at I 12 (A := A) e1 r rx qv qx hA).1
            have keep : ∀ u' ∈ us, u' = u → e u' = a := fun u' hu hue => by
              obtain ⟨j, hj, ej⟩ := List.mem_iff_getElem.mp hu
              have g1 : us[j]? = some u' := by rw [List.getElem?_eq_getElem hj, ej]
              obtain ⟨v', gv, rv'⟩ := Vals.at q hj
              obtain ⟨w', gw, rw'⟩ := t.get' gv
              have d := h3 j v' u' w' gv g1 gw
              rw [ej, hue] at rv'
              have ev : v' = v := rv'.inj qv
              subst ev
              exact eqD_det (fun a xs ys h1 h2 => I.tuple_inj h1 h2) (fun a xs ys h1 h2 => list_inj I h1 h2) (fun a xs ys h1 h2 => not_both I h1 h2) 12 rw' r d e1
            refine ⟨fun z => if z = u then a else e z, fun z hz => ?_, ?_, fun j v' u' w' hv hu hw => ?_⟩
            · by_cases hzu : z = u
              · (try dsimp only); rw [if_pos hzu, hzu]; exact at1
              · (try dsimp only); rw [if_neg hzu]
                rcases List.mem_cons.mp hz with hz | hz
                · exact absurd hz hzu
                · exact h1 z hz
            · rw [List.any_cons, if_pos rfl]
              have e3 : us.any (fun z => if z = u then a else e z) = us.any e := by
                rw [Bool.eq_iff_iff, List.any_eq_true, List.any_eq_true]
                constructor
                · rintro ⟨z, hz, hq⟩
                  refine ⟨z, hz, ?_⟩
                  by_cases hzu : z = u
                  · rw [if_pos hzu] at hq; rw [keep z hz hzu]; exact hq
                  · rw [if_neg hzu] at hq; exact hq
                · rintro ⟨z, hz, hq⟩
                  refine ⟨z, hz, ?_⟩
                  by_cases hzu : z = u
                  · rw [if_pos hzu, ← keep z hz hzu]; exact hq
                  · rw [if_neg hzu]; exact hq
              rw [e3, h2]
              cases h; rfl
            · cases j with
              | zero =>
                simp at hv hu hw
                subst hv hu hw
                (try dsimp only); rw [if_pos rfl]; exact e1
              | succ j =>
                have hv' : vs[j]? = some v' := by simpa using hv
                have hu' : us[j]? = some u' := by simpa using hu
                have hw' : ws[j]? = some w' := by simpa using hw
                have d := h3 j v' u' w' hv' hu' hw'
                dsimp only
                by_cases hzu : u' = u
                · rw [if_pos hzu, ← keep u' (List.mem_of_getElem? hu') hzu]; exact d
                · rw [if_neg hzu]; exact d
theorem opw_inG {neg : Bool} {op : CmpOp} {o : Op2} (ho : o = fun a b st => match inW st a b with | some r => .ok (.bl (if neg then !r else r)) st | none => .stuck)
    (hs : OpR X (compareOp op) (fun x y H Q => ∃ i j, x = .str i ∧ y = .str j ∧ Q (.bl (if neg then !(!(Builtin.Str.occurrences j i 0 j.length 1).isEmpty) else (!(Builtin.Str.occurrences j i 0 j.length 1).isEmpty))) H))
    (hl : ∀ {s : Shared} {l : Addr} {items : Array Value} {x : Value} {Q : Value → Shared → Prop} (e : Value → Bool), s.heap.IsList l items → (∀ y, y ∈ items → SeqAt.EqAt X.A.in1 s y x (e y)) → Q (.bool (if neg then !items.any e else items.any e)) s → wpAny (model X.prog X.w) X.A (compareOp op x (.ref l)) Q X.xe s)
    (ht : ∀ {s : Shared} {l : Addr} {items : Array Value} {x : Value} {Q : Value → Shared → Prop} (e : Value → Bool), s.heap.IsTuple l items → (∀ y, y ∈ items → SeqAt.EqAt X.A.in1 s y x (e y)) → Q (.bool (if neg then !items.any e else items.any e)) s → wpAny (model X.prog X.w) X.A (compareOp op x (.ref l)) Q X.xe s)
    (hu : X.A.units + 64 < cLine) : OpW X (compareOp op) o := by
  subst ho
  intro pins s σ H ι G st x y w1 w2 v u Q I sr rx ry r1 r2 q
  dsimp only at q
  cases e : inW st w1 w2 with
  | none => rw [e] at q; exact (show False from q).elim
  | some b =>
    rw [e] at q
    have qq : ∀ (H' : Hp), H' = H → Q (.bl (if neg then !b else b)) H' := fun H' hh => by rw [hh]; exact q _ ι G H (Ext.refl _ _ _) sr (.bl _)
    have seq : ∀ {ys : List W}, itemsOf st w2 = some ys → inD w1 ys = some b → wpAny (model X.prog X.w) X.A (compareOp op v u) (EP X pins σ Q) X.xe s := by
      intro ys hi hd
      obtain ⟨a, xs, ea, hq, t⟩ := items_rel sr r2 hi
      subst ea
      cases ry
      rcases hq with hq | hq
      · obtain ⟨its, r, pl, hz⟩ := I.list hq
        obtain ⟨f, h1, h2, _⟩ := mem_fun (A := X.A.in1) I (r1.mono sr.look) rx (by show X.A.units + 1 + 12 < cLine; omega) hd (t.mono sr.look) r
        refine hl f pl.isList (fun w hw => h1 w (by simpa using hw)) ⟨.bl (if neg then !b else b), H, I, ?_, qq H rfl⟩
        rw [show its.toArray.any f = its.any f by simp, h2]; rfl
      · obtain ⟨its, r, pl, hz⟩ := I.tuple hq
        obtain ⟨f, h1, h2, _⟩ := mem_fun (A := X.A.in1) I (r1.mono sr.look) rx (by show X.A.units + 1 + 12 < cLine; omega) hd (t.mono sr.look) r
        refine ht f pl (fun w hw => h1 w (by simpa using hw)) ⟨.bl (if neg then !b else b), H, I, ?_, qq H rfl⟩
        rw [show its.toArray.any f = its.any f by simp, h2]; rfl
    by_cases hb : ∃ i j, w1 = .str i ∧ w2 = .str j
    · obtain ⟨i, j, rfl, rfl⟩ := hb
      cases r1; cases r2
      have e' : some (inStr i j) = some b := e
      cases e'
      exact hs pins s σ H _ _ v u Q I rx ry ⟨i, j, rfl, rfl, qq H rfl⟩
    · have e' : (match itemsOf st w2 with | some ys => inD w1 ys | none => none) = some b := by
        rw [← e]
        unfold inW
        cases w1 <;> cases w2 <;> first | rfl | exact absurd ⟨_, _, rfl, rfl⟩ hb
      cases hi : itemsOf st w2 with
      | none => rw [hi] at e'; cases e'
      | some ys => rw [hi] at e'; exact seq hi e'
theorem opw_in (hu : X.A.units + 64 < cLine) : OpW X (compareOp .In) opIn := opw_inG (neg := false) rfl op_in_str (fun e h1 h2 h3 => SeqAt.in_listAt e h1 h2 h3) (fun e h1 h2 h3 => SeqAt.in_tupleAt e h1 h2 h3) hu
theorem opw_notIn (hu : X.A.units + 64 < cLine) : OpW X (compareOp .NotIn) opNotIn := opw_inG (neg := true) rfl op_notIn_str (fun e h1 h2 h3 => SeqAt.notIn_listAt e h1 h2 h3) (fun e h1 h2 h3 => SeqAt.notIn_tupleAt e h1 h2 h3) hu
end
end DL
/-! DATA LAYER 4: places, slices, built-in calls, walks, comprehensions -/
namespace DL
open PySem PySem.Spec PyProof.Rows L2
section
variable {X : Cx}

/-! ### places -/
def opIdx : Op2 := fun a b st => match b with
  | .int i => match a with
    | .str z => if z.length ≤ sizeLine then (match atI z.cps.toList i with | some c => .ok (.str ⟨#[c]⟩) st | none => .stuck) else .stuck
    | a => match itemsOf st a with
      | some ws => (match atI ws i with | some w => .ok w st | none => .stuck)
      | none => .stuck
  | _ => .stuck
theorem atI_rel {K : PySem.W.Frag} {ι : Nat → Addr} {N : Nat} {G : Hp} {xs : List V} {ws : List W} {i : Int} {w : W} (t : RelWs K ι N G xs ws) (h : atI ws i = some w) : ∃ v, atI xs i = some v ∧ RelW K ι N G v w := by
  unfold atI at h ⊢
  rw [t.length]
  cases e : ixN ws.length i with
  | none => rw [e] at h; cases h
  | some j =>
    rw [e] at h
    exact t.get (show ws[j]? = some w from h)
theorem ix_w : IxR X (rOp X opIdx) := by
  intro value slice pins s σ H x y v u Q I rx ry h hs
  obtain ⟨ι, G, st, w1, w2, sr, r1, r2, q⟩ := h
  cases w2 with
  | int i =>
    cases r2
    have seq : ∀ {ws : List W}, itemsOf st w1 = some ws → wpW X ι st.nxt G (match atI ws i with | some w => .ok w st | none => .stuck) Q → wpAny (model X.prog X.w) X.A (subscriptTail value slice v u) (EP X pins σ Q) X.xe s := by
      intro ws hi q
      cases e : atI ws i with
      | none => rw [e] at q; exact (show False from q).elim
      | some w =>
        rw [e] at q
        obtain ⟨a, xs, ea, hq, t⟩ := items_rel sr r1 hi
        subst ea
        obtain ⟨z, hz, rz⟩ := atI_rel t e
        have fin := q z ι G H (Ext.refl _ _ _) sr rz
        rcases hq with hq | hq
        · exact ix_list value slice pins s σ H _ _ v u Q I rx ry ⟨a, xs, i, z, rfl, rfl, hq, hz, fin⟩ hs
        · exact ix_tup value slice pins s σ H _ _ v u Q I rx ry ⟨a, xs, i, z, rfl, rfl, hq, hz, fin⟩ hs
    cases w1 with
    | str z =>
      cases r1
      have q' : wpW X ι st.nxt G (if z.length ≤ sizeLine then (match atI z.cps.toList i with | some c => .ok (.str ⟨#[c]⟩) st | none => .stuck) else .stuck) Q := q
      by_cases hl : z.length ≤ sizeLine
      · rw [if_pos hl] at q'
        cases e : atI z.cps.toList i with
        | none => rw [e] at q'; exact (show False from q').elim
        | some c =>
          rw [e] at q'
          exact ix_str value slice pins s σ H _ _ v u Q I rx ry ⟨z, i, c, rfl, rfl, hl, e, q' _ ι G H (Ext.refl _ _ _) sr (.str _)⟩ hs
      · rw [if_neg hl] at q'; exact (show False from q').elim
    | tup ws => exact seq (ws := ws) rfl q
    | lst ws => exact seq (ws := ws) rfl q
    | ref n =>
      cases hi : itemsOf st (.ref n) with
      | none =>
        have q' : wpW X ι st.nxt G (match itemsOf st (.ref n) with | some ws => (match atI ws i with | some w => .ok w st | none => .stuck) | none => .stuck) Q := q
        rw [hi] at q'; exact (show False from q').elim
      | some ws =>
        have q' : wpW X ι st.nxt G (match itemsOf st (.ref n) with | some ws => (match atI ws i with | some w => .ok w st | none => .stuck) | none => .stuck) Q := q
        rw [hi] at q'; exact seq hi q'
    | _ => exact (show False from q).elim
  | _ => exact (show False from q).elim
theorem pd_ix {a b : Expr} {pos : Pos} {ra rb : Run} (ha : PD X a ra) (hb : PD X b rb) (hs : PlainIx b) : PD X (.Subscript a b pos) (run2 ra rb opIdx) :=
  PE.imp (pe_ix ix_w ha hb hs) fun _ _ _ h => tD_op h

/-! ### slices -/
def cutW (xs : List W) (lo hi : Option Int) : List W := (xs.drop (HT.sIx xs.length 0 lo)).take (HT.sIx xs.length xs.length hi - HT.sIx xs.length 0 lo)
def opSl (m : Bool) (lo hi : Option Int) (a : W) (st : S) : R W := match a with
  | .str z => if z.length ≤ sizeLine then .ok (.str (Txt.slice z lo hi)) st else .stuck
  | .tup ws => .ok (.tup (cutW ws lo hi)) st
  | a => match itemsOf st a with
    | some ws => if m then opNewL (cutW ws lo hi) st else opLst (cutW ws lo hi) st
    | none => .stuck
theorem cut_rel {K : PySem.W.Frag} {ι : Nat → Addr} {N : Nat} {G : Hp} {xs : List V} {ws : List W} (t : RelWs K ι N G xs ws) (lo hi : Option Int) : RelWs K ι N G (cutV xs lo hi) (cutW ws lo hi) := by
  unfold cutV cutW
  rw [t.length]
  exact (t.drop _).take _
theorem tupleIsExact_ {prog : Program} {w : World} {A : Around} {E : Value → Shared → Prop} {s : Shared} {t : Addr} {items : Array Value} {Q : Bool → Shared → Prop} (ht : IsTup s.heap t items) (h : Q true s) : wpAny (model prog w) A (Builtin.Tuple.tupleIsExact (.ref t)) Q E s := by
  unfold Builtin.Tuple.tupleIsExact
  refine wpAny_bind (wpAny_typeOf ht.typeIs (wpAny_pure ?_))
  exact h
/-- t[0:len(t)] is t itself -/
theorem getItem_tuple_whole {prog : Program} {w : World} {A : Around} {E : Value → Shared → Prop} {s : Shared} {t sl : Addr} {items : Array Value} {vl vu : Value} {lo hi : Option Int} {Q : Value → Shared → Prop} (ht : IsTup s.heap t items) (hs : s.heap.IsSliceOf sl vl vu .none) (pl : IsPart vl lo) (pu : IsPart vu hi)
    (h0 : HT.sIx items.size 0 lo = 0) (h1 : HT.sIx items.size items.size hi = items.size) (h : Q (.ref t) s) : wpAny (model prog w) A (getItem (.ref t) (.ref sl)) Q E s := by
  obtain ⟨os, hos, hcs, hds⟩ := id hs
  have hTs : s.TypeIs (.ref sl) "slice" := ⟨os, hos, hcs⟩
  unfold getItem
  try with_reducible refine wpAny_holding ?_
  first | refine wpAny_bind (wpAny_pure ?_) | skip
  refine wpAny_bind (wpAny_sequenceKey ht.typeIs (by decide) ?_)
  refine wpAny_bind (wpAny_callSpecial?_slot (name := Str.ofString "__getitem__") ht.typeIs PyProof.Rows.slot_tuple_getitem
    (wpAny_call_entry PyProof.Rows.slot_tuple_getitem ht.typeIs entry_tuple_getitem ?_ (args_tuple_getitem _ _)))
  show wpAny _ _ (Builtin.Tuple.tupleItemsOf (.ref t) >>= _) _ _ s
  refine wpAny_bind (tupleItemsOf_ ht ?_)
  refine wpAny_bind (wpAny_typeOf hTs ?_)
  rw [if_pos (by decide)]
  refine wpAny_bind (HT.sliceApplied_gen hs pl pu ?_)
  show wpAny _ _ (if (((HT.sIx items.size 0 lo : Nat) : Int) == 0 && (1 : Int) == 1 && (HT.sIx items.size items.size hi - HT.sIx items.size 0 lo) == items.size) = true then _ else _) _ _ s
  rw [h0, h1, if_pos (by simp)]
  refine wpAny_bind (tupleIsExact_ ht ?_)
  rw [if_pos rfl]
  refine wpAny_bind (wpAny_rule ?_)
  exact wpAny_pure ⟨_, rfl, wpAny_pure h⟩
theorem sl_tupAll : SlR X (fun x lo hi H Q => ∃ a xs, x = .ref a ∧ SqT X.K H a xs ∧ HT.sIx xs.length 0 lo = 0 ∧ HT.sIx xs.length xs.length hi = xs.length ∧ Q (.ref a) H) := by
  intro pins s σ H x v vl vu lo hi sl Q I rx hs pl pu h
  obtain ⟨a, xs, rfl, hx, h0, h1, q⟩ := h
  cases rx
  obtain ⟨its, r, ht, hz⟩ := I.tuple hx
  have hlen : its.toArray.size = xs.length := by rw [List.size_toArray]; exact r.length.symm
  refine ⟨"tuple", _, PyProof.Rows.slot_tuple_getitem.lookup, ht.typeIs, ?_⟩
  exact getItem_tuple_whole ht hs pl pu (by rw [hlen]; exact h0) (by rw [hlen]; exact h1) ⟨.ref a, H, I, rfl, q⟩
def rSlW (X : Cx) (m : Bool) : V → Option Int → Option Int → Hp → VK → Prop := fun x lo hi H Q => ∃ ι G st w, SR X.K ι st G H ∧ RelW X.K ι st.nxt G x w ∧ wpW X ι st.nxt G (opSl m lo hi w st) Q
theorem sl_w {m : Bool} : SlR X (rSlW X m) := by
  intro pins s σ H x v vl vu lo hi sl Q I rx hs pl pu h
  obtain ⟨ι, G, st, w, sr, r1, q⟩ := h
  have seq : ∀ {a : Addr} {xs : List V} {ws : List W}, v = .ref a → x = .ref a → SqL X.K H a xs → RelWs X.K ι st.nxt G xs ws → wpW X ι st.nxt G (if m then opNewL (cutW ws lo hi) st else opLst (cutW ws lo hi) st) Q →
      ∃ T id, typeLookup (.type T) "__getitem__" = pure (some (.builtin id)) ∧ s.TypeIs v T ∧ wpAny (model X.prog X.w) X.A (getItem v (.ref sl)) (EP X pins σ Q) X.xe s := by
    intro a xs ws ev ex hq t q
    refine sl_list pins s σ H x v vl vu lo hi sl Q I rx hs pl pu ⟨a, xs, ex, hq, ?_⟩
    cases m with
    | true => rw [if_pos rfl] at q; exact (newL_laid sr (cut_rel t lo hi) q).2
    | false => rw [if_neg Bool.false_ne_true] at q; exact (lst_laid sr (cut_rel t lo hi) q).2
  cases r1 with
  | str z =>
    have q' : wpW X ι st.nxt G (if z.length ≤ sizeLine then .ok (.str (Txt.slice z lo hi)) st else .stuck) Q := q
    by_cases hl : z.length ≤ sizeLine
    · rw [if_pos hl] at q'
      exact sl_str pins s σ H _ v vl vu lo hi sl Q I rx hs pl pu ⟨z, rfl, hl, q' _ ι G H (Ext.refl _ _ _) sr (.str _)⟩
    · rw [if_neg hl] at q'; exact (show False from q').elim
  | tup s1 t1 =>
    rename_i a xs ws
    have hq := sqT_same sr.sub s1
    by_cases hw : HT.sIx xs.length 0 lo = 0 ∧ HT.sIx xs.length xs.length hi = xs.length
    · refine sl_tupAll pins s σ H _ v vl vu lo hi sl Q I rx hs pl pu ⟨a, xs, rfl, hq, hw.1, hw.2, q _ ι G H (Ext.refl _ _ _) sr (.tup s1 ?_)⟩
      have ec : cutW ws lo hi = ws := by
        unfold cutW
        rw [← t1.length, hw.1, hw.2, List.drop_zero, Nat.sub_zero, t1.length, List.take_length]
      rw [ec]; exact t1
    · refine sl_tup pins s σ H _ v vl vu lo hi sl Q I rx hs pl pu ⟨a, xs, rfl, hq, hw, fun p hp => ?_⟩
      obtain ⟨sr2, e2⟩ := sr.laid (o := .tup (cutV xs lo hi)) hp
      exact q _ ι _ _ e2 sr2 (.tup (.inl (.inl upd_same)) ((cut_rel t1 lo hi).mono e2))
  | lst s1 t1 => exact seq rx rfl (sr.sub.seq s1) t1 q
  | ref hn =>
    rename_i n
    have q' : wpW X ι st.nxt G (match itemsOf st (.ref n) with | some ws => if m then opNewL (cutW ws lo hi) st else opLst (cutW ws lo hi) st | none => .stuck) Q := q
    cases hi' : itemsOf st (.ref n) with
    | none => rw [hi'] at q'; exact (show False from q').elim
    | some ws =>
      rw [hi'] at q'
      obtain ⟨a, xs, ea, hq, t⟩ := items_rel sr (.ref hn) hi'
      rcases hq with hq | hq
      · exact seq (by cases ea; exact rx) ea hq t q'
      · exfalso
        have hi2 := hi'
        have hi2 : MO.items (st.mu n) = some ws := hi2
        cases e : st.mu n with
        | none => rw [e] at hi2; cases hi2
        | some o =>
          obtain ⟨_, _, h3⟩ := sr.live n o e
          cases o with
          | lst zs =>
            obtain ⟨vs, qv, _⟩ := h3
            cases ea
            exact not_both I hq (SqL.of qv)
          | dct ks vs => rw [e] at hi2; cases hi2
  | _ => exact (show False from q).elim
def asI : W → Option Int
  | .int i => some i
  | _ => none
def opSlO (m : Bool) (lo hi : Option W) (a : W) (st : S) : R W := match lo, hi with
  | none, none => opSl m none none a st
  | some l, none => (match l with | .int i => opSl m (some i) none a st | _ => .stuck)
  | none, some h => (match h with | .int j => opSl m none (some j) a st | _ => .stuck)
  | some l, some h => (match l, h with | .int i, .int j => opSl m (some i) (some j) a st | _, _ => .stuck)
def runSlNN (m : Bool) (ra : Run) : Run := fun Γ st => (ra Γ st).bind fun w st1 => opSl m none none w st1
def runSlSN (m : Bool) (ra rl : Run) : Run := fun Γ st => (ra Γ st).bind fun w st1 => (rl Γ st1).bind fun l st2 => (match l with | .int i => opSl m (some i) none w st2 | _ => .stuck)
def runSlNS (m : Bool) (ra rh : Run) : Run := fun Γ st => (ra Γ st).bind fun w st1 => (rh Γ st1).bind fun h st2 => (match h with | .int i => opSl m none (some i) w st2 | _ => .stuck)
def runSlSS (m : Bool) (ra rl rh : Run) : Run := fun Γ st => (ra Γ st).bind fun w st1 => (rl Γ st1).bind fun l st2 => (match l with | .int i => (rh Γ st2).bind fun h st3 => (match h with | .int j => opSl m (some i) (some j) w st3 | _ => .stuck) | _ => .stuck)
section
variable {e lo hi : Expr} {pos p2 : Pos} {ra rl rh : Run} {m : Bool}
theorem pd_slNN (ha : PD X e ra) : PD X (.Subscript e (.Slice none none none p2) pos) (runSlNN m ra) := by
  refine PE.imp (pe_slice (sl_w (m := m)) ha po_none po_none) fun σ H Q h => ?_
  obtain ⟨ι, G, st, Γ, en, sr, q⟩ := h
  exact ⟨ι, G, st, Γ, en, sr, wpW.bind q fun w st1 v ι1 G1 H1 _ e1 sr1 r1 q1 => ⟨ι1, G1, st1, w, sr1, r1, q1⟩⟩
theorem pd_slSN (ha : PD X e ra) (hl : PD X lo rl) : PD X (.Subscript e (.Slice (some lo) none none p2) pos) (runSlSN m ra rl) := by
  refine PE.imp (pe_slice (sl_w (m := m)) ha (po_some hl) po_none) fun σ H Q h => ?_
  obtain ⟨ι, G, st, Γ, en, sr, q⟩ := h
  refine ⟨ι, G, st, Γ, en, sr, wpW.bind q fun w st1 v ι1 G1 H1 _ e1 sr1 r1 q1 => ?_⟩
  refine ⟨ι1, G1, st1, Γ, en.mono e1, sr1, wpW.bind q1 fun l st2 v2 ι2 G2 H2 _ e2 sr2 r2 q2 => ?_⟩
  cases l with
  | int i => cases r2; exact ⟨i, rfl, ι2, G2, st2, w, sr2, r1.mono e2, q2⟩
  | _ => exact (show False from q2).elim
theorem pd_slNS (ha : PD X e ra) (hh : PD X hi rh) : PD X (.Subscript e (.Slice none (some hi) none p2) pos) (runSlNS m ra rh) := by
  refine PE.imp (pe_slice (sl_w (m := m)) ha po_none (po_some hh)) fun σ H Q h => ?_
  obtain ⟨ι, G, st, Γ, en, sr, q⟩ := h
  refine ⟨ι, G, st, Γ, en, sr, wpW.bind q fun w st1 v ι1 G1 H1 _ e1 sr1 r1 q1 => ?_⟩
  refine ⟨ι1, G1, st1, Γ, en.mono e1, sr1, wpW.bind q1 fun l st2 v2 ι2 G2 H2 _ e2 sr2 r2 q2 => ?_⟩
  cases l with
  | int i => cases r2; exact ⟨i, rfl, ι2, G2, st2, w, sr2, r1.mono e2, q2⟩
  | _ => exact (show False from q2).elim
theorem pd_slSS (ha : PD X e ra) (hl : PD X lo rl) (hh : PD X hi rh) : PD X (.Subscript e (.Slice (some lo) (some hi) none p2) pos) (runSlSS m ra rl rh) := by
  refine PE.imp (pe_slice (sl_w (m := m)) ha (po_some hl) (po_some hh)) fun σ H Q h => ?_
  obtain ⟨ι, G, st, Γ, en, sr, q⟩ := h
  refine ⟨ι, G, st, Γ, en, sr, wpW.bind q fun w st1 v ι1 G1 H1 _ e1 sr1 r1 q1 => ?_⟩
  refine ⟨ι1, G1, st1, Γ, en.mono e1, sr1, wpW.bind q1 fun l st2 v2 ι2 G2 H2 _ e2 sr2 r2 q2 => ?_⟩
  cases l with
  | int i =>
    cases r2
    refine ⟨i, rfl, ι2, G2, st2, Γ, (en.mono e1).mono e2, sr2, wpW.bind q2 fun h st3 v3 ι3 G3 H3 _ e3 sr3 r3 q3 => ?_⟩
    cases h with
    | int j => cases r3; exact ⟨j, rfl, ι3, G3, st3, w, sr3, (r1.mono e2).mono e3, q3⟩
    | _ => exact (show False from q3).elim
  | _ => exact (show False from q2).elim
end

/-! ### built-in calls -/
def opLen : OpN := fun ws st => match ws with
  | [.str z] => if z.length ≤ sizeLine then .ok (.int z.length) st else .stuck
  | [w] => match itemsOf st w with
    | some xs => .ok (.int xs.length) st
    | none => .stuck
  | _ => .stuck
def bools : List W → Option (List Bool)
  | [] => some []
  | .bl b :: ws => (bools ws).map (b :: ·)
  | _ :: _ => none
def opAll : OpN := fun ws st => match ws with
  | [.lst xs] => (match bools xs with | some bs => .ok (.bl (bs.all id)) st | none => .stuck)
  | _ => .stuck
def opAny : OpN := fun ws st => match ws with
  | [.lst xs] => (match bools xs with | some bs => .ok (.bl (bs.any id)) st | none => .stuck)
  | _ => .stuck
def opTuple : OpN := fun ws st => match ws with
  | [.tup xs] => .ok (.tup xs) st
  | [w] => match itemsOf st w with
    | some xs => opTup xs st
    | none => .stuck
  | _ => .stuck
def opList (m : Bool) : OpN := fun ws st => match ws with
  | [w] => match itemsOf st w with
    | some xs => if m then opNewL xs st else opLst xs st
    | none => .stuck
  | _ => .stuck
def opAbs : OpN := fun ws st => match ws with
  | [.int i] => .ok (.int (if i < 0 then -i else i)) st
  | _ => .stuck
def opInt : OpN := fun ws st => match ws with
  | [.int i] => .ok (.int i) st
  | [.bl b] => .ok (.int (if b then 1 else 0)) st
  | _ => .stuck
def opMax : OpN := fun ws st => match ws with
  | [.int i, .int j] => .ok (.int (if j > i then j else i)) st
  | _ => .stuck
def opMin : OpN := fun ws st => match ws with
  | [.int i, .int j] => .ok (.int (if j < i then j else i)) st
  | _ => .stuck
theorem bools_map : ∀ {ws : List W} {bs : List Bool}, bools ws = some bs → ws = bs.map W.bl
  | [], bs, h => by cases h; rfl
  | w :: ws, bs, h => by
    cases w with
    | bl b =>
      have h' : (bools ws).map (b :: ·) = some bs := h
      cases e : bools ws with
      | none => rw [e] at h'; cases h'
      | some cs => rw [e] at h'; cases h'; rw [List.map_cons, ← bools_map e]
    | _ => cases h
theorem rel1 {K : PySem.W.Frag} {ι : Nat → Addr} {N : Nat} {G : Hp} {xs : List V} {w : W} (t : RelWs K ι N G xs [w]) : ∃ v, xs = [v] ∧ RelW K ι N G v w := by
  cases t with
  | cons r t => cases t; exact ⟨_, rfl, r⟩
theorem rel2 {K : PySem.W.Frag} {ι : Nat → Addr} {N : Nat} {G : Hp} {xs : List V} {w w' : W} (t : RelWs K ι N G xs [w, w']) : ∃ v v', xs = [v, v'] ∧ RelW K ι N G v w ∧ RelW K ι N G v' w' := by
  cases t with
  | cons r t => obtain ⟨v, rfl, r'⟩ := rel1 t; exact ⟨_, _, rfl, r, r'⟩
theorem cw_len : CallW X (.builtin "len") opLen := by
  intro pins s σ H ι G st xs ws us Q I sr rv t q
  match ws, t, q with
  | [w], t, q =>
    obtain ⟨v, rfl, r⟩ := rel1 t
    have seq : ∀ {zs : List W}, itemsOf st w = some zs → wpW X ι st.nxt G (.ok (.int zs.length) st) Q → wpAny (model X.prog X.w) X.A (call (.builtin "len") us) (EP X pins σ Q) X.xe s := by
      intro zs hi q
      obtain ⟨a, ys, ea, hq, t2⟩ := items_rel sr r hi
      subst ea
      refine call_len_seq pins s σ H _ us Q I rv ⟨a, ys, rfl, hq, ?_⟩
      rw [t2.length]
      exact q _ ι G H (Ext.refl _ _ _) sr (.int _)
    cases w with
    | str z =>
      cases r
      have q' : wpW X ι st.nxt G (if z.length ≤ sizeLine then .ok (.int z.length) st else .stuck) Q := q
      by_cases hl : z.length ≤ sizeLine
      · rw [if_pos hl] at q'
        exact call_len_str pins s σ H _ us Q I rv ⟨z, rfl, hl, q' _ ι G H (Ext.refl _ _ _) sr (.int _)⟩
      · rw [if_neg hl] at q'; exact (show False from q').elim
    | tup zs => exact seq rfl q
    | lst zs => exact seq rfl q
    | ref n =>
      have q' : wpW X ι st.nxt G (match itemsOf st (.ref n) with | some xs => .ok (.int xs.length) st | none => .stuck) Q := q
      cases hi : itemsOf st (.ref n) with
      | none => rw [hi] at q'; exact (show False from q').elim
      | some zs => rw [hi] at q'; exact seq hi q'
    | _ => exact (show False from q).elim
  | [], _, q => exact (show False from q).elim
  | w :: w' :: ws, _, q => exact (show False from (by cases w <;> exact q)).elim
theorem cw_all (hc : X.calm = true) : CallW X (.builtin "all") opAll := by
  intro pins s σ H ι G st xs ws us Q I sr rv t q
  unfold opAll at q
  split at q
  · rename_i zs
    cases e : bools zs with
    | none => rw [e] at q; exact (show False from q).elim
    | some bs =>
      rw [e] at q
      obtain ⟨v, rfl, r⟩ := rel1 t
      cases r with
      | lst s1 t1 =>
        rw [bools_map e] at t1
        have e2 := t1.bls
        subst e2
        exact call_allB hc pins s σ H _ us Q I rv ⟨_, bs, rfl, sr.sub.seq s1, q _ ι G H (Ext.refl _ _ _) sr (.bl _)⟩
  · exact (show False from q).elim
theorem cw_any (hc : X.calm = true) : CallW X (.builtin "any") opAny := by
  intro pins s σ H ι G st xs ws us Q I sr rv t q
  unfold opAny at q
  split at q
  · rename_i zs
    cases e : bools zs with
    | none => rw [e] at q; exact (show False from q).elim
    | some bs =>
      rw [e] at q
      obtain ⟨v, rfl, r⟩ := rel1 t
      cases r with
      | lst s1 t1 =>
        rw [bools_map e] at t1
        have e2 := t1.bls
        subst e2
        exact call_anyB hc pins s σ H _ us Q I rv ⟨_, bs, rfl, sr.sub.seq s1, q _ ι G H (Ext.refl _ _ _) sr (.bl _)⟩
  · exact (show False from q).elim
theorem cw_list {m : Bool} : CallW X (.type "list") (opList m) := by
  intro pins s σ H ι G st xs ws us Q I sr rv t q
  unfold opList at q
  split at q
  · rename_i w
    cases hi : itemsOf st w with
    | none => rw [hi] at q; exact (show False from q).elim
    | some zs =>
      rw [hi] at q
      obtain ⟨v, rfl, r⟩ := rel1 t
      obtain ⟨a, ys, ea, hq, t2⟩ := items_rel sr r hi
      subst ea
      refine call_list_of pins s σ H _ us Q I rv ⟨a, ys, rfl, hq, ?_⟩
      cases m with
      | true => exact (newL_laid sr t2 q).2
      | false => exact (lst_laid sr t2 q).2
  · exact (show False from q).elim
theorem cw_tuple : CallW X (.type "tuple") opTuple := by
  intro pins s σ H ι G st xs ws us Q I sr rv t q
  unfold opTuple at q
  split at q
  · rename_i zs
    obtain ⟨v, rfl, r⟩ := rel1 t
    cases r with
    | tup s1 t1 => exact call_tuple_of pins s σ H _ us Q I rv ⟨_, _, rfl, .inr ⟨sqT_same sr.sub s1, q _ ι G H (Ext.refl _ _ _) sr (.tup s1 t1)⟩⟩
  · rename_i w hne
    cases hi : itemsOf st w with
    | none => rw [hi] at q; exact (show False from q).elim
    | some zs =>
      rw [hi] at q
      obtain ⟨v, rfl, r⟩ := rel1 t
      obtain ⟨a, ys, ea, hq, t2⟩ := items_rel sr r hi
      subst ea
      rcases hq with hq | hq
      · exact call_tuple_of pins s σ H _ us Q I rv ⟨a, ys, rfl, .inl ⟨hq, (tup_laid sr t2 q).2⟩⟩
      · exfalso
        cases r with
        | tup s1 t1 => exact hne _ rfl
        | lst s1 t1 => exact not_both I hq (sr.sub.seq s1)
        | @ref n hn =>
          have hi : MO.items (st.mu n) = some zs := hi
          cases e : st.mu n with
          | none => rw [e] at hi; cases hi
          | some o =>
            obtain ⟨_, _, h3⟩ := sr.live n o e
            cases o with
            | lst zs => obtain ⟨vs, qv, _⟩ := h3; exact not_both I hq (SqL.of qv)
            | dct ks vs => rw [e] at hi; cases hi
        | _ => cases hi
  · exact (show False from q).elim
theorem cw_abs : CallW X (.builtin "abs") opAbs := by
  intro pins s σ H ι G st xs ws us Q I sr rv t q
  unfold opAbs at q
  split at q
  · obtain ⟨v, rfl, r⟩ := rel1 t
    cases r
    exact call_abs pins s σ H _ us Q I rv ⟨_, rfl, q _ ι G H (Ext.refl _ _ _) sr (.int _)⟩
  · exact (show False from q).elim
theorem cw_int : CallW X (.type "int") opInt := by
  intro pins s σ H ι G st xs ws us Q I sr rv t q
  unfold opInt at q
  split at q
  · obtain ⟨v, rfl, r⟩ := rel1 t
    cases r
    exact call_int1 pins s σ H _ us Q I rv (.inl ⟨_, rfl, q _ ι G H (Ext.refl _ _ _) sr (.int _)⟩)
  · obtain ⟨v, rfl, r⟩ := rel1 t
    cases r
    exact call_int1 pins s σ H _ us Q I rv (.inr ⟨_, rfl, q _ ι G H (Ext.refl _ _ _) sr (.int _)⟩)
  · exact (show False from q).elim
theorem cw_max (hc : X.calm = true) : CallW X (.builtin "max") opMax := by
  intro pins s σ H ι G st xs ws us Q I sr rv t q
  unfold opMax at q
  split at q
  · obtain ⟨v, v', rfl, r, r'⟩ := rel2 t
    cases r; cases r'
    exact call_max2 hc pins s σ H _ us Q I rv ⟨_, _, rfl, q _ ι G H (Ext.refl _ _ _) sr (.int _)⟩
  · exact (show False from q).elim
/-! ### isinstance -/
def MO.kind : Option MO → Option String
  | some (.lst _) => some "list"
  | some (.dct _ _) => some "dict"
  | none => none
def kindW (st : S) : W → Option String
  | .non => some "NoneType"
  | .bl _ => some "bool"
  | .int _ => some "int"
  | .str _ => some "str"
  | .tup _ => some "tuple"
  | .lst _ => some "list"
  | .dct _ _ => some "dict"
  | .ref n => MO.kind (st.mu n)
  | .ty _ => none
def isKind (k T : String) : Bool := k == T || (k == "bool" && T == "int")
def kinds : List String := ["NoneType", "bool", "int", "str", "tuple", "list", "dict"]
def opIsi : OpN := fun ws st => match ws with
  | [w, .ty T] => if kinds.contains T then (match kindW st w with | some k => .ok (.bl (isKind k T)) st | none => .stuck) else .stuck
  | _ => .stuck
end
end DL
/-! DATA LAYER 5: walks, comprehensions, calls, statements -/
namespace DL
open PySem PySem.Spec PyProof.Rows L2
section
variable {X : Cx}

/-! ### walks -/
/-- a walk gives just these items, now and later -/
structure SrcR (K : PySem.W.Frag) (J : It) (items : List W) (ι : Nat → Addr) (N : Nat) (G : Hp) : Prop where
  go : ∀ (i : Nat) (w : W) (ι' : Nat → Addr) (N' : Nat) (G' H' : Hp), items[i]? = some w → Ext ι N G ι' N' G' → Same G' H' → J.go i H' ∧ ∀ v H'', J.yld i H' v H'' → H'' = H' ∧ RelW K ι' N' G' v w
  stop : ∀ (G' H' : Hp), Same G G' → Same G' H' → J.stop items.length H'
abbrev Src := Ga → S → R (List W)
def tDI (X : Cx) (src : Src) : TI := fun σ H Rr => ∃ ι G st Γ, EnvR X.K ι st.nxt G σ Γ ∧ SR X.K ι st G H ∧ (match src Γ st with
  | .ok items st' => ∀ J ι' G' H', Ext ι st.nxt G ι' st'.nxt G' → SR X.K ι' st' G' H' → SrcR X.K J items ι' st'.nxt G' → Rr J H'
  | .ex c st' => XW X ι st.nxt G c st'
  | .stuck => False)
abbrev PDI (X : Cx) (tg iter : Expr) (src : Src) : Prop := PI X tg iter (tDI X src)
theorem PI.imp {tg e : Expr} {t t' : TI} (h : PI X tg e t) (k : ∀ σ H Q, t' σ H Q → t σ H Q) : PI X tg e t' := fun pins s σ H Q I q => h pins s σ H Q I (k σ H Q q)
def iSeq (K : PySem.W.Frag) (tl : TE) : TI := fun σ H R => tl σ H fun x H1 => (∃ a, x = .ref a ∧ (∃ xs, SqL K H1 a xs) ∧ R (Itl K a) H1) ∨ (∃ a, x = .ref a ∧ (∃ xs, SqT K H1 a xs) ∧ R (Itt K a) H1) ∨ ∃ z, x = .str z ∧ R (Its z) H1
theorem pi_seq {y : Str} {py : Pos} {l : Expr} {tl : TE} (hl : PE X l tl) : PI X (.Name y py) l (iSeq X.K tl) := by
  intro pins s σ H R I h
  refine thn (hl pins s σ H _ I h) fun v s1 ⟨x, H1, I1, r1, q1⟩ => ?_
  rcases q1 with ⟨a, e, ⟨xs, hq⟩, q⟩ | ⟨a, e, ⟨xs, hq⟩, q⟩ | ⟨z, e, q⟩
  · subst e
    cases r1
    obtain ⟨its, rv, p, hz⟩ := I1.list hq
    refine wpAny_pyIter_list p.isList ?_
    refine ⟨s1.heap.objs.size, [s1.heap.objs.size], _, _, H1, rfl, I1.kept (t' := s1.toks) fun b o e => Heap.get?_push_of_some _ e, turn_list a _, ⟨_, Heap.get?_push_size _ rfl, rfl, rfl⟩, fun b hb => ?_, q⟩
    have e : b = s1.heap.objs.size := by simpa using hb
    subst e
    exact I1.fpOk (Nat.le_refl _) (I1.hok.fresh (Nat.le_refl _))
  · subst e
    cases r1
    obtain ⟨its, rv, p, hz⟩ := I1.tuple hq
    refine wpAny_pyIter_tuple (show s1.heap.IsTuple a its.toArray from p) ?_
    refine ⟨s1.heap.objs.size, [s1.heap.objs.size], _, _, H1, rfl, I1.kept (t' := s1.toks) fun b o e => Heap.get?_push_of_some _ e, turn_tuple a _, ⟨_, Heap.get?_push_size _ rfl, rfl, rfl⟩, fun b hb => ?_, q⟩
    have e : b = s1.heap.objs.size := by simpa using hb
    subst e
    exact I1.fpOk (Nat.le_refl _) (I1.hok.fresh (Nat.le_refl _))
  · subst e
    obtain ⟨t, rfl⟩ := r1
    have fp : ∀ b ∈ [s1.heap.objs.size], FpOk X pins H1 b := fun b hb => by
      have e : b = s1.heap.objs.size := by simpa using hb
      subst e
      exact I1.fpOk (Nat.le_refl _) (I1.hok.fresh (Nat.le_refl _))
    cases ha : z.cps.all (· < 128)
    · refine wpAny_pyIter_wide ha ?_
      exact ⟨s1.heap.objs.size, [s1.heap.objs.size], _, _, H1, rfl, I1.kept (t' := s1.toks) fun b o e => Heap.get?_push_of_some _ e,
        turn_str (fun A' hA => Walks.strWide hA _ z t) (fun i h st => by obtain ⟨o, e, c, d⟩ := st; exact ⟨o, e, fun v z => by rw [d] at z; cases z⟩) (fun _ _ _ _ _ st h => wpAny_pyIter_striter_wide st h),
        ⟨Nat.zero_le _, ⟨_, Heap.get?_push_size _ rfl, rfl, rfl⟩⟩, fp, q⟩
    · refine wpAny_pyIter_ascii ha ?_
      exact ⟨s1.heap.objs.size, [s1.heap.objs.size], _, _, H1, rfl, I1.kept (t' := s1.toks) fun b o e => Heap.get?_push_of_some _ e,
        turn_str (fun A' hA => Walks.strAscii hA _ z t) (fun i h st => by obtain ⟨o, e, c, d⟩ := st; exact ⟨o, e, fun v z => by rw [d] at z; cases z⟩) (fun _ _ _ _ _ st h => wpAny_pyIter_striter_ascii st h),
        ⟨Nat.zero_le _, ⟨_, Heap.get?_push_size _ rfl, rfl, rfl⟩⟩, fp, q⟩
def signs (z : Str) : List W := z.cps.toList.map fun c => W.str ⟨#[c]⟩
def srcOf : W → Option (List W)
  | .lst xs => some xs
  | .tup xs => some xs
  | .str z => some (signs z)
  | _ => none
def runSrc (r : Run) : Src := fun Γ st => (r Γ st).bind fun w st1 => match srcOf w with
  | some xs => .ok xs st1
  | none => .stuck
theorem src_list {K : PySem.W.Frag} {ι : Nat → Addr} {N : Nat} {G : Hp} {a : Addr} {xs : List V} {ws : List W} (h : SqL K G a xs) (t : RelWs K ι N G xs ws) : SrcR K (Itl K a) ws ι N G where
  go := fun i w ι' N' G' H' hw e sm => by
    obtain ⟨v, hv, rv⟩ := (t.mono e).get hw
    have hq : SqL K H' a xs := sm.seq (e.sm.seq h)
    refine ⟨⟨xs, v, hq, hv⟩, fun v' H'' ⟨e1, y⟩ => ⟨e1, ?_⟩⟩
    have := y xs hq
    rw [hv] at this
    cases this
    exact rv
  stop := fun G' H' sm sm' => ⟨xs, sm'.seq (sm.seq h), by rw [t.length]; exact Nat.le_refl _⟩
theorem src_tup {K : PySem.W.Frag} {ι : Nat → Addr} {N : Nat} {G : Hp} {a : Addr} {xs : List V} {ws : List W} (h : SqT K G a xs) (t : RelWs K ι N G xs ws) : SrcR K (Itt K a) ws ι N G where
  go := fun i w ι' N' G' H' hw e sm => by
    obtain ⟨v, hv, rv⟩ := (t.mono e).get hw
    have hq : SqT K H' a xs := sqT_same sm (sqT_same e.sm h)
    refine ⟨⟨xs, v, hq, hv⟩, fun v' H'' ⟨e1, y⟩ => ⟨e1, ?_⟩⟩
    have := y xs hq
    rw [hv] at this
    cases this
    exact rv
  stop := fun G' H' sm sm' => ⟨xs, sqT_same sm' (sqT_same sm h), by rw [t.length]; exact Nat.le_refl _⟩
theorem src_str {K : PySem.W.Frag} {ι : Nat → Addr} {N : Nat} {G : Hp} (z : Str) : SrcR K (Its z) (signs z) ι N G where
  go := fun i w ι' N' G' H' hw e sm => by
    unfold signs at hw
    rw [List.getElem?_map] at hw
    cases hc : z.cps.toList[i]? with
    | none => rw [hc] at hw; cases hw
    | some c =>
      rw [hc] at hw
      cases hw
      have hc' : z.cps[i]? = some c := by simpa using hc
      have hi : i < z.cps.size := (Array.getElem?_eq_some_iff.mp hc').1
      refine ⟨hi, fun v' H'' ⟨e1, c', h1, h2⟩ => ⟨e1, ?_⟩⟩
      rw [hc'] at h1
      cases h1
      rw [h2]
      exact .str _
  stop := fun G' H' sm sm' => by
    show z.cps.size ≤ (signs z).length
    unfold signs
    simp
def rangeW (lo : Int) (n : Nat) : List W := (List.range n).map fun (i : Nat) => W.int (lo + i)
theorem src_range {K : PySem.W.Frag} {ι : Nat → Addr} {N : Nat} {G : Hp} (lo : Int) (n : Nat) : SrcR K (Itr lo n) (rangeW lo n) ι N G where
  go := fun i w ι' N' G' H' hw e sm => by
    unfold rangeW at hw
    rw [List.getElem?_map] at hw
    by_cases hi : i < n
    · rw [List.getElem?_range hi] at hw
      cases hw
      refine ⟨hi, fun v' H'' ⟨e1, h2⟩ => ⟨e1, ?_⟩⟩
      rw [h2]
      exact .int _
    · rw [List.getElem?_eq_none (by simp; omega)] at hw; cases hw
  stop := fun G' H' sm sm' => by
    show n ≤ (rangeW lo n).length
    unfold rangeW
    simp
theorem pdi_val {y : Str} {py : Pos} {l : Expr} {r : Run} (h : PD X l r) : PDI X (.Name y py) l (runSrc r) := by
  refine PI.imp (pi_seq h) fun σ H Q hq => ?_
  obtain ⟨ι, G, st, Γ, en, sr, q⟩ := hq
  refine ⟨ι, G, st, Γ, en, sr, ?_⟩
  unfold runSrc at q
  cases e1 : r Γ st with
  | stuck => rw [e1] at q; exact q
  | ex c s => rw [e1] at q; exact q
  | ok w st1 =>
    rw [e1] at q
    intro v ι1 G1 H1 x1 sr1 r1
    have q' : match (match srcOf w with | some xs => R.ok xs st1 | none => R.stuck) with
      | .ok items st' => ∀ J ι' G' H', Ext ι st.nxt G ι' st'.nxt G' → SR X.K ι' st' G' H' → SrcR X.K J items ι' st'.nxt G' → Q J H'
      | .ex c st' => XW X ι st.nxt G c st'
      | .stuck => False := q
    cases r1 with
    | tup s1 t1 => exact .inr (.inl ⟨_, rfl, ⟨_, sqT_same sr1.sub s1⟩, q' _ ι1 G1 H1 x1 sr1 (src_tup s1 t1)⟩)
    | lst s1 t1 => exact .inl ⟨_, rfl, ⟨_, sr1.sub.seq s1⟩, q' _ ι1 G1 H1 x1 sr1 (src_list s1 t1)⟩
    | str z => exact .inr (.inr ⟨z, rfl, q' _ ι1 G1 H1 x1 sr1 (src_str z)⟩)
    | _ => exact q'.elim
def inRange (j : Int) : Prop := -(2 ^ 62) ≤ j ∧ j < 2 ^ 62
instance (j : Int) : Decidable (inRange j) := by unfold inRange; infer_instance
def runRng1 (r : Run) : Src := fun Γ st => (r Γ st).bind fun w st1 => match w with
  | .int j => if inRange j then .ok (rangeW 0 j.toNat) st1 else .stuck
  | _ => .stuck
def runRng2 (r r' : Run) : Src := fun Γ st => (r Γ st).bind fun w st1 => (r' Γ st1).bind fun w' st2 => match w, w' with
  | .int i, .int j => if inRange i ∧ inRange j then .ok (rangeW i (j - i).toNat) st2 else .stuck
  | _, _ => .stuck
theorem pdi_range1 {tg a : Expr} {p pos : Pos} {ra : Run} (hg : Gl X "range") (hm : X.mg "range" = none) (ha : PD X a ra) (hs : starEach [a] X.env = [(false, eval a X.env)]) : PDI X tg (.Call (.Name "range" p) [a] [] pos) (runRng1 ra) := by
  refine PI.imp (pi_range1 hg hm (pda_cons ha pda_nil hs) hs) fun σ H Q hq => ?_
  obtain ⟨ι, G, st, Γ, en, sr, q⟩ := hq
  refine ⟨ι, G, st, Γ, en, sr, ?_⟩
  unfold runRng1 at q
  unfold runsCons runsNil
  cases e1 : ra Γ st with
  | stuck => rw [e1] at q; exact q
  | ex c s => rw [e1] at q; exact q
  | ok w st1 =>
    rw [e1] at q
    intro vs ι1 G1 H1 x1 sr1 r1
    obtain ⟨v, rfl, r2⟩ := rel1 r1
    cases r2 with
    | int j =>
      by_cases hr : inRange j
      · have q' : match (if inRange j then R.ok (rangeW 0 j.toNat) st1 else R.stuck) with
          | .ok items st' => ∀ J ι' G' H', Ext ι st.nxt G ι' st'.nxt G' → SR X.K ι' st' G' H' → SrcR X.K J items ι' st'.nxt G' → Q J H'
          | .ex c st' => XW X ι st.nxt G c st'
          | .stuck => False := q
        rw [if_pos hr] at q'
        exact ⟨j, rfl, hr.1, hr.2, q' _ ι1 G1 H1 x1 sr1 (src_range 0 _)⟩
      · have q' : match (if inRange j then R.ok (rangeW 0 j.toNat) st1 else R.stuck) with
          | .ok items st' => ∀ J ι' G' H', Ext ι st.nxt G ι' st'.nxt G' → SR X.K ι' st' G' H' → SrcR X.K J items ι' st'.nxt G' → Q J H'
          | .ex c st' => XW X ι st.nxt G c st'
          | .stuck => False := q
        rw [if_neg hr] at q'
        exact q'.elim
    | _ => exact (show False from q).elim

/-! ### readings that come to an end -/
def R.calm {α : Type} : R α → R α
  | .ok a s => .ok a s
  | _ => .stuck
def wp0 (K : PySem.W.Frag) (ι : Nat → Addr) (N : Nat) (G : Hp) (r : R W) (Q : VK) : Prop := match r with
  | .ok w st' => ∀ v ι' G' H', Ext ι N G ι' st'.nxt G' → SR K ι' st' G' H' → RelW K ι' st'.nxt G' v w → Q v H'
  | _ => False
def tD0 (K : PySem.W.Frag) (run : Run) : TE := fun σ H Q => ∃ ι G st Γ, EnvR K ι st.nxt G σ Γ ∧ SR K ι st G H ∧ wp0 K ι st.nxt G (run Γ st) Q
def tT0 (K : PySem.W.Frag) (run : Run) : TT := fun σ H Q => tD0 K run σ H fun v H' => ∃ b, v = .bl b ∧ Q b H'
theorem tD0_tD {run : Run} {σ : St} {H : Hp} {Q : VK} (h : tD0 X.K run σ H Q) : tD X run σ H Q := by
  obtain ⟨ι, G, st, Γ, en, sr, q⟩ := h
  refine ⟨ι, G, st, Γ, en, sr, ?_⟩
  cases e : run Γ st with
  | ok w st' => rw [e] at q; exact q
  | ex c s => rw [e] at q; exact q.elim
  | stuck => rw [e] at q; exact q
theorem PD.calm {e : Expr} {run : Run} (h : PD X e run) : PE X e (tD0 X.K run) := PE.imp h fun _ _ _ q => tD0_tD q
theorem PT.calm {e : Expr} {run : Run} (h : PT X e (tDT X run)) : PT X e (tT0 X.K run) := PT.imp h fun _ _ _ q => tD0_tD q

/-! ### comprehensions -/
def compGo (rt re : Run) (Γc : Ga) : List W → List W → S → R (List W)
  | [], acc, st => .ok acc st
  | x :: xs, acc, st => (rt (some x :: Γc) st).calm.bind fun b st1 => match b with
    | .bl true => (re (some x :: Γc) st1).calm.bind fun y st2 => compGo rt re Γc xs (acc ++ [y]) st2
    | .bl false => compGo rt re Γc xs acc st1
    | _ => .stuck
def capG (cap : List Nat) (Γ : Ga) : Ga := cap.map fun j => (Γ[j]?).getD none
def opL (m : Bool) : OpN := if m then opNewL else opLst
def runComp (m : Bool) (src : Src) (cap : List Nat) (rt re : Run) : Run := fun Γ st => (src Γ st).bind fun items st1 => if items.length < sizeLine then (compGo rt re (capG cap Γ) items [] st1).bind (opL m) else .stuck
theorem cap_env {K : PySem.W.Frag} {ι : Nat → Addr} {N : Nat} {G : Hp} {σ : St} {Γ : Ga} {v : V} {w : W} (cap : List Nat) (en : EnvR K ι N G σ Γ) (r : RelW K ι N G v w) : EnvR K ι N G (capS cap σ (some v)) (some w :: capG cap Γ) := by
  refine ⟨by unfold capS capG; simp, fun i u h => ?_⟩
  cases i with
  | zero =>
    have h' : some (some w) = some (some u) := by simpa using h
    cases h'
    exact ⟨v, by unfold capS; simp, r⟩
  | succ i =>
    have h' : (capG cap Γ)[i]? = some (some u) := by simpa using h
    unfold capG at h'
    rw [List.getElem?_map] at h'
    cases hj : cap[i]? with
    | none => rw [hj] at h'; cases h'
    | some j =>
      rw [hj] at h'
      have h2 : (Γ[j]?).getD none = some u := Option.some.inj h'
      cases hg : Γ[j]? with
      | none => rw [hg] at h2; cases h2
      | some o =>
        rw [hg] at h2
        have h3 : o = some u := h2
        subst h3
        obtain ⟨z, h4, h5⟩ := en.get j u hg
        refine ⟨z, ?_, h5⟩
        unfold capS
        rw [List.getElem?_cons_succ, List.getElem?_map, hj]
        show some ((σ[j]?).getD none) = some (some z)
        rw [h4]; rfl
/-- the list at the end -/
def wpL (X : Cx) (m : Bool) (ι : Nat → Addr) (N : Nat) (G : Hp) (r : R (List W)) (Q : VK) : Prop := match r with
  | .ok ys st => wpW X ι N G (opL m ys st) Q
  | .ex c st => XW X ι N G c st
  | .stuck => False
theorem wpL_bind {m : Bool} {ι : Nat → Addr} {N : Nat} {G : Hp} {r : R (List W)} {Q : VK} (h : wpW X ι N G (r.bind (opL m)) Q) : wpL X m ι N G r Q := by
  cases r <;> exact h
theorem wpL.later {m : Bool} {ι ι1 : Nat → Addr} {N N1 : Nat} {G G1 : Hp} {r : R (List W)} {Q : VK} (e : Ext ι N G ι1 N1 G1) (h : wpL X m ι N G r Q) : wpL X m ι1 N1 G1 r Q := by
  cases r with
  | stuck => exact h
  | ex c s => exact XW.mono e h
  | ok w st' => exact wpW.later e h
theorem wpL_step {m : Bool} {ι : Nat → Addr} {N : Nat} {G : Hp} {r : R W} {f : W → S → R (List W)} {Q : VK} {Q' : VK} {K : PySem.W.Frag} (hK : K = X.K) (h : wpL X m ι N G (r.calm.bind f) Q)
    (k : ∀ w st' v ι' G' H', Ext ι N G ι' st'.nxt G' → SR X.K ι' st' G' H' → RelW X.K ι' st'.nxt G' v w → wpL X m ι' st'.nxt G' (f w st') Q → Q' v H') : wp0 K ι N G r Q' := by
  subst hK
  cases r with
  | stuck => exact h
  | ex c s => exact (show False from h).elim
  | ok w st' => exact fun v ι' G' H' e sr rel => k w st' v ι' G' H' e sr rel (wpL.later e (show wpL X m ι N G (f w st') Q from h))
theorem pd_comp {scope : Scope} {x : Str} {px pos : Pos} {cl : List (Str × Addr)} {N : List Str} {cap : List Nat} {elt iter : Expr} {ifs : List Expr} {src : Src} {rt re : Run} {m : Bool} (hc : X.calm = true) (hi : PDI X (.Name x px) iter src) (Sc : CompSc X scope x cl N cap)
    (ht : ∀ C s H ex, PTs (cxComp X scope cl C N s H ex) ifs (tT0 X.K rt)) (he : ∀ C s H ex, PE (cxComp X scope cl C N s H ex) elt (tD0 X.K re)) (hs : ∀ z, foldedSetIterable iter X.env z = pure z) :
    PD X (.ListComp elt [⟨.Name x px, iter, ifs, 0⟩] scope pos) (runComp m src cap rt re) ∧
    (∀ {i : Nat} {y : Str} {py spos : Pos}, X.N.Nodup → X.N[i]? = some y → X.env.scope.names.lookup y = some .local → swapsWith (.ListComp elt [⟨.Name x px, iter, ifs, 0⟩] scope pos) (some (.Name y py)) spos.line X.env = pure true →
      PS X (.Assign [.Name y py] (.ListComp elt [⟨.Name x px, iter, ifs, 0⟩] scope pos) spos) (tAsg (tD X (runComp m src cap rt re)) (gName i))) := by
  have key : ∀ σ H Q, tD X (runComp m src cap rt re) σ H Q → tComp (tDI X src) cap (tT0 X.K rt) (tD0 X.K re) σ H Q := by
    intro σ H Q h
    obtain ⟨ι, G, st, Γ, en, sr, q⟩ := h
    refine ⟨ι, G, st, Γ, en, sr, ?_⟩
    unfold runComp at q
    cases e1 : src Γ st with
    | stuck => rw [e1] at q; exact q
    | ex c s => rw [e1] at q; exact q
    | ok items st1 =>
      rw [e1] at q
      intro J ι1 G1 H1 x1 sr1 sc
      have q' : wpW X ι st.nxt G (if items.length < sizeLine then (compGo rt re (capG cap Γ) items [] st1).bind (opL m) else .stuck) Q := q
      by_cases hl : items.length < sizeLine
      · rw [if_pos hl] at q'
        have q1 := wpL.later x1 (wpL_bind q')
        have en1 := en.mono x1
        refine ⟨fun i k ys H' => k = items.length - i ∧ i ≤ items.length ∧ ys.length ≤ i ∧ ∃ ι2 G2 st2 acc, Ext ι1 st1.nxt G1 ι2 st2.nxt G2 ∧ SR X.K ι2 st2 G2 H' ∧ RelWs X.K ι2 st2.nxt G2 ys acc ∧ wpL X m ι2 st2.nxt G2 (compGo rt re (capG cap Γ) (items.drop i) acc st2) Q,
          ⟨items.length, by simp, Nat.zero_le _, Nat.zero_le _, ι1, G1, st1, [], Ext.refl _ _ _, sr1, .nil, by rw [List.drop_zero]; exact q1⟩, ?_⟩
        rintro i k ys H' ⟨rfl, hi', hy, ι2, G2, st2, acc, e2, sr2, ra, q2⟩
        refine ⟨by omega, ?_⟩
        by_cases hlt : i < items.length
        · have hd : items.drop i = items[i] :: items.drop (i + 1) := List.drop_eq_getElem_cons hlt
          have hg : items[i]? = some items[i] := List.getElem?_eq_getElem hlt
          obtain ⟨g1, g2⟩ := sc.go i items[i] ι2 st2.nxt G2 H' hg e2 sr2.sub
          refine .inr ⟨g1, fun v H'' hy' => ?_⟩
          obtain ⟨eh, rv⟩ := g2 v H'' hy'
          subst eh
          rw [hd] at q2
          have q2' : wpL X m ι2 st2.nxt G2 ((rt (some items[i] :: capG cap Γ) st2).calm.bind fun b st3 => match b with
            | .bl true => (re (some items[i] :: capG cap Γ) st3).calm.bind fun y st4 => compGo rt re (capG cap Γ) (items.drop (i + 1)) (acc ++ [y]) st4
            | .bl false => compGo rt re (capG cap Γ) (items.drop (i + 1)) acc st3
            | _ => .stuck) Q := q2
          have en2 : EnvR X.K ι2 st2.nxt G2 (capS cap σ (some v)) (some items[i] :: capG cap Γ) := cap_env cap (en1.mono e2) rv
          refine ⟨ι2, G2, st2, some items[i] :: capG cap Γ, en2, sr2, wpL_step rfl q2' fun b st3 vb ι3 G3 H3 e3 sr3 rb q3 => ?_⟩
          cases b with
          | bl b =>
            cases rb
            refine ⟨b, rfl, ?_⟩
            cases b with
            | true =>
              rw [if_pos rfl]
              refine ⟨ι3, G3, st3, some items[i] :: capG cap Γ, en2.mono e3, sr3, wpL_step rfl q3 fun y st4 vy ι4 G4 H4 e4 sr4 ry q4 => ?_⟩
              refine ⟨items.length - (i + 1), by omega, rfl, hlt, by rw [List.length_append, List.length_singleton]; omega, ι4, G4, st4, acc ++ [y], (e2.trans e3).trans e4, sr4, ((ra.mono e3).mono e4).append (.cons ry .nil), q4⟩
            | false =>
              rw [if_neg Bool.false_ne_true]
              exact ⟨items.length - (i + 1), by omega, rfl, hlt, by omega, ι3, G3, st3, acc, e2.trans e3, sr3, ra.mono e3, q3⟩
          | _ => exact (show False from q3).elim
        · have ei : i = items.length := by omega
          subst ei
          rw [List.drop_length] at q2
          refine .inl ⟨sc.stop G2 H' e2.sm sr2.sub, ?_⟩
          have q3 : wpW X ι2 st2.nxt G2 (opL m acc st2) Q := q2
          cases m with
          | true => exact (newL_laid sr2 ra q3).2
          | false => exact (lst_laid sr2 ra q3).2
      · rw [if_neg hl] at q'; exact (show False from q').elim
  refine ⟨PE.imp (pe_comp hc hi Sc ht he hs) key, fun {i y py spos} hN hy hL hsw => ?_⟩
  exact PS.imp (ps_setComp hN hy hL hc hi Sc ht he hsw hs) fun D σ H h => key σ H _ h

/-! ### calls of the text's defs -/
def SpD (K : PySem.W.Frag) (n : Nat) (op : OpN) : Sp := fun vs H Q _ => vs.length = n ∧ ∃ ι G st ws, SR K ι st G H ∧ RelWs K ι st.nxt G vs ws ∧ wp0 K ι st.nxt G (op ws st) Q
def calmOp (op : OpN) : OpN := fun ws st => (op ws st).calm
theorem wp0_calm {ι : Nat → Addr} {N : Nat} {G : Hp} {r : R W} {Q : VK} (h : wpW X ι N G r.calm Q) : wp0 X.K ι N G r Q := by
  cases r with
  | ok w st => exact h
  | ex c s => exact (show False from h).elim
  | stuck => exact h
theorem pd_call {k n : Nat} {f : Addr} {fd : FuncData} {ps : List Str} {op : OpN} {x : Str} {p pos : Pos} {e : Expr} {es : List Expr} {rr : Runs} (F : FnOk X.prog X.w X.K X.mg X.base CX0 k f fd ps (SpD X.K n op)) (hr : Room k X.A) (hg : Gl X x) (hm : X.mg x = some (.ref f)) (hk : PySem.W.keepIn X.K (.ref f) = true)
    (hb : Binds X.K fd ps []) (ha : PDA X (e :: es) rr) (hn : ∀ Γ st ws st', rr Γ st = .ok ws st' → ws.length = n) (hdb : (x == ("__debug__" : Str)) = false) (he : starEach (e :: es) X.env = (false, eval e X.env) :: starEach es X.env) (hpl : (backTo pos (starEach es X.env)).any (·.1) = false) :
    PD X (.Call (.Name x p) (e :: es) [] pos) (runN rr (calmOp op)) := by
  refine PE.imp (pe_call F hr hg hm hk hb .nil pass0 ha hdb he hpl) fun σ H Q h => ?_
  obtain ⟨ι, G, st, Γ, en, sr, q⟩ := h
  refine ⟨ι, G, st, Γ, en, sr, ?_⟩
  unfold runN at q
  cases e1 : rr Γ st with
  | stuck => rw [e1] at q; exact q
  | ex c s => rw [e1] at q; exact q
  | ok ws st1 =>
    rw [e1] at q
    intro vs ι1 G1 H1 x1 sr1 r1
    rw [List.append_nil]
    exact ⟨by rw [r1.length]; exact hn Γ st ws st1 e1, ι1, G1, st1, ws, sr1, r1, wp0_calm (wpW.later x1 (show wpW X ι st.nxt G (calmOp op ws st1) Q from q))⟩
end
end DL
/-! DATA LAYER 6: statements, a def by its body -/
namespace DL
open PySem PySem.Spec PyProof.Rows L2
inductive Fl where
  | nx (Γ : Ga) | rt (w : W) | bk (Γ : Ga) | ct (Γ : Ga)
abbrev RunS := Ga → S → R Fl
section
variable {X : Cx}
def wpF (X : Cx) (ι : Nat → Addr) (N : Nat) (G : Hp) (r : R Fl) (D : Ends) : Prop := match r with
  | .ok fl st' => ∀ ι' G' H', Ext ι N G ι' st'.nxt G' → SR X.K ι' st' G' H' → (match fl with
    | .nx Γ' => ∀ σ', EnvR X.K ι' st'.nxt G' σ' Γ' → D.nx σ' H'
    | .rt w => ∀ v, RelW X.K ι' st'.nxt G' v w → D.rt v H'
    | .bk Γ' => ∀ σ', EnvR X.K ι' st'.nxt G' σ' Γ' → D.bk σ' H'
    | .ct Γ' => ∀ σ', EnvR X.K ι' st'.nxt G' σ' Γ' → D.ct σ' H')
  | .ex c st' => XW X ι N G c st'
  | .stuck => False
theorem wpF.later {ι ι1 : Nat → Addr} {N N1 : Nat} {G G1 : Hp} {r : R Fl} {D : Ends} (e : Ext ι N G ι1 N1 G1) (h : wpF X ι N G r D) : wpF X ι1 N1 G1 r D := by
  cases r with
  | stuck => exact h
  | ex c s => exact XW.mono e h
  | ok w st' => exact fun ι' G' H' e' sr => h ι' G' H' (e.trans e') sr
theorem wpF_bind {ι : Nat → Addr} {N : Nat} {G : Hp} {r : R W} {f : W → S → R Fl} {D : Ends} {Q' : VK} (h : wpF X ι N G (r.bind f) D)
    (k : ∀ w st' v ι' G' H', Ext ι N G ι' st'.nxt G' → SR X.K ι' st' G' H' → RelW X.K ι' st'.nxt G' v w → wpF X ι' st'.nxt G' (f w st') D → Q' v H') : wpW X ι N G r Q' := by
  cases r with
  | stuck => exact h
  | ex c s => exact h
  | ok w st' => exact fun v ι' G' H' e sr rel => k w st' v ι' G' H' e sr rel (wpF.later e (show wpF X ι N G (f w st') D from h))
def tDS (X : Cx) (run : RunS) : TS := fun D σ H => ∃ ι G st Γ, EnvR X.K ι st.nxt G σ Γ ∧ SR X.K ι st G H ∧ wpF X ι st.nxt G (run Γ st) D
abbrev PDS (X : Cx) (s : Stmt) (run : RunS) : Prop := PS X s (tDS X run)
abbrev PDSs (X : Cx) (s : List Stmt) (run : RunS) : Prop := PSs X s (tDS X run)
def sPass : RunS := fun Γ st => .ok (.nx Γ) st
def sBrk : RunS := fun Γ st => .ok (.bk Γ) st
def sCnt : RunS := fun Γ st => .ok (.ct Γ) st
def sRetN : RunS := fun _ st => .ok (.rt .non) st
def sRet (r : Run) : RunS := fun Γ st => (r Γ st).bind fun w st' => .ok (.rt w) st'
def sDrop (r : Run) : RunS := fun Γ st => (r Γ st).bind fun _ st' => .ok (.nx Γ) st'
def sSet (i : Nat) (r : Run) : RunS := fun Γ st => (r Γ st).bind fun w st' => .ok (.nx (Γ.set i (some w))) st'
def sIf (rc : Run) (a b : RunS) : RunS := fun Γ st => (rc Γ st).bind fun w st' => match w with
  | .bl true => a Γ st'
  | .bl false => b Γ st'
  | _ => .stuck
def sSeq (a b : RunS) : RunS := fun Γ st => (a Γ st).bind fun fl st' => match fl with
  | .nx Γ' => b Γ' st'
  | fl => .ok fl st'
theorem pds_pass {pos : Pos} : PDS X (.Pass pos) sPass := PS.imp ps_pass fun D σ H ⟨ι, G, _, _, en, sr, q⟩ => q ι G H (Ext.refl _ _ _) sr σ en
theorem pds_brk {pos : Pos} : PDS X (.Break pos) sBrk := PS.imp ps_break fun D σ H ⟨ι, G, _, _, en, sr, q⟩ => q ι G H (Ext.refl _ _ _) sr σ en
theorem pds_cnt {pos : Pos} : PDS X (.Continue pos) sCnt := PS.imp ps_continue fun D σ H ⟨ι, G, _, _, en, sr, q⟩ => q ι G H (Ext.refl _ _ _) sr σ en
theorem pds_retN {pos : Pos} : PDS X (.Return none pos) sRetN := PS.imp ps_retN fun D σ H ⟨ι, G, _, _, en, sr, q⟩ => q ι G H (Ext.refl _ _ _) sr .non .non
theorem pds_ret {e : Expr} {pos : Pos} {r : Run} (he : PD X e r) : PDS X (.Return (some e) pos) (sRet r) := by
  refine PS.imp (ps_ret he) fun D σ H ⟨ι, G, st, Γ, en, sr, q⟩ => ⟨ι, G, st, Γ, en, sr, wpF_bind q fun w st1 v ι1 G1 H1 e1 sr1 r1 q1 => ?_⟩
  exact q1 ι1 G1 H1 (Ext.refl _ _ _) sr1 v r1
theorem pds_drop {e : Expr} {pos : Pos} {r : Run} (he : PD X e r) (hs : swapsWith e none pos.line X.env = pure false) : PDS X (.Expr e pos) (sDrop r) := by
  refine PS.imp (ps_expr he hs) fun D σ H ⟨ι, G, st, Γ, en, sr, q⟩ => ⟨ι, G, st, Γ, en, sr, wpF_bind q fun w st1 v ι1 G1 H1 e1 sr1 r1 q1 => ?_⟩
  exact q1 ι1 G1 H1 (Ext.refl _ _ _) sr1 σ (en.mono e1)
theorem asg_set {r : Run} {i : Nat} {D : Ends} {σ : St} {H : Hp} (h : tDS X (sSet i r) D σ H) : tAsg (tD X r) (gName i) D σ H := by
  obtain ⟨ι, G, st, Γ, en, sr, q⟩ := h
  refine ⟨ι, G, st, Γ, en, sr, wpF_bind q fun w st1 v ι1 G1 H1 e1 sr1 r1 q1 => ?_⟩
  exact q1 ι1 G1 H1 (Ext.refl _ _ _) sr1 _ ((en.mono e1).set i r1)
theorem pds_set {i : Nat} {x : Str} {e : Expr} {pos pos' : Pos} {r : Run} (hN : X.N.Nodup) (hi : X.N[i]? = some x) (hx : Loc X.env.scope x) (he : PD X e r) (hs : swapsWith e (some (.Name x pos')) pos.line X.env = pure false) (hf : X.fn x = true ∨ X.env.scope.names.lookup x = some .local) :
    PDS X (.Assign [.Name x pos'] e pos) (sSet i r) := PS.imp (ps_set hN hi hx he hs hf) fun D σ H h => asg_set h
theorem pds_if {c : Expr} {a b : List Stmt} {pos : Pos} {rc : Run} {ra rb : RunS} (hc : PT X c (tDT X rc)) (ha : PDSs X a ra) (hb : PDSs X b rb) : PDS X (.If c a b pos) (sIf rc ra rb) := by
  refine PS.imp (ps_if hc ha hb) fun D σ H ⟨ι, G, st, Γ, en, sr, q⟩ => ⟨ι, G, st, Γ, en, sr, wpF_bind q fun w st1 v ι1 G1 H1 e1 sr1 r1 q1 => ?_⟩
  cases w with
  | bl b =>
    cases r1
    refine ⟨b, rfl, ?_⟩
    cases b with
    | true => rw [if_pos rfl]; exact ⟨ι1, G1, st1, Γ, en.mono e1, sr1, q1⟩
    | false => rw [if_neg Bool.false_ne_true]; exact ⟨ι1, G1, st1, Γ, en.mono e1, sr1, q1⟩
  | _ => exact (show False from q1).elim
theorem pdss_nil : PDSs X [] sPass := PSs.imp pss_nil fun D σ H ⟨ι, G, _, _, en, sr, q⟩ => q ι G H (Ext.refl _ _ _) sr σ en
theorem pdss_cons {s : Stmt} {ss : List Stmt} {a b : RunS} (h1 : PDS X s a) (h2 : PDSs X ss b) : PDSs X (s :: ss) (sSeq a b) := by
  refine PSs.imp (pss_cons h1 h2) fun D σ H ⟨ι, G, st, Γ, en, sr, q⟩ => ⟨ι, G, st, Γ, en, sr, ?_⟩
  unfold sSeq at q
  cases e1 : a Γ st with
  | stuck => rw [e1] at q; exact q
  | ex c s => rw [e1] at q; exact q
  | ok fl st1 =>
    rw [e1] at q
    intro ι1 G1 H1 x1 sr1
    cases fl with
    | nx Γ1 => exact fun σ1 en1 => ⟨ι1, G1, st1, Γ1, en1, sr1, wpF.later x1 (show wpF X ι st.nxt G (b Γ1 st1) D from q)⟩
    | rt w => exact q ι1 G1 H1 x1 sr1
    | bk Γ1 => exact q ι1 G1 H1 x1 sr1
    | ct Γ1 => exact q ι1 G1 H1 x1 sr1
/-! ### for -/
def loopS (i : Nat) (body : RunS) : List W → Ga → S → R Fl
  | [], Γ, st => .ok (.nx Γ) st
  | x :: xs, Γ, st => (body (Γ.set i (some x)) st).bind fun fl st' => match fl with
    | .nx Γ' => loopS i body xs Γ' st'
    | .ct Γ' => loopS i body xs Γ' st'
    | .bk Γ' => .ok (.nx Γ') st'
    | .rt w => .ok (.rt w) st'
def sFor (i : Nat) (src : Src) (body : RunS) : RunS := fun Γ st => (src Γ st).bind fun items st' => loopS i body items Γ st'
theorem pds_for {i : Nat} {x : Str} {px pos : Pos} {iter : Expr} {body : List Stmt} {src : Src} {rb : RunS} (hp : PassesOwn (model X.prog X.w) X.A X.env X.xe) (hc : X.calm = true) (hi : PDI X (.Name x px) iter src) (hg : PG X (.Name x px) (gName i)) (hb : PDSs X body rb) (hs : ∀ z, foldedSetIterable iter X.env z = pure z) :
    PDS X (.For (.Name x px) iter body [] pos) (sFor i src rb) := by
  refine PS.imp (ps_for hp hc hi hg hb hs) fun D σ H ⟨ι, G, st, Γ, en, sr, q⟩ => ⟨ι, G, st, Γ, en, sr, ?_⟩
  unfold sFor at q
  cases e1 : src Γ st with
  | stuck => rw [e1] at q; exact q
  | ex c s => rw [e1] at q; exact q
  | ok items st1 =>
    rw [e1] at q
    intro J ι1 G1 H1 x1 sr1 sc
    have q1 : wpF X ι1 st1.nxt G1 (loopS i rb items Γ st1) D := wpF.later x1 (show wpF X ι st.nxt G (loopS i rb items Γ st1) D from q)
    refine ⟨fun k m σ' H' => m = items.length - k ∧ k ≤ items.length ∧ ∃ ι2 G2 st2 Γ2, Ext ι1 st1.nxt G1 ι2 st2.nxt G2 ∧ SR X.K ι2 st2 G2 H' ∧ EnvR X.K ι2 st2.nxt G2 σ' Γ2 ∧ wpF X ι2 st2.nxt G2 (loopS i rb (items.drop k) Γ2 st2) D,
      ⟨items.length, by simp, Nat.zero_le _, ι1, G1, st1, Γ, Ext.refl _ _ _, sr1, en.mono x1, by rw [List.drop_zero]; exact q1⟩, ?_⟩
    rintro k m σ' H' ⟨rfl, hk, ι2, G2, st2, Γ2, e2, sr2, en2, q2⟩
    by_cases hlt : k < items.length
    · have hd : items.drop k = items[k] :: items.drop (k + 1) := List.drop_eq_getElem_cons hlt
      have hg' : items[k]? = some items[k] := List.getElem?_eq_getElem hlt
      obtain ⟨g1, g2⟩ := sc.go k items[k] ι2 st2.nxt G2 H' hg' e2 sr2.sub
      rw [hd] at q2
      refine .inr ⟨g1, fun σ3 H3 => ∃ ι3 G3 st3 Γ3, Ext ι1 st1.nxt G1 ι3 st3.nxt G3 ∧ SR X.K ι3 st3 G3 H3 ∧ EnvR X.K ι3 st3.nxt G3 σ3 Γ3 ∧ wpF X ι3 st3.nxt G3 (loopS i rb (items.drop (k + 1)) Γ3 st3) D,
        fun σ3 H3 h3 => ⟨items.length - (k + 1), by omega, rfl, hlt, h3⟩, fun v H'' hy => ?_⟩
      obtain ⟨eh, rv⟩ := g2 v H'' hy
      subst eh
      refine ⟨ι2, G2, st2, Γ2.set i (some items[k]), en2.set i rv, sr2, ?_⟩
      have q2' : wpF X ι2 st2.nxt G2 ((rb (Γ2.set i (some items[k])) st2).bind fun fl st' => match fl with
        | .nx Γ' => loopS i rb (items.drop (k + 1)) Γ' st'
        | .ct Γ' => loopS i rb (items.drop (k + 1)) Γ' st'
        | .bk Γ' => .ok (.nx Γ') st'
        | .rt w => .ok (.rt w) st') D := q2
      cases e3 : rb (Γ2.set i (some items[k])) st2 with
      | stuck => rw [e3] at q2'; exact q2'
      | ex c s => rw [e3] at q2'; exact q2'
      | ok fl st3 =>
        rw [e3] at q2'
        intro ι3 G3 H3 x3 sr3
        cases fl with
        | nx Γ3 => exact fun σ3 en3 => ⟨ι3, G3, st3, Γ3, e2.trans x3, sr3, en3, wpF.later x3 q2'⟩
        | ct Γ3 => exact fun σ3 en3 => ⟨ι3, G3, st3, Γ3, e2.trans x3, sr3, en3, wpF.later x3 q2'⟩
        | bk Γ3 => exact q2' ι3 G3 H3 x3 sr3
        | rt w => exact q2' ι3 G3 H3 x3 sr3
    · have ek : k = items.length := by omega
      subst ek
      rw [List.drop_length] at q2
      exact .inl ⟨sc.stop G2 H' e2.sm sr2.sub, q2 ι2 G2 H' (Ext.refl _ _ _) sr2 σ' en2⟩
/-! ### xs[i] = v, xs.append(v) -/
def putAt (n : Nat) (k : Int) (v : W) (st : S) : Option MO → R Unit
  | some (.lst ws) => (match ixN ws.length k with | some j => .ok () (st.put n (.lst (ws.set j v))) | none => .stuck)
  | _ => .stuck
def opSetIx : W → W → W → S → R Unit := fun o i v st => match o, i with
  | .ref n, .int k => putAt n k v st (st.mu n)
  | _, _ => .stuck
def sSetIx (ro ri rv : Run) : RunS := fun Γ st => (rv Γ st).bind fun v st1 => (ro Γ st1).bind fun o st2 => (ri Γ st2).bind fun i st3 => (opSetIx o i v st3).bind fun _ st4 => .ok (.nx Γ) st4
theorem wpW_F {ι : Nat → Addr} {N : Nat} {G : Hp} {r : R Unit} {f : Unit → S → R Fl} {D : Ends} (h : wpF X ι N G (r.bind f) D) : ∀ st', r = .ok () st' → wpF X ι N G (f () st') D := fun st' e => by rw [e] at h; exact h
theorem pds_setIx {o i e : Expr} {pos tpos : Pos} {ro ri rv : Run} (ho : PD X o ro) (hi : PD X i ri) (he : PD X e rv) (hg : ∀ {t : TSet}, PSet X t → PG X (.Subscript o i tpos) (gSub (tD X ro) (tD X ri) t)) (hs : swapsWithSole [.Subscript o i tpos] e pos.line X.env = pure false) (hw : swappedStores [.Subscript o i tpos] e X.env = pure none) :
    PDS X (.Assign [.Subscript o i tpos] e pos) (sSetIx ro ri rv) := by
  refine PS.imp (ps_asg he (hg set_list) hs hw) fun D σ H ⟨ι, G, st, Γ, en, sr, q⟩ => ⟨ι, G, st, Γ, en, sr, wpF_bind q fun w st1 v ι1 G1 H1 e1 sr1 r1 q1 => ?_⟩
  refine ⟨ι1, G1, st1, Γ, en.mono e1, sr1, wpF_bind q1 fun wo st2 vo ι2 G2 H2 e2 sr2 r2 q2 => ?_⟩
  refine ⟨ι2, G2, st2, Γ, (en.mono e1).mono e2, sr2, wpF_bind q2 fun wi st3 vi ι3 G3 H3 e3 sr3 r3 q3 => ?_⟩
  have r1' := (r1.mono e2).mono e3
  have r2' := r2.mono e3
  cases wo with
  | ref n =>
    cases wi with
    | int k =>
      cases r3
      cases r2'
      have q3 : wpF X ι3 st3.nxt G3 ((putAt n k w st3 (st3.mu n)).bind fun x st4 => .ok (.nx Γ) st4) D := q3
      cases em : st3.mu n with
      | none => rw [em] at q3; exact (show False from q3).elim
      | some ob =>
        cases ob with
        | dct ks vs => rw [em] at q3; exact (show False from q3).elim
        | lst ws =>
          rw [em] at q3
          have q3 : wpF X ι3 st3.nxt G3 ((match ixN ws.length k with | some j => R.ok () (st3.put n (.lst (ws.set j w))) | none => R.stuck).bind fun x st4 => .ok (.nx Γ) st4) D := q3
          cases ej : ixN ws.length k with
          | none => rw [ej] at q3; exact (show False from q3).elim
          | some j =>
            rw [ej] at q3
            obtain ⟨_, _, xs, hx, rx⟩ := sr3.live n _ em
            refine ⟨_, xs, k, j, rfl, rfl, hx, by rw [rx.length]; exact ej, ?_⟩
            have sr4 := sr3.putL em (rx.set r1' j)
            exact q3 ι3 G3 _ (Ext.refl _ _ _) sr4 σ (((en.mono e1).mono e2).mono e3)
    | _ => exact (show False from q3).elim
  | _ => exact (show False from q3).elim

/-! ### a def by its body -/
def fin (fz : Bool) (st st' : S) : S := if fz then ⟨st'.nxt, fun n => if n < st.nxt then st'.mu n else none⟩ else st'
def leave (fz : Bool) (st : S) : R Fl → R W
  | .ok (.rt w) st' => .ok w (fin fz st st')
  | .ok (.nx _) st' => .ok .non (fin fz st st')
  | _ => .stuck
def callOp (n nl : Nat) (fz : Bool) (run : RunS) : OpN := fun ws st => if ws.length = n then leave fz st (run (ws.map some ++ List.replicate (nl - n) none) st) else .stuck
theorem fin_nxt (fz : Bool) (st st' : S) : (fin fz st st').nxt = st'.nxt := by unfold fin; cases fz <;> rfl
theorem SR.fin {K : PySem.W.Frag} {ι : Nat → Addr} {st st' : S} {G H : Hp} (h : SR K ι st' G H) (fz : Bool) : SR K ι (fin fz st st') G H := by
  unfold DL.fin
  cases fz with
  | false => exact h
  | true =>
    have sub : ∀ n o, (if n < st.nxt then st'.mu n else none) = some o → st'.mu n = some o := fun n o e => by
      by_cases hn : n < st.nxt
      · rw [if_pos hn] at e; exact e
      · rw [if_neg hn] at e; cases e
    exact ⟨h.sub, fun n o e => h.live n o (sub n o e), fun n m o o' e e' z => h.inj n m o o' (sub n o e) (sub m o' e') z⟩
theorem start_env {K : PySem.W.Frag} {ι : Nat → Addr} {N : Nat} {G : Hp} {vs : List V} {ws : List W} {Ns : List Str} (t : RelWs K ι N G vs ws) : EnvR K ι N G (L2.start Ns vs) (ws.map some ++ List.replicate (Ns.length - ws.length) none) := by
  unfold L2.start
  rw [t.length]
  refine ⟨by simp [t.length], fun i w h => ?_⟩
  by_cases hi : i < ws.length
  · rw [List.getElem?_append_left (by simpa using hi), List.getElem?_map] at h
    cases e : ws[i]? with
    | none => rw [e] at h; cases h
    | some u =>
      rw [e] at h
      cases h
      obtain ⟨v, h1, h2⟩ := t.get e
      refine ⟨v, ?_, h2⟩
      rw [List.getElem?_append_left (by rw [List.length_map, t.length]; exact hi), List.getElem?_map, h1]; rfl
  · rw [List.getElem?_append_right (by simpa using hi), List.getElem?_replicate] at h
    split at h <;> cases h
theorem fn_body {P : Program} {w : World} {K : PySem.W.Frag} {mg : Str → Option Value} {base : Heap} {x qual : Str} {st : Stmt} {f : Addr} {fd : FuncData} {N ps : List Str} {k : Nat} {fz : Bool} {run : RunS} (F : Fun K x qual st f fd) (Sc : FnScope N ps (defScope st))
    (hb : ∀ (cdv : Value) (A : Around) (outer : List Env) (s : Shared) (H : Hp) (E : XK), Room k (A.deeper (envOfC qual (defScope st) s.heap.objs.size f cdv)) → PDSs (cxOf CX0 P w K mg base N qual (defScope st) f cdv A outer s H E).nox (defBody st) run) :
    FnOk P w K mg base CX0 (k + 1) f fd ps (SpD K ps.length (callOp ps.length N.length fz run)) := by
  refine Fun.ok F Sc (fun vs H Q E h => h.1) fun cdv A outer s H vs Q E hr hsp => ⟨_, hb cdv A outer s H E hr, ?_⟩
  obtain ⟨hl, ι, G, st0, ws, sr, t, q⟩ := hsp
  have hlw : ws.length = ps.length := by rw [← t.length]; exact hl
  refine ⟨ι, G, st0, ws.map some ++ List.replicate (N.length - ws.length) none, start_env t, sr, ?_⟩
  unfold callOp at q
  rw [if_pos hlw, ← hlw] at q
  cases e : run (ws.map some ++ List.replicate (N.length - ws.length) none) st0 with
  | stuck => rw [e] at q; exact q
  | ex c s => rw [e] at q; exact (show False from q).elim
  | ok fl st1 =>
    rw [e] at q
    intro ι1 G1 H1 x1 sr1
    have ex : Ext ι st0.nxt G ι1 (fin fz st0 st1).nxt G1 := by rw [fin_nxt]; exact x1
    cases fl with
    | nx Γ1 => exact fun σ1 en1 => (show wp0 K ι st0.nxt G (.ok .non (fin fz st0 st1)) Q from q) .non ι1 G1 H1 ex (SR.fin sr1 fz) .non
    | rt w1 => exact fun v r1 => (show wp0 K ι st0.nxt G (.ok w1 (fin fz st0 st1)) Q from q) v ι1 G1 H1 ex (SR.fin sr1 fz) (by rw [fin_nxt]; exact r1)
    | bk Γ1 => exact (show False from q).elim
    | ct Γ1 => exact (show False from q).elim
end
end DL
/-! DATA LAYER 6x: the empty dict, lists turned about, sorted of two by a key -/
namespace L2
open PySem PySem.Spec PyProof.Rows
theorem Inv.big' {X : Cx} {pins : List (Addr × Obj)} {σ : L2.St} {H : Hp} {s : Shared} (I : Inv X pins σ H s) : sysModules < s.heap.objs.size := by
  have h : mainGlobals < s.heap.objs.size := (I.mod.glob.keeps I.bk).lt
  exact Nat.lt_trans (by decide) h
theorem dk_empty' {P : Program} {w : World} {H : Hp} (h : Heap) (hb : sysModules < h.objs.size) : ObjOk P w H (h.push { cls := .type "dict", data := .dict #[] }) h.objs.size (.dK []) :=
  ⟨Nat.zero_le _, beq_eq_false_iff_ne.mpr (Ne.symm (Nat.ne_of_lt hb)), [], .nil, Heap.DictOf.new h⟩
theorem pe_dict0 {X : Cx} {pos : Pos} : PE X (.Dict [] [] pos) (fun _ H Q => ∀ p, H p = none → Q (.ref p) (upd H p (.dK []))) := fun pins s σ H Q I h =>
  wpAny_Dict_empty ⟨.ref s.heap.objs.size, _, I.laid (a := s.heap.objs.size) (o := .dK []) (t' := s.toks) (fun _ _ q => Heap.get?_push_of_some _ q) (Nat.le_refl _) (dk_empty' s.heap I.big'), rfl, h _ (I.hok.fresh (Nat.le_refl _))⟩
theorem fm_congr {α β : Type} {f g : α → Option β} : ∀ {l : List α}, (∀ x ∈ l, f x = g x) → l.filterMap f = l.filterMap g
  | [], _ => rfl
  | x :: l, h => by
    rw [List.filterMap_cons, List.filterMap_cons, h x List.mem_cons_self, fm_congr fun y hy => h y (List.mem_cons_of_mem _ hy)]
theorem pick_rev (its : List Value) : slicePick its.toArray none none (some (-1)) = its.reverse.toArray := by
  unfold slicePick
  have hb : sliceBounds none none (some (-1)) its.toArray.size = ((its.length : Int) - 1, -1, -1) := by
    simp [sliceBounds]
  rw [hb]
  congr 1
  show List.filterMap (fun i => its.toArray[i]?) (sliceRange ((its.length : Int) - 1) (-1) (-1)) = its.reverse
  have hr : sliceRange ((its.length : Int) - 1) (-1) (-1) = (List.range its.length).map fun k => its.length - 1 - k := by
    unfold sliceRange
    have e1 : (if (-1 : Int) > 0 then (if ((its.length : Int) - 1) < -1 then ((-1 : Int) - ((its.length : Int) - 1) + -1 - 1) / -1 else 0) else (if ((its.length : Int) - 1) > -1 then ((its.length : Int) - 1 - -1 - -1 - 1) / (- -1) else 0)) = (its.length : Int) := by
      rw [if_neg (by decide)]
      by_cases h : ((its.length : Int) - 1) > -1
      · rw [if_pos h]; simp only [Int.neg_neg, Int.ediv_one]; omega
      · rw [if_neg h]; omega
    dsimp only
    rw [e1, Int.toNat_natCast]
    apply List.map_congr_left
    intro k hk
    have := List.mem_range.mp hk
    omega
  rw [hr, List.filterMap_map]
  apply List.ext_getElem?
  intro j
  by_cases hj : j < its.length
  · have hall : ∀ k ∈ List.range its.length, ((fun i => its.toArray[i]?) ∘ fun k => its.length - 1 - k) k = some (its.reverse.getD k .none) := by
      intro k hk
      have hk' := List.mem_range.mp hk
      have h1 : its.length - 1 - k < its.length := by omega
      simp [hk', h1, List.getElem_reverse]
    have : List.filterMap ((fun i => its.toArray[i]?) ∘ fun k => its.length - 1 - k) (List.range its.length) = (List.range its.length).map fun k => its.reverse.getD k .none := by
      rw [← List.filterMap_eq_map]
      exact fm_congr hall
    rw [this, List.getElem?_map, List.getElem?_range hj]
    simp [hj]
  · have hall : ∀ k ∈ List.range its.length, ((fun i => its.toArray[i]?) ∘ fun k => its.length - 1 - k) k = some (its.reverse.getD k .none) := by
      intro k hk
      have hk' := List.mem_range.mp hk
      have h1 : its.length - 1 - k < its.length := by omega
      simp [hk', h1, List.getElem_reverse]
    have : List.filterMap ((fun i => its.toArray[i]?) ∘ fun k => its.length - 1 - k) (List.range its.length) = (List.range its.length).map fun k => its.reverse.getD k .none := by
      rw [← List.filterMap_eq_map]
      exact fm_congr hall
    rw [this, List.getElem?_eq_none (by simp; omega), List.getElem?_eq_none (by simp; omega)]
section
variable {X : Cx}
/-- xs[::-1] -/
def tRev (K : PySem.W.Frag) (te ts : TE) : TE := fun σ H Q => te σ H fun x H1 => ts σ H1 fun st H2 => st = .int (-1) ∧ ∃ a xs, x = .ref a ∧ SqL K H2 a xs ∧ ∀ p, H2 p = none → Q (.ref p) (upd H2 p (.lst xs.reverse))
theorem pe_rev {e est : Expr} {te ts : TE} {pos p2 : Pos} (he : PE X e te) (hs : PE X est ts) : PE X (.Subscript e (.Slice none none (some est) p2) pos) (tRev X.K te ts) := by
  intro pins s σ H Q I h
  refine Subscript_ (thn (he pins s σ H _ I h) fun v s1 ⟨x, H1, I1, r1, q1⟩ => ?_)
  refine wpAny_Slice (wpAny_pure (wpAny_pure (thn (hs pins s1 σ H1 _ I1 q1) fun vs s2 ⟨st, H2, I2, r2, q2⟩ => ?_)))
  obtain ⟨rfl, a, xs, rfl, hl, q⟩ := q2
  cases r1
  obtain ⟨t, rfl⟩ := r2
  have I3 : Inv X pins σ H2 { s2 with heap := s2.heap.push { cls := .type "slice", data := .fields #[.none, .none, .int (-1) t] } } := I2.kept (t' := s2.toks) fun b ob q => Heap.get?_push_of_some _ q
  obtain ⟨its, rv, pl, hz⟩ := I3.list hl
  have hlen := rv.length
  show wpAny (model X.prog X.w) X.A (subscriptTail e (.Slice none none (some est) p2) (.ref a) (.ref s2.heap.objs.size)) (EP X pins σ Q) X.xe { s2 with heap := s2.heap.push { cls := .type "slice", data := .fields #[.none, .none, .int (-1) t] } }
  refine tail_any (ops := [.ref a, .ref s2.heap.objs.size]) pl.isList.typeIs slot_list_getitem.lookup ?_ (by with_unfolding_all rfl)
  refine wpAny_getItem_list_slice pl.isList (Heap.IsSliceOf.new ..) .none .none (.int (-1) t) (by simp) ?_ (by rw [List.size_toArray]; omega)
  rw [pick_rev]
  refine ⟨.ref _, _, I3.laid (t' := s2.toks) (o := .lst xs.reverse) (fun b ob q => Heap.get?_push_of_some _ q) (Nat.le_refl _) ?_, rfl, q _ (I3.hok.fresh (Nat.le_refl _))⟩
  refine ⟨by rw [List.length_reverse]; exact hz, its.reverse, 0, ?_, Heap.get?_push_size _ rfl⟩
  have rev : ∀ {xs : List V} {us : List Value}, Vals xs us → Vals xs.reverse us.reverse := by
    intro xs
    induction xs with
    | nil => intro us r; cases r; exact .nil
    | cons x xs ih =>
      intro us r
      cases r with
      | cons r t => rw [List.reverse_cons, List.reverse_cons]; exact (ih t).append (.cons r .nil)
  exact rev rv
variable {k : Nat} {f : Addr} {fd : FuncData} {pn : Str} {sp : Sp}
theorem sort2P {pins : List (Addr × Obj)} {σ : L2.St} {H : Hp} {s : Shared} {l : Addr} {x1 x2 : V} {P1 : V → Hp → Prop} {P2 : V → V → Hp → Prop} {gt : Bool} {Q : VK} (hh : X.A.units + 80 < cLine) (Fk : FnOk X.prog X.w X.K X.mg X.base CX0 k f fd [pn] sp) (hr : Room (k + 2) X.A) (hb : Binds X.K fd [pn] [])
    (I : Inv X pins σ H s) (hl : SqL X.K H l [x1, x2])
    (hk1 : ∀ R : VK, (∀ y H'', P1 y H'' → R y H'') → sp [x1] H R E0) (hk2 : ∀ y1 H', P1 y1 H' → ∀ R : VK, (∀ y H'', P2 y1 y H'' → R y H'') → sp [x2] H' R E0)
    (hlt : ∀ H' y1 y2, P2 y1 y2 H' → ∃ p1 p2 a1 a2 r1 r2, y1 = .ref p1 ∧ y2 = .ref p2 ∧ SqT X.K H' p1 (.str a1 :: r1) ∧ SqT X.K H' p2 (.str a2 :: r2) ∧ r1.length = r2.length ∧ LtR (EqT X.K H' 6) (LtT X.K H' 6) (.str a2 :: r2) (.str a1 :: r1) gt)
    (hQ : ∀ y1 y2 H' D, P2 y1 y2 H' → H' D = none → Q (.ref D) (upd H' D (.lst (if gt = true then [x2, x1] else [x1, x2])))) :
    wpAny (model X.prog X.w) X.A (call (.builtin "sorted") [.ref l] [(Str.ofString "key", .ref f)]) (EP X pins σ Q) X.xe s := by
  obtain ⟨its, rv, pl, _⟩ := I.list hl
  obtain ⟨u1, u2, e0, ru1, ru2⟩ := rv.two
  subst e0
  obtain ⟨m, F⟩ := I.fr
  refine PySem.W.kat_sortedK (vs := [u1, u2]) (b := false) (f := .ref f) F (news_all (g := X.base) (h := s.heap) (L := X.env.locals)) pl.isList (Nat.le_refl 2) (by show 2 < 64; decide) (ksk_s1 _ _) (fun x => ksk_l1 _ _) (fun x => ksk_t1 _ _) fun D kS e1 h1 F1 N1 hDk hlow => ?_
  have nD := N1 (D, seqObj "list" #[] e1) (.tail _ (.head _))
  have nK := N1 (kS, seqObj "list" #[] 0) (.head _)
  have old : ∀ b o, b ≠ X.env.locals → s.heap.get? b = some o → h1.get? b = some o := fun b o hb e => by
    cases q : X.base.get? b with
    | some u =>
      have := I.bk b u q
      rw [e] at this; cases this
      exact F1.keep b _ q
    | none => exact (N1 (b, o) (.tail _ (.tail _ (mem_allNews hb q e)))).1
  have low : ∀ b o, b ≠ X.env.locals → X.base.get? b = none → s.heap.get? b = some o → b < D := fun b o hb q e => hlow (b, o) (mem_allNews hb q e)
  have sD : s.heap.get? D = none := by
    cases q : s.heap.get? D with
    | none => rfl
    | some o => exact absurd (low D o nD.2.1 nD.2.2 q) (Nat.lt_irrefl _)
  have sK : s.heap.get? kS = none := by
    cases q : s.heap.get? kS with
    | none => rfl
    | some o => exact absurd (Nat.lt_trans hDk (low kS o nK.2.1 nK.2.2 q)) (Nat.lt_irrefl _)
  obtain ⟨yD, hD⟩ := young_of I sD nD.2.1 nD.2.2
  obtain ⟨yK, hK⟩ := young_of I sK nK.2.1 nK.2.2
  have nDK : D ≠ kS := Nat.ne_of_lt hDk
  have nsOf : ∀ {g : Heap} {g' : Heap}, g.Ns X.env.locals m → Fr X.base X.env.locals g' m → ∀ m', g.Ns X.env.locals m' → g'.Ns X.env.locals m' := fun {g g'} hg F' m' hm' => by
    rw [← ns_inj hg hm']; exact F'.ns
  have I1 : Inv X pins σ H { s with heap := h1 } := I.led (t' := s.toks) yD hD (fun b o hb _ e => old b o hb e) (nsOf F.ns F1)
  have yDp : ∀ {o : Obj}, Young X (pins ++ [(kS, o)]) D := fun {o} => ⟨yD.nL, yD.nf, yD.s0, yD.nc, fun p hp => by
    rcases List.mem_append.mp (List.append_assoc X.pn pins _ ▸ hp : p ∈ (X.pn ++ pins) ++ [(kS, o)]) with hp | hp
    · exact yD.np p hp
    · have e1 : p = (kS, o) := by simpa using hp
      rw [e1]; exact Ne.symm nDK, yD.nb⟩
  have yKp : ∀ {o : Obj}, Young X (pins ++ [(D, o)]) kS := fun {o} => ⟨yK.nL, yK.nf, yK.s0, yK.nc, fun p hp => by
    rcases List.mem_append.mp (List.append_assoc X.pn pins _ ▸ hp : p ∈ (X.pn ++ pins) ++ [(D, o)]) with hp | hp
    · exact yK.np p hp
    · have e1 : p = (D, o) := by simpa using hp
      rw [e1]; exact nDK, yK.nb⟩
  -- both records are held fast: D, then kS
  have I1D : Inv X (pins ++ [(D, sqO [] e1)]) σ H { s with heap := h1 } := I1.pin1 yD hD nD.1 (sq_nocell _ _)
  have hold : ∀ {H' : Hp} {s' : Shared} {vs : List Value} {n : Nat}, Inv X (pins ++ [(D, sqO [] e1)]) σ H' s' → H' kS = none → s'.heap.get? kS = some (sqO vs n) → Inv X ((pins ++ [(D, sqO [] e1)]) ++ [(kS, sqO vs n)]) σ H' s' := fun {H' s' vs n} J hn e => J.pin1 yKp hn e (sq_nocell _ _)
  have memK : ∀ {vs : List Value} {n : Nat}, (kS, sqO vs n) ∈ X.pn ++ ((pins ++ [(D, sqO [] e1)]) ++ [(kS, sqO vs n)]) := fun {vs n} => List.mem_append_right _ (List.mem_append_right _ (.head _))
  have memD : ∀ {p : Addr × Obj}, (D, sqO [] e1) ∈ X.pn ++ ((pins ++ [(D, sqO [] e1)]) ++ [p]) := List.mem_append_right _ (List.mem_append_left _ (List.mem_append_right _ (.head _)))
  -- a step at kS: the ledger's own view
  have stepK : ∀ {H' : Hp} {s' : Shared} {vs vs' : List Value} {n c : Nat} {g : Heap}, Inv X ((pins ++ [(D, sqO [] e1)]) ++ [(kS, sqO vs n)]) σ H' s' → s'.heap.Ns X.env.locals m → Fr X.base X.env.locals g m → News X.base X.env.locals g ((kS, sqO vs' c) :: rest X.base s'.heap X.env.locals kS) →
      Inv X (pins ++ [(D, sqO [] e1)]) σ H' { s' with heap := g } ∧ g.get? kS = some (sqO vs' c) ∧ H' kS = none := fun {H' s' vs vs' n c g} J hm Fg Ng => by
    have pk := J.pin _ memK
    refine ⟨J.unpinned.led (t' := s'.toks) yKp pk.2.1 (kept_of_news J.bk Fg fun p hp => Ng p (.tail _ hp)) (nsOf hm Fg), (Ng _ (.head _)).1, pk.2.1⟩
  have I1K : Inv X ((pins ++ [(D, sqO [] e1)]) ++ [(kS, sqO [] 0)]) σ H { s with heap := h1 } := hold I1D hK nK.1
  -- the first key
  refine PySem.W.KatKeys.cons (key_call (m := m) Fk hr hb I1K F1.ns ru1 (hk1 (fun y H'' => P1 y H'') fun y H'' a => a) fun y1 H1 s1 w1 J1 hm1 rw1 ky1 => ?_)
  have pk1 := J1.pin _ memK
  refine PySem.W.KatBack.intro (news := (kS, sqO [] 0) :: rest X.base s1.heap X.env.locals kS) (g := fun o => (kS, o) :: rest X.base s1.heap X.env.locals kS) ⟨hm1, J1.bk, F.above⟩ (news_at yK.nL yK.nb pk1.1) (.head rest_ne) fun h2 c2 F2 N2 => ?_
  obtain ⟨J2, eK2, nK2⟩ := stepK (vs' := [w1]) J1 hm1 F2 N2
  have J2K := hold J2 nK2 eK2
  -- the second key
  refine PySem.W.KatKeys.cons (key_call (m := m) Fk hr hb J2K F2.ns ru2 (hk2 y1 H1 ky1 (fun y H'' => P2 y1 y H'') fun y H'' a => a) fun y2 H2 s2 w2 J3 hm3 rw2 ky2 => ?_)
  have pk3 := J3.pin _ memK
  refine PySem.W.KatBack.intro (news := (kS, sqO [w1] c2) :: rest X.base s2.heap X.env.locals kS) (g := fun o => (kS, o) :: rest X.base s2.heap X.env.locals kS) ⟨hm3, J3.bk, F.above⟩ (news_at yK.nL yK.nb pk3.1) (.head rest_ne) fun h4 c4 F4 N4 => ?_
  obtain ⟨J4, eK4, nK4⟩ := stepK (vs' := [w1, w2]) J3 hm3 F4 N4
  have J4K := hold J4 nK4 eK4
  refine PySem.W.KatKeys.nil ?_
  -- how the keys are compared
  obtain ⟨p1, p2, a1, a2, r1, r2, ey1, ey2, t1, t2, hlen, hrun⟩ := hlt H2 y1 y2 ky2
  subst ey1 ey2
  cases (show w1 = Value.ref p1 from rw1)
  cases (show w2 = Value.ref p2 from rw2)
  obtain ⟨its1, v1, q1, _⟩ := J4K.tuple t1
  obtain ⟨its2, v2, q2, _⟩ := J4K.tuple t2
  obtain ⟨o1, ho1, hc1, n1, hd1⟩ := id q1
  obtain ⟨o2, ho2, hc2, n2, hd2⟩ := id q2
  have first : ∀ {a : Str} {r : List V} {its : List Value}, Vals (.str a :: r) its → ∃ t, its.toArray[0]? = some (.str a t) := fun {a r its} v => by
    cases v with
    | cons ra t =>
      obtain ⟨tk, rfl⟩ := ra
      exact ⟨tk, by simp⟩
  obtain ⟨tk1, f1⟩ := first v1
  obtain ⟨tk2, f2⟩ := first v2
  have strT : ∀ (M : Model) (hh : Heap) (a : Str) (t : Tok), PySem.W.Looks M hh (typeOf (.str a t)) (.type "str") := fun M hh a t => PySem.W.Looks.of_pure rfl
  refine PySem.W.kat_kind (T := .type "str") (PySem.W.KatTups.cons ho1 hc1 hd1 f1 (PySem.W.KatTups.cons ho2 hc2 hd2 f2 .nil)) (by show 0 < 2; decide) (fun v hv => ?_) (by decide) ?_
  · rcases List.mem_cons.mp hv with rfl | hv
    · exact strT _ _ _ _
    · rw [List.mem_singleton.mp hv]; exact strT _ _ _ _
  have eκ : (Value.type "str" != Value.type "tuple") = true := by decide
  rw [eκ]
  refine kas2 ?_
  show wpAny (model X.prog X.w) X.A.in1.in1 (keyLt' (tuples' true) (.ref p2) (.ref p1)) _ _ _
  have len2 : its2.toArray.size = its1.toArray.size := by
    rw [List.size_toArray, List.size_toArray, ← v1.length, ← v2.length]
    simp [hlen]
  have efin : decide (its2.toArray.size < its1.toArray.size) = false := by rw [len2]; exact decide_eq_false (Nat.lt_irrefl _)
  refine PySem.W.kat_lt ho2 hd2 ho1 hd1 ?_
  rw [efin]
  refine kat_run0 (r := gt) J4K (n := 6) (by show X.A.units + 1 + 1 + 6 < cLine; omega) hrun hlen.symm v2 v1 (fun b h => ltT_str h) ?_
  -- the end: the keys are let go, the list is filled
  have pk4 := J4K.pin _ memK
  refine PySem.W.KatFin.intro (news := (kS, sqO [.ref p1, .ref p2] c4) :: rest X.base h4 X.env.locals kS) (g := fun o => (kS, o) :: rest X.base h4 X.env.locals kS) F4 (news_at yK.nL yK.nb pk4.1) (.head rest_ne) fun h5 c5 F5 N5 => ?_
  obtain ⟨J5, eK5, nK5⟩ := stepK (vs' := []) J4K F4.ns F5 N5
  have pD5 := J5.pin (D, sqO [] e1) (List.mem_append_right _ (List.mem_append_right _ (.head _)))
  refine PySem.W.KasFin.intro (news := (D, sqO [] e1) :: rest X.base h5 X.env.locals D) (g := fun o => (D, o) :: rest X.base h5 X.env.locals D) F5 (news_at yD.nL yD.nb pD5.1) (.head rest_ne) fun h6 c6 F6 N6 => ?_
  have J6 : Inv X pins σ H2 { s2 with heap := h6 } := by
    have J5u := J5.unpinned
    exact Inv.led (s := { s2 with heap := h5 }) (t' := s2.toks) J5u yD pD5.2.1 (kept_of_news J5u.bk F6 fun p hp => N6 p (.tail _ hp)) (nsOf F5.ns F6)
  have eD6 := (N6 _ (.head _)).1
  have out : ∃ ws : List Value, Vals (if gt = true then [x2, x1] else [x1, x2]) ws ∧ h6.get? D = some (sqO ws c6) := by
    cases gt with
    | true => exact ⟨[u2, u1], .cons ru2 (.cons ru1 .nil), eD6⟩
    | false => exact ⟨[u1, u2], .cons ru1 (.cons ru2 .nil), eD6⟩
  obtain ⟨ws, rws, eD⟩ := out
  refine ⟨.ref D, _, J6.track yD pD5.2.1 (o := .lst (if gt = true then [x2, x1] else [x1, x2])) ⟨?_, ws, c6, rws, eD⟩, rfl, hQ _ _ H2 D ky2 pD5.2.1⟩
  cases gt <;> exact Nat.le_trans (show 2 ≤ 1000 by decide) (Nat.le_of_lt (small1000 (Nat.le_refl _)))
end
end L2

namespace DL
open PySem PySem.Spec PyProof.Rows L2
section
variable {X : Cx}
def rDict0 : Run := fun _ st => .ok (.dct [] []) st
theorem pd_dict0 {pos : Pos} : PD X (.Dict [] [] pos) rDict0 := by
  refine PE.imp pe_dict0 fun σ H Q h => ?_
  obtain ⟨ι, G, st, Γ, en, sr, q⟩ := h
  intro p hp
  obtain ⟨sr2, e2⟩ := sr.laid (o := .dK []) hp
  exact q _ ι _ _ e2 sr2 (.dct (xs := []) upd_same rfl .nil)
def opRev (m : Bool) : W → S → R W := fun w st => match w with
  | .lst xs => opL m xs.reverse st
  | .ref n => (match MO.items (st.mu n) with | some xs => opL m xs.reverse st | none => .stuck)
  | _ => .stuck
theorem pd_rev {m : Bool} {e : Expr} {pos p2 p3 p4 : Pos} {j : Nat} {ra : Run} (ha : PD X e ra) : PD X (.Subscript e (.Slice none none (some (.UnaryOp .USub (.Constant (.int 1) j p3) p4)) p2) pos) (run1 ra (opRev m)) := by
  refine PE.imp (pe_rev ha (pe_un un_neg pe_int)) fun σ H Q h => ?_
  obtain ⟨ι, G, st, Γ, en, sr, q⟩ := h
  refine ⟨ι, G, st, Γ, en, sr, wpW.bind q fun w st1 v ι1 G1 H1 _ e1 sr1 r1 q1 => ?_⟩
  refine ⟨1, rfl, rfl, ?_⟩
  have fin : ∀ {a : Addr} {xs : List V} {ws : List W}, v = .ref a → SqL X.K H1 a xs → RelWs X.K ι1 st1.nxt G1 xs ws → wpW X ι1 st1.nxt G1 (opL m ws.reverse st1) Q → ∃ a xs, v = .ref a ∧ SqL X.K H1 a xs ∧ ∀ p, H1 p = none → Q (.ref p) (upd H1 p (.lst xs.reverse)) := by
    intro a xs ws ev hl t q
    refine ⟨a, xs, ev, hl, ?_⟩
    cases m with
    | true => exact (newL_laid sr1 t.reverse q).2
    | false => exact (lst_laid sr1 t.reverse q).2
  cases r1 with
  | lst s1 t1 => exact fin rfl (sr1.sub.seq s1) t1 q1
  | @ref n hn =>
    have q1 : wpW X ι1 st1.nxt G1 (match MO.items (st1.mu n) with | some xs => opL m xs.reverse st1 | none => .stuck) Q := q1
    cases e : st1.mu n with
    | none => rw [e] at q1; exact (show False from q1).elim
    | some o =>
      obtain ⟨_, _, h3⟩ := sr1.live n o e
      cases o with
      | lst xs =>
        rw [e] at q1
        obtain ⟨vs, qv, tv⟩ := h3
        exact fin rfl (SqL.of qv) tv q1
      | dct ks vs => rw [e] at q1; exact (show False from q1).elim
  | _ => exact (show False from q1).elim

/-! ### tuples compared, as keys -/
def eqK : Nat → W → W → Option Bool
  | 0, a, b => (match flatW a, flatW b with | some x, some y => some (eqV x y) | _, _ => none)
  | n + 1, a, b => match flatW a, flatW b with
    | some x, some y => some (eqV x y)
    | _, _ => (match a, b with
      | .tup xs, .tup ys => (eqItems (eqK n) xs ys).map fun r => r && xs.length == ys.length
      | _, _ => none)
def lexK (eq lt : W → W → Option Bool) : List W → List W → Option Bool
  | [], [] => some false
  | [], _ :: _ => some true
  | _ :: _, [] => some false
  | x :: xs, y :: ys => match eq x y with
    | some true => lexK eq lt xs ys
    | some false => lt x y
    | none => none
def ltK : Nat → W → W → Option Bool
  | 0, a, b => (match a, b with
    | .int i, .int j => some (decide (i < j))
    | .str i, .str j => some (decide (i.cps.toList < j.cps.toList))
    | _, _ => none)
  | n + 1, a, b => (match a, b with
    | .int i, .int j => some (decide (i < j))
    | .str i, .str j => some (decide (i.cps.toList < j.cps.toList))
    | .tup xs, .tup ys => lexK (eqK n) (ltK n) xs ys
    | _, _ => none)
section
variable {K : PySem.W.Frag} {ι : Nat → Addr} {N : Nat} {G : Hp}
theorem eqK_T : ∀ (n : Nat) {w1 w2 : W} {b : Bool} {v1 v2 : V}, eqK n w1 w2 = some b → RelW K ι N G v1 w1 → RelW K ι N G v2 w2 → EqT K G n v1 v2 b
  | 0, w1, w2, b, v1, v2, h, r1, r2 => by
    unfold eqK at h
    cases f1 : flatW w1 with
    | none => rw [f1] at h; cases h
    | some x =>
      cases f2 : flatW w2 with
      | none => rw [f1, f2] at h; cases h
      | some y =>
        rw [f1, f2] at h
        obtain ⟨e1, g1⟩ := flatW_rel r1 f1
        obtain ⟨e2, g2⟩ := flatW_rel r2 f2
        subst e1 e2
        cases h
        exact ⟨g1, g2, rfl⟩
  | n + 1, w1, w2, b, v1, v2, h, r1, r2 => by
    unfold eqK at h
    by_cases hf : ∃ x y, flatW w1 = some x ∧ flatW w2 = some y
    · obtain ⟨x, y, f1, f2⟩ := hf
      rw [f1, f2] at h
      obtain ⟨e1, g1⟩ := flatW_rel r1 f1
      obtain ⟨e2, g2⟩ := flatW_rel r2 f2
      subst e1 e2
      cases h
      exact .inl ⟨g1, g2, rfl⟩
    · cases r1 with
      | @tup a xs ws1 s1 t1 =>
        cases r2 with
        | @tup a2 ys ws2 s2 t2 =>
          have h2 : (eqItems (eqK n) ws1 ws2).map (fun r => r && ws1.length == ws2.length) = some b := h
          cases e : eqItems (eqK n) ws1 ws2 with
          | none => rw [e] at h2; cases h2
          | some r =>
            rw [e] at h2
            obtain ⟨ef, he1, he2⟩ := eqItems_e e
            refine .inr ⟨a, a2, xs, ys, ef, rfl, rfl, s1, s2, fun j x y hx hy => ?_, ?_⟩
            · obtain ⟨w, ew, rw1⟩ := t1.get' hx
              obtain ⟨w', ew', rw2⟩ := t2.get' hy
              exact eqK_T n (he1 j w w' ew ew') rw1 rw2
            · cases h2
              rw [t1.length, t2.length, he2]
        | _ => cases h
      | _ => cases r2 <;> first | (exact absurd ⟨_, _, rfl, rfl⟩ hf) | cases h
theorem lexK_R {n : Nat} (hE : ∀ {w1 w2 : W} {b : Bool} {v1 v2 : V}, eqK n w1 w2 = some b → RelW K ι N G v1 w1 → RelW K ι N G v2 w2 → EqT K G n v1 v2 b) (hL : ∀ {w1 w2 : W} {b : Bool} {v1 v2 : V}, ltK n w1 w2 = some b → RelW K ι N G v1 w1 → RelW K ι N G v2 w2 → LtT K G n v1 v2 b) :
    ∀ {ws ws' : List W} {xs ys : List V} {b : Bool}, lexK (eqK n) (ltK n) ws ws' = some b → RelWs K ι N G xs ws → RelWs K ι N G ys ws' → LtR (EqT K G n) (LtT K G n) xs ys b
  | [], [], _, _, _, h, .nil, .nil => by cases h; exact .nn
  | [], _ :: _, _, _, _, h, .nil, .cons _ _ => by cases h; exact .nc
  | _ :: _, [], _, _, _, h, .cons _ _, .nil => by cases h; exact .cn
  | w :: ws, w' :: ws', _, _, b, h, .cons r t, .cons r' t' => by
    unfold lexK at h
    cases e : eqK n w w' with
    | none => rw [e] at h; cases h
    | some c =>
      rw [e] at h
      cases c with
      | true => exact .eq (hE e r r') (lexK_R hE hL h t t')
      | false => exact .ne (hE e r r') (hL h r r')
theorem ltK_T : ∀ (n : Nat) {w1 w2 : W} {b : Bool} {v1 v2 : V}, ltK n w1 w2 = some b → RelW K ι N G v1 w1 → RelW K ι N G v2 w2 → LtT K G n v1 v2 b
  | 0, w1, w2, b, v1, v2, h, r1, r2 => by
    cases r1 with
    | int i => cases r2 with
      | int j => cases h; exact .inl ⟨i, j, rfl, rfl, rfl⟩
      | _ => cases h
    | str i => cases r2 with
      | str j => cases h; exact .inr ⟨i, j, rfl, rfl, rfl⟩
      | _ => cases h
    | _ => cases r2 <;> cases h
  | n + 1, w1, w2, b, v1, v2, h, r1, r2 => by
    cases r1 with
    | int i => cases r2 with
      | int j => cases h; exact .inl (.inl ⟨i, j, rfl, rfl, rfl⟩)
      | _ => cases h
    | str i => cases r2 with
      | str j => cases h; exact .inl (.inr ⟨i, j, rfl, rfl, rfl⟩)
      | _ => cases h
    | tup s1 t1 => cases r2 with
      | tup s2 t2 => exact .inr ⟨_, _, _, _, rfl, rfl, s1, s2, lexK_R (fun e a b => eqK_T n e a b) (fun e a b => ltK_T n e a b) h t1 t2⟩
      | _ => cases h
    | _ => cases r2 <;> cases h
end
/-! ### sorted(xs, key=f) of two items -/
def srt2 (x1 x2 k1 k2 : W) (st : S) : R W := match k1, k2 with
  | .tup (.str a1 :: r1), .tup (.str a2 :: r2) => if r1.length = r2.length then (match lexK (eqK 6) (ltK 6) (.str a2 :: r2) (.str a1 :: r1) with
    | some gt => .ok (.lst (if gt then [x2, x1] else [x1, x2])) st
    | none => .stuck) else .stuck
  | _, _ => .stuck
def opSort (op : OpN) : W → S → R W := fun w st => match w with
  | .lst [x1, x2] => (op [x1] st).calm.bind fun k1 st1 => (op [x2] st1).calm.bind fun k2 st2 => srt2 x1 x2 k1 k2 st2
  | _ => .stuck
theorem wpC_step {ι : Nat → Addr} {N : Nat} {G : Hp} {r : R W} {f : W → S → R W} {Q Q' : VK} (h : wpW X ι N G (r.calm.bind f) Q)
    (k : ∀ w st' v ι' G' H', Ext ι N G ι' st'.nxt G' → SR X.K ι' st' G' H' → RelW X.K ι' st'.nxt G' v w → wpW X ι' st'.nxt G' (f w st') Q → Q' v H') : wp0 X.K ι N G r Q' := by
  cases r with
  | stuck => exact h
  | ex c s => exact (show False from h).elim
  | ok w st' => exact fun v ι' G' H' e sr rel => k w st' v ι' G' H' e sr rel (wpW.later e (show wpW X ι N G (f w st') Q from h))
theorem sort_w {k : Nat} {f : Addr} {fd : FuncData} {pn : Str} {op : OpN} (hh : X.A.units + 80 < cLine) (Fk : FnOk X.prog X.w X.K X.mg X.base CX0 k f fd [pn] (SpD X.K 1 op)) (hr : Room (k + 2) X.A) (hb : Binds X.K fd [pn] []) :
    SortR X (fun x y H Q => y = .ref f ∧ ∃ ι G st w, SR X.K ι st G H ∧ RelW X.K ι st.nxt G x w ∧ wpW X ι st.nxt G (opSort op w st) Q) := by
  intro pins s σ H x y v u Q I rx ry h
  obtain ⟨rfl, ι, G, st, w, sr, r, q⟩ := h
  cases (show u = Value.ref f from ry)
  unfold opSort at q
  split at q
  · rename_i w1 w2
    cases r with
    | @lst a xs _ s1 t1 =>
      obtain ⟨x1, x2, rfl, r1, r2⟩ := rel2 t1
      cases (show v = Value.ref a from rx)
      cases e1 : (op [w1] st).calm with
      | stuck => rw [e1] at q; exact (show False from q).elim
      | ex c s => cases h1 : op [w1] st <;> rw [h1] at e1 <;> cases e1
      | ok k1 st1 =>
        rw [e1] at q
        have o1 : op [w1] st = .ok k1 st1 := by cases h1 : op [w1] st <;> rw [h1] at e1 <;> cases e1; rfl
        have q2 : wpW X ι st.nxt G ((op [w2] st1).calm.bind fun k2 st2 => srt2 w1 w2 k1 k2 st2) Q := q
        cases e2 : (op [w2] st1).calm with
        | stuck => rw [e2] at q2; exact (show False from q2).elim
        | ex c s => cases h2 : op [w2] st1 <;> rw [h2] at e2 <;> cases e2
        | ok k2 st2 =>
          rw [e2] at q2
          have o2 : op [w2] st1 = .ok k2 st2 := by cases h2 : op [w2] st1 <;> rw [h2] at e2 <;> cases e2; rfl
          have q3 : wpW X ι st.nxt G (srt2 w1 w2 k1 k2 st2) Q := q2
          clear q q2
          unfold srt2 at q3
          split at q3
          · rename_i a1 c1 a2 c2
            split at q3
            · rename_i hlen
              cases e3 : lexK (eqK 6) (ltK 6) (.str a2 :: c2) (.str a1 :: c1) with
              | none => rw [e3] at q3; exact (show False from q3).elim
              | some gt =>
                rw [e3] at q3
                refine sort2P (gt := gt) (x1 := x1) (x2 := x2) (P1 := fun y H' => ∃ ι' G', Ext ι st.nxt G ι' st1.nxt G' ∧ SR X.K ι' st1 G' H' ∧ RelW X.K ι' st1.nxt G' y (.tup (.str a1 :: c1)))
                  (P2 := fun y1 y2 H' => ∃ ι' G', Ext ι st.nxt G ι' st2.nxt G' ∧ SR X.K ι' st2 G' H' ∧ RelW X.K ι' st2.nxt G' y1 (.tup (.str a1 :: c1)) ∧ RelW X.K ι' st2.nxt G' y2 (.tup (.str a2 :: c2))) hh Fk hr hb I (sr.sub.seq s1) (fun R hR => ?_) (fun y1 H' ⟨ι1, G1, x1', sr1, k1r⟩ R hR => ?_) (fun H' y1 y2 ⟨ι2, G2, x2', sr2, ka, kb⟩ => ?_) (fun y1 y2 H' D ⟨ι2, G2, x2', sr2, ka, kb⟩ hD => ?_)
                · refine ⟨rfl, ι, G, st, [w1], sr, .cons r1 .nil, ?_⟩
                  rw [o1]
                  exact fun v ι' G' H' e sr' rel => hR v H' ⟨ι', G', e, sr', rel⟩
                · refine ⟨rfl, ι1, G1, st1, [w2], sr1, .cons (r2.mono x1') .nil, ?_⟩
                  rw [o2]
                  exact fun v ι' G' H' e sr' rel => hR v H' ⟨ι', G', x1'.trans e, sr', k1r.mono e, rel⟩
                · cases ka with
                  | @tup p1 xs1 _ sa ta =>
                    cases kb with
                    | @tup p2 xs2 _ sb tb =>
                      have tA := ta.mono sr2.look
                      have tB := tb.mono sr2.look
                      have lx := lexK_R (n := 6) (fun e a b => eqK_T 6 e a b) (fun e a b => ltK_T 6 e a b) e3 tB tA
                      cases ta with
                      | @cons v1 _ vs1 _ h1 t1' =>
                        cases h1
                        cases tb with
                        | @cons v2 _ vs2 _ h2 t2' =>
                          cases h2
                          exact ⟨p1, p2, a1, a2, vs1, vs2, rfl, rfl, sqT_same sr2.sub sa, sqT_same sr2.sub sb, by rw [t1'.length, t2'.length]; exact hlen, lx⟩
                · obtain ⟨sr3, e4⟩ := sr2.laid (o := .lst (if gt = true then [x2, x1] else [x1, x2])) hD
                  refine q3 _ ι2 _ _ (x2'.trans e4) sr3 (.lst (.inl (.inl upd_same)) ?_)
                  have ra := (r1.mono x2').mono e4
                  have rb := (r2.mono x2').mono e4
                  cases gt with
                  | true => exact .cons rb (.cons ra .nil)
                  | false => exact .cons ra (.cons rb .nil)
            · exact (show False from q3).elim
          · exact (show False from q3).elim
  · exact (show False from q).elim
def noStarE : Expr → Bool
  | .Starred _ _ => false
  | _ => true
theorem pd_sorted {k : Nat} {f : Addr} {fd : FuncData} {pn : Str} {op : OpN} {e : Expr} {g : Str} {p pos kp gp : Pos} {ra : Run} (hh : X.A.units + 80 < cLine) (Fk : FnOk X.prog X.w X.K X.mg X.base CX0 k f fd [pn] (SpD X.K 1 op)) (hr : Room (k + 2) X.A) (hb : Binds X.K fd [pn] [])
    (hg : Gl X "sorted") (hm : X.mg "sorted" = none) (hg2 : Gl X g) (hm2 : X.mg g = some (.ref f)) (hd : (g == ("__debug__" : Str)) = false) (ha : PD X e ra) (hs : noStarE e = true) :
    PD X (.Call (.Name "sorted" p) [e] [⟨some (Str.ofString "key"), .Name g gp, kp⟩] pos) (run1 ra (opSort op)) := by
  have hs1 : starEach [e] X.env = [(false, eval e X.env)] := by
    cases e <;> first | rfl | exact absurd (show false = true from hs) Bool.false_ne_true
  refine PE.imp (pe_sorted (sort_w hh Fk hr hb) hg hm (pda_cons ha pda_nil hs1) (pk_cons (pe_glob hg2 hm2 (v := .ref f) rfl hd) pk_nil) (by rw [hs1]; rfl) (by rw [hs1]; rfl)) fun σ H Q h => ?_
  obtain ⟨ι, G, st, Γ, en, sr, q⟩ := h
  refine ⟨ι, G, st, Γ, en, sr, ?_⟩
  unfold run1 at q
  unfold runsCons runsNil
  cases e1 : ra Γ st with
  | stuck => rw [e1] at q; exact q
  | ex c s => rw [e1] at q; exact q
  | ok w st1 =>
    rw [e1] at q
    intro vs ι1 G1 H1 x1 sr1 r1
    obtain ⟨v, rfl, r2⟩ := rel1 r1
    exact ⟨v, .ref f, rfl, rfl, rfl, ι1, G1, st1, w, sr1, r2, wpW.later x1 (show wpW X ι st.nxt G (opSort op w st1) Q from q)⟩
end
end DL
/-! DATA LAYER 7: the run of a text: expressions -/
namespace DL
open PySem PySem.Spec PyProof.Rows L2

/-! ### isinstance of built-in kinds -/
section
variable {X : Cx}
theorem kit_kinds (K : PySem.W.Frag) : ∀ k ∈ kinds, ∀ T ∈ kinds, PySem.W.kitOne K (.type k) (.type T) = some (isKind k T) := by
  intro k hk T hT
  simp only [kinds, List.mem_cons, List.not_mem_nil, or_false] at hk hT
  rcases hk with rfl | rfl | rfl | rfl | rfl | rfl | rfl <;> rcases hT with rfl | rfl | rfl | rfl | rfl | rfl | rfl <;> with_unfolding_all rfl
theorem cw_isi : CallW X (.builtin "isinstance") opIsi := by
  intro pins s σ H ι G st xs ws us Q I sr rv t q
  unfold opIsi at q
  split at q
  · rename_i w T
    by_cases hT : kinds.contains T = true
    · rw [if_pos hT] at q
      have hT' : T ∈ kinds := by simpa using hT
      obtain ⟨v, v', rfl, r, r'⟩ := rel2 t
      cases r'
      cases rv with
      | cons ru rv =>
        cases rv with
        | cons rc rv =>
          cases rv
          rename_i u c
          cases (show c = Value.type T from rc)
          cases hk : kindW st w with
          | none => rw [hk] at q; exact (show False from q).elim
          | some k =>
            rw [hk] at q
            have fin : ∀ tk, EP X pins σ Q (.bool (isKind k T)) { s with toks := tk } := fun tk => ⟨.bl (isKind k T), H, I.tok tk, rfl, q _ ι G H (Ext.refl _ _ _) sr (.bl _)⟩
            have kk : k ∈ kinds → PySem.W.kitOne X.K (.type k) (.type T) = some (isKind k T) := fun h => kit_kinds X.K k h T hT'
            cases r with
            | non => cases hk; cases (show u = Value.none from ru); exact PySem.W.kia_one PySem.W.kitx_none I.kIn True.intro (kk (by decide)) (fun z => nomatch z) fin
            | bl b => cases hk; cases (show u = Value.bool b from ru); exact PySem.W.kia_one PySem.W.kitx_bool I.kIn True.intro (kk (by decide)) (fun z => nomatch z) fin
            | int i => cases hk; obtain ⟨tk, e⟩ := (show ∃ t, u = Value.int i t from ru); cases e; exact PySem.W.kia_one PySem.W.kitx_int I.kIn True.intro (kk (by decide)) (fun z => nomatch z) fin
            | str x => cases hk; obtain ⟨tk, e⟩ := (show ∃ t, u = Value.str x t from ru); cases e; exact PySem.W.kia_one PySem.W.kitx_str I.kIn True.intro (kk (by decide)) (fun z => nomatch z) fin
            | @tup a xs _ s1 t1 =>
              cases hk
              cases (show u = Value.ref a from ru)
              obtain ⟨its, _, pl, _⟩ := I.tuple (sqT_same sr.sub s1)
              obtain ⟨o, h1, h2, _⟩ := pl
              exact PySem.W.kia_one PySem.W.kitx_tuple I.kIn ⟨o, h1, h2⟩ (kk (by decide)) (fun z => nomatch z) fin
            | @lst a xs _ s1 t1 =>
              cases hk
              cases (show u = Value.ref a from ru)
              obtain ⟨its, _, pl, _⟩ := I.list (sr.sub.seq s1)
              obtain ⟨o, n, h1, h2, _⟩ := pl
              exact PySem.W.kia_one PySem.W.kitx_list I.kIn ⟨o, h1, h2⟩ (kk (by decide)) (fun z => nomatch z) fin
            | @dct a xs ks _ s1 l1 t1 =>
              cases hk
              cases (show u = Value.ref a from ru)
              obtain ⟨_, _, vs, _, p⟩ := (show ObjOk X.prog X.w H s.heap a (.dK (ks.zip xs)) from I.hok a _ (sr.sub _ _ s1))
              obtain ⟨o, es, ep, h1, h2, _⟩ := p
              exact PySem.W.kia_one PySem.W.kitx_dict I.kIn ⟨o, h1, h2.1⟩ (kk (by decide)) (fun z => nomatch z) fin
            | ty n => cases hk
            | ref hn =>
              rename_i n
              cases (show u = Value.ref (ι n) from ru)
              have hk : MO.kind (st.mu n) = some k := hk
              cases e : st.mu n with
              | none => rw [e] at hk; cases hk
              | some o =>
                rw [e] at hk
                obtain ⟨_, _, h3⟩ := sr.live n o e
                cases o with
                | lst zs =>
                  cases hk
                  obtain ⟨vs, qv, _⟩ := h3
                  obtain ⟨its, _, pl, _⟩ := I.list (SqL.of qv)
                  obtain ⟨o, n, h1, h2, _⟩ := pl
                  exact PySem.W.kia_one PySem.W.kitx_list I.kIn ⟨o, h1, h2⟩ (kk (by decide)) (fun z => nomatch z) fin
                | dct ks zs =>
                  cases hk
                  obtain ⟨xs, qv, _, _⟩ := h3
                  obtain ⟨_, _, vs, _, p⟩ := (show ObjOk X.prog X.w H s.heap _ (.dK (ks.zip xs)) from I.hok _ _ qv)
                  obtain ⟨o, es, ep, h1, h2, _⟩ := p
                  exact PySem.W.kia_one PySem.W.kitx_dict I.kIn ⟨o, h1, h2.1⟩ (kk (by decide)) (fun z => nomatch z) fin
    · rw [if_neg hT] at q; exact (show False from q).elim
  · exact (show False from q).elim
end

/-! ### the names of a text -/
inductive GV where
  | con (w : W)
  | fn (n : Nat) (op : OpN)
  | blt
structure FC where
  N : List Str
  sc : Scope
  gl : List (Str × GV)
  mts : List (Nat × Nat)
def FC.isMut (c : FC) (p : Pos) : Bool := c.mts.any fun q => q.1 == p.line && q.2 == p.col
structure XOK (c : FC) (X : Cx) : Prop where
  N : X.N = c.N
  nd : c.N.Nodup
  sc : X.env.scope = c.sc
  calm : X.calm = true
  units : X.A.units + 80 < cLine
  cells : ∀ y, (c.sc.names.lookup y = some .cell ∨ c.sc.names.lookup y = some .free) → (X.env.cells.lookup y).isSome = true
  con : ∀ x w, c.gl.lookup x = some (.con w) → ∃ u v, X.mg x = some u ∧ RelV v u ∧ ∀ ι N G, RelW X.K ι N G v w
  fn : ∀ x n op, c.gl.lookup x = some (.fn n op) → ∃ k f fd ps, FnOk X.prog X.w X.K X.mg X.base CX0 k f fd ps (SpD X.K n op) ∧ Room (k + 2) X.A ∧ X.mg x = some (.ref f) ∧ PySem.W.keepIn X.K (.ref f) = true ∧ Binds X.K fd ps [] ∧ ps.length = n
  blt : ∀ x, c.gl.lookup x = some .blt → X.mg x = none
theorem XOK.gl {c : FC} {X : Cx} (h : XOK c X) {x : Str} (e : c.sc.names.lookup x = some .globalImplicit) : Gl X x := by
  show X.env.scope.names.lookup x = _
  rw [h.sc]; exact e

def dbg (x : Str) : Bool := (x == ("__debug__" : Str)) || (x == ("__classdict__" : Str)) || (x == ("__name__" : Str))
theorem dbg1 {x : Str} (h : dbg x = false) : (x == ("__debug__" : Str)) = false := by unfold dbg at h; simp only [Bool.or_eq_false_iff] at h; exact h.1.1
theorem dbg2 {x : Str} (h : dbg x = false) : (x == ("__classdict__" : Str)) = false := by unfold dbg at h; simp only [Bool.or_eq_false_iff] at h; exact h.1.2
theorem dbg3 {x : Str} (h : dbg x = false) : x ≠ "__name__" := by
  unfold dbg at h; simp only [Bool.or_eq_false_iff] at h
  intro e; rw [e] at h; simp at h
def slot (N : List Str) (x : Str) : Option Nat := match N with
  | [] => none
  | y :: ys => if y == x then some 0 else (slot ys x).map (· + 1)
theorem slot_get {N : List Str} {x : Str} {i : Nat} (h : slot N x = some i) : N[i]? = some x := by
  induction N generalizing i with
  | nil => cases h
  | cons y ys ih =>
    unfold slot at h
    by_cases hy : (y == x) = true
    · rw [if_pos hy] at h
      cases h
      have : y = x := by simpa using hy
      rw [this]; rfl
    · rw [if_neg hy] at h
      cases e : slot ys x with
      | none => rw [e] at h; cases h
      | some j => rw [e] at h; cases h; rw [List.getElem?_cons_succ]; exact ih e
def binD : Operator → Option Op2
  | .Add => some opAdd
  | .Sub => some opSub
  | .Mult => some opMul
  | .FloorDiv => some opDiv
  | .Mod => some opMod
  | .Pow => some opPow
  | _ => none
def cmpD : CmpOp → Option Op2
  | .Eq => some opEq
  | .NotEq => some opNe
  | .Lt => some opLt
  | .LtE => some opLe
  | .Gt => some opGt
  | .GtE => some opGe
  | .In => some opIn
  | .NotIn => some opNotIn
  | _ => none
/-- names of built-in types as values -/
def tyD (x : Str) : Option String := if x == ("str" : Str) then some "str" else if x == ("int" : Str) then some "int" else if x == ("bool" : Str) then some "bool" else if x == ("tuple" : Str) then some "tuple" else if x == ("list" : Str) then some "list" else if x == ("dict" : Str) then some "dict" else none
theorem tyD_boot {x : Str} {T : String} (h : tyD x = some T) : bootBuiltins x = some (.type T) := by
  unfold tyD at h
  repeat' split at h
  all_goals first
    | (cases h; rename_i e; have e' := eq_of_beq e; subst e'; decide +kernel)
    | cases h
/-- built-in functions and types that are called: the function, its run -/
def bltD (m : Bool) (x : Str) : Option (Value × OpN) :=
  if x == ("len" : Str) then some (.builtin "len", opLen)
  else if x == ("all" : Str) then some (.builtin "all", opAll)
  else if x == ("any" : Str) then some (.builtin "any", opAny)
  else if x == ("abs" : Str) then some (.builtin "abs", opAbs)
  else if x == ("max" : Str) then some (.builtin "max", opMax)
  else if x == ("isinstance" : Str) then some (.builtin "isinstance", opIsi)
  else none
def tyCallD (m : Bool) (x : Str) : Option (String × OpN) :=
  if x == ("tuple" : Str) then some ("tuple", opTuple)
  else if x == ("list" : Str) then some ("list", opList m)
  else if x == ("int" : Str) then some ("int", opInt)
  else none
def noStar : Expr → Bool
  | .Starred _ _ => false
  | _ => true
theorem star_cons {e : Expr} {es : List Expr} {env : Env} (h : noStar e = true) : starEach (e :: es) env = (false, eval e env) :: starEach es env := by
  cases e <;> first | rfl | exact absurd (show false = true from h) Bool.false_ne_true
theorem star_all {es : List Expr} {env : Env} {pos : Pos} (h : es.all noStar = true) : (backTo pos (starEach es env)).any (·.1) = false := by
  induction es with
  | nil => rfl
  | cons e es ih =>
    rw [List.all_cons, Bool.and_eq_true] at h
    rw [star_cons h.1]
    show ((false : Bool) || (backTo pos (starEach es env)).any (·.1)) = false
    rw [ih h.2]; rfl
/-- what may stand as a plain index -/
def plainIx : Expr → Bool
  | .Slice _ _ _ _ => false
  | _ => true
theorem plainIx_ok {e : Expr} (h : plainIx e = true) : PlainIx e := by
  intro o i
  cases e <;> first | rfl | exact absurd (show false = true from h) Bool.false_ne_true
def noSet : Expr → Bool
  | .Set _ _ _ => false
  | _ => true
theorem noSet_behind {e : Expr} {op : CmpOp} (h : noSet e = true) : behindInMarks op e = false := by
  cases e <;> first | rfl | exact absurd (show false = true from h) Bool.false_ne_true
theorem noSet_fold {e : Expr} {env : Env} (h : noSet e = true) : ∀ z, foldedSetIterable e env z = pure z := by
  intro z
  cases e <;> first | rfl | exact absurd (show false = true from h) Bool.false_ne_true
theorem noSet_last {op op' : CmpOp} {b c : Expr} (h : noSet c = true) : lastMarks [op, op'] [b, c] = false := by
  cases c <;> first | rfl | exact absurd (show false = true from h) Bool.false_ne_true
/-- tests that are their values' truth -/
def plainT : Expr → Bool
  | .UnaryOp .Not _ _ => false
  | .BoolOp _ _ _ => false
  | .IfExp _ _ _ _ => false
  | .Compare _ _ _ _ => false
  | _ => true
theorem plainT_ok {e : Expr} {env : Env} (h : plainT e = true) : ∀ whole, isTrue e env whole = (do let v ← whole; standAt e.pos; holding [v] (truthy v)) := by
  intro whole
  cases e with
  | UnaryOp op a p => cases op <;> first | rfl | exact absurd (show false = true from h) Bool.false_ne_true
  | BoolOp _ _ _ => exact absurd (show false = true from h) Bool.false_ne_true
  | IfExp _ _ _ _ => exact absurd (show false = true from h) Bool.false_ne_true
  | Compare _ _ _ _ => exact absurd (show false = true from h) Bool.false_ne_true
  | _ => rfl
/-! ### a comprehension's names -/
def relabelS (scope sc : Scope) : Scope := { scope with names := scope.names.map fun (n, k) => if (k == .free && sc.kind == .function && sc.names.lookup n == some .cell) then (n, .cell) else (n, k) }
def freesOf (scope : Scope) : List Str := (scope.names.filter fun p => p.2 == .free).map (·.1)
def slots (N : List Str) : List Str → Option (List Nat)
  | [] => some []
  | y :: ys => match slot N y, slots N ys with
    | some i, some r => some (i :: r)
    | _, _ => none
def compOk (scope sc : Scope) (x : Str) : Bool :=
  scope.names.all (fun y => y.2 != .cell) && scope.names.all (fun y => y.2 != .free || (sc.names.lookup y.1 == some .cell || sc.names.lookup y.1 == some .free)) && (scope.kind == .function) &&
  scope.names.all (fun y => y.2 != .local || scope.names.lookup y.1 == some .local) && (scope.names.lookup x == some .local) && (freesOf scope).all (fun y => scope.names.lookup y == some .free) && decide ((x :: freesOf scope).Nodup)
theorem slots_get {N : List Str} : ∀ {ys : List Str} {js : List Nat}, slots N ys = some js → ys.length = js.length ∧ ∀ (k j : Nat), js[k]? = some j → ys[k]? = N[j]?
  | [], js, h => by cases h; exact ⟨rfl, fun k j e => by simp at e⟩
  | y :: ys, js, h => by
    unfold slots at h
    cases e1 : slot N y with
    | none => rw [e1] at h; cases h
    | some i =>
      cases e2 : slots N ys with
      | none => rw [e1, e2] at h; cases h
      | some r =>
        rw [e1, e2] at h
        cases h
        obtain ⟨h1, h2⟩ := slots_get e2
        refine ⟨by simp [h1], fun k j e => ?_⟩
        cases k with
        | zero => simp at e; subst e; rw [slot_get e1]; rfl
        | succ k => exact h2 k j (by simpa using e)
theorem comp_sc {c : FC} {X : Cx} (h : XOK c X) {scope : Scope} {x : Str} {cap : List Nat} (hk : compOk scope c.sc x = true) (hc : slots c.N (freesOf scope) = some cap) :
    CompSc X scope x (clOf X.env scope.names []) (x :: freesOf scope) cap := by
  unfold compOk at hk
  simp only [Bool.and_eq_true, List.all_eq_true, decide_eq_true_eq, beq_iff_eq] at hk
  obtain ⟨⟨⟨⟨⟨⟨h1, h2⟩, h3⟩, h4⟩, h5⟩, h6⟩, h7⟩ := hk
  have g1 : ∀ y ∈ scope.names, y.2 ≠ .cell := fun y hy e => by have := h1 y hy; rw [e] at this; cases this
  have g2 : ∀ y ∈ scope.names, y.2 = .free → c.sc.names.lookup y.1 = some .cell ∨ c.sc.names.lookup y.1 = some .free := fun y hy e => by
    have := h2 y hy
    rw [e] at this
    simpa using this
  have g4 : ∀ y ∈ scope.names, y.2 = .local → scope.names.lookup y.1 = some .local := fun y hy e => by
    have := h4 y hy
    rw [e] at this
    simpa using this
  have cells : ∀ y ∈ scope.names, y.2 = .free → (X.env.cells.lookup y.1).isSome = true := fun y hy e => h.cells y.1 (g2 y hy e)
  obtain ⟨sl1, sl2⟩ := slots_get hc
  have fr : ∀ (k : Nat) (y : Str), (x :: freesOf scope)[k + 1]? = some y → scope.names.lookup y = some .free := fun k y e => by
    have e' : (freesOf scope)[k]? = some y := by simpa using e
    exact h6 y (List.mem_of_getElem? e')
  have rl : ∀ (l : List (Str × NameKind)) (y : Str), l.lookup y = some .free →
      (l.map fun (n, k) => if (k == NameKind.free && X.env.scope.kind == .function && X.env.kindOf n == some .cell) then (n, NameKind.cell) else (n, k)).lookup y = some .cell ∨
      (l.map fun (n, k) => if (k == NameKind.free && X.env.scope.kind == .function && X.env.kindOf n == some .cell) then (n, NameKind.cell) else (n, k)).lookup y = some .free := by
    intro l y
    induction l with
    | nil => intro h; simp at h
    | cons p r ih =>
      intro hl
      obtain ⟨n, k'⟩ := p
      rw [List.lookup_cons] at hl
      rw [List.map_cons]
      cases hy : y == n with
      | true =>
        rw [hy] at hl
        cases hl
        dsimp only
        split
        · left; rw [List.lookup_cons, hy]
        · right; rw [List.lookup_cons, hy]
      | false =>
        rw [hy] at hl
        dsimp only
        split
        · rw [List.lookup_cons, hy]; exact ih hl
        · rw [List.lookup_cons, hy]; exact ih hl
  refine ⟨clos_eq cells, g1, h3, g4, h5, h7, rfl, by rw [List.length_cons, sl1], fun k j e => ?_, fun k y e => ?_, fun k y e => rl scope.names y (fr k y e), clOf_sub X.env scope.names [] cells (fun y c h => by simp at h), fun y hy => ?_⟩
  · rw [List.getElem?_cons_succ, h.N]; exact sl2 k j e
  · have m := PySem.mem_of_lookup (fr k y e)
    have := g2 _ m rfl
    show X.env.scope.names.lookup y = _ ∨ X.env.scope.names.lookup y = _
    rw [h.sc]; exact this
  · refine clOf_has X.env scope.names [] y (.inr ?_)
    rcases hy with hy | hy
    · rcases relabel_mem hy with m | m
      · exact absurd rfl (g1 _ m)
      · exact m
    · rcases relabel_mem hy with m | m
      · exact m
      · exact m
theorem comp_xok {c : FC} {X : Cx} (h : XOK c X) {scope : Scope} {x : Str} {cap : List Nat} (hk : compOk scope c.sc x = true) (hc : slots c.N (freesOf scope) = some cap) (C : Addr) (s : Shared) (H : Hp) (ex : List Addr) :
    XOK { c with N := x :: freesOf scope, sc := relabelS scope c.sc } (cxComp X scope (clOf X.env scope.names []) C (x :: freesOf scope) s H ex) := by
  have Sc := comp_sc h hk hc
  have es : (cxComp X scope (clOf X.env scope.names []) C (x :: freesOf scope) s H ex).env.scope = relabelS scope c.sc := by
    show relabel scope X.env = _
    unfold relabel relabelS
    rw [← h.sc]; rfl
  refine ⟨rfl, Sc.nd, es, h.calm, h.units, fun y hy => ?_, h.con, h.fn, h.blt⟩
  obtain ⟨cc, hcc⟩ := Sc.has y (by
    have e2 : relabel scope X.env = relabelS scope c.sc := es
    rw [e2]; exact hy)
  show ((clOf X.env scope.names []).lookup y).isSome = true
  rw [hcc]; rfl

def sortD (a : Option NameKind) (b : Option GV) (c : Option NameKind) (d : Option GV) : Option OpN := match a, b, c, d with
  | some .globalImplicit, some .blt, some .globalImplicit, some (.fn 1 op) => some op
  | _, _, _, _ => none
theorem sortD_ok {a : Option NameKind} {b : Option GV} {c : Option NameKind} {d : Option GV} {op : OpN} (h : sortD a b c d = some op) : a = some .globalImplicit ∧ b = some .blt ∧ c = some .globalImplicit ∧ d = some (.fn 1 op) := by
  unfold sortD at h
  split at h
  · cases h; exact ⟨rfl, rfl, rfl, rfl⟩
  · cases h
/-! ### the run of an expression -/
mutual
def denE : Nat → FC → Expr → Option Run
  | 0, _, _ => none
  | n + 1, c, e => match e with
    | .Name x _ => if dbg x then none else (match c.sc.names.lookup x with
      | some .globalImplicit => (match c.gl.lookup x with
        | some (.con w) => some (rCon w)
        | some .blt => (tyD x).map fun T => rCon (.ty T)
        | _ => none)
      | some .local => (slot c.N x).map rVar
      | some .cell => (slot c.N x).map rVar
      | some .free => (slot c.N x).map rVar
      | _ => none)
    | .Constant (.int i) _ _ => some (rCon (.int i))
    | .Constant (.str x) _ _ => some (rCon (.str x))
    | .Constant (.bool b) _ _ => some (rCon (.bl b))
    | .Constant .none _ _ => some (rCon .non)
    | .BinOp a op b _ => (denE n c a).bind fun ra => (denE n c b).bind fun rb => (binD op).map fun o => run2 ra rb o
    | .UnaryOp .Not a _ => (denE n c a).map runNot
    | .UnaryOp .USub a _ => (denE n c a).map fun r => run1 r opNeg
    | .BoolOp op [a] _ => denE n c a
    | .BoolOp .And (a :: b :: rest) pos => (denE n c a).bind fun ra => (denE n c (.BoolOp .And (b :: rest) pos)).map fun rb => runAnd ra rb
    | .BoolOp .Or (a :: b :: rest) pos => (denE n c a).bind fun ra => (denE n c (.BoolOp .Or (b :: rest) pos)).map fun rb => runOr ra rb
    | .Compare a [op] [b] _ => if noSet b then (denE n c a).bind fun ra => (denE n c b).bind fun rb => (cmpD op).map fun o => run2 ra rb o else none
    | .Compare a [op, op'] [b, d] _ => if noSet d then (denE n c a).bind fun ra => (denE n c b).bind fun rb => (denE n c d).bind fun rd => (cmpD op).bind fun o => (cmpD op').map fun o' => runC ra rb rd o o' else none
    | .IfExp t a b _ => (denT n c t).bind fun rt => (denE n c a).bind fun ra => (denE n c b).map fun rb => runIf rt ra rb
    | .Tuple es _ _ => (denEs n c es).map fun rr => runN rr opTup
    | .List es pos => (denEs n c es).map fun rr => runN rr (opL (c.isMut pos))
    | .Call (.Name x _) (e :: es) [] pos => if dbg x then none else if (e :: es).all noStar then (match c.sc.names.lookup x with
      | some .globalImplicit => (match c.gl.lookup x with
        | some (.fn k op) => if (e :: es).length = k then (denEs n c (e :: es)).map fun rr => runN rr (calmOp op) else none
        | some .blt => (match bltD (c.isMut pos) x with
          | some (_, op) => (denEs n c (e :: es)).map fun rr => runN rr op
          | none => (match tyCallD (c.isMut pos) x with
            | some (_, op) => (denEs n c (e :: es)).map fun rr => runN rr op
            | none => none))
        | _ => none)
      | _ => none) else none
    | .Subscript a (.Slice none none none _) pos => (denE n c a).map fun ra => runSlNN (c.isMut pos) ra
    | .Subscript a (.Slice (some l) none none _) pos => (denE n c a).bind fun ra => (denE n c l).map fun rl => runSlSN (c.isMut pos) ra rl
    | .Subscript a (.Slice none (some h) none _) pos => (denE n c a).bind fun ra => (denE n c h).map fun rh => runSlNS (c.isMut pos) ra rh
    | .Subscript a (.Slice (some l) (some h) none _) pos => (denE n c a).bind fun ra => (denE n c l).bind fun rl => (denE n c h).map fun rh => runSlSS (c.isMut pos) ra rl rh
    | .Subscript a (.Slice none none (some (.UnaryOp .USub (.Constant (.int 1) _ _) _)) _) pos => (denE n c a).map fun ra => run1 ra (opRev (c.isMut pos))
    | .Subscript a b _ => if plainIx b then (denE n c a).bind fun ra => (denE n c b).map fun rb => run2 ra rb opIdx else none
    | .ListComp elt [⟨.Name x _, iter, [], 0⟩] scope pos => if noSet iter && compOk scope c.sc x then (denI n c iter).bind fun src => (slots c.N (freesOf scope)).bind fun cap =>
        (denE n { c with N := x :: freesOf scope, sc := relabelS scope c.sc } elt).map fun re => runComp (c.isMut pos) src cap (rCon (.bl true)) re else none
    | .ListComp elt [⟨.Name x _, iter, [t], 0⟩] scope pos => if noSet iter && compOk scope c.sc x then (denI n c iter).bind fun src => (slots c.N (freesOf scope)).bind fun cap =>
        (denT n { c with N := x :: freesOf scope, sc := relabelS scope c.sc } t).bind fun rt => (denE n { c with N := x :: freesOf scope, sc := relabelS scope c.sc } elt).map fun re => runComp (c.isMut pos) src cap rt re else none
    | .Dict [] [] _ => some rDict0
    | .Call (.Name x _) [e] [⟨some kw, .Name g _, _⟩] _ => if x == ("sorted" : Str) && kw == ("key" : Str) && noStarE e && !dbg g then (sortD (c.sc.names.lookup x) (c.gl.lookup x) (c.sc.names.lookup g) (c.gl.lookup g)).bind fun op => (denE n c e).map fun ra => run1 ra (opSort op) else none
    | _ => none
def denT : Nat → FC → Expr → Option Run
  | 0, _, _ => none
  | n + 1, c, e => match e with
    | .UnaryOp .Not a _ => (denT n c a).map runNot
    | .BoolOp op [a] _ => denT n c a
    | .BoolOp .And (a :: b :: rest) pos => (denT n c a).bind fun ra => (denT n c (.BoolOp .And (b :: rest) pos)).map fun rb => runAnd ra rb
    | .BoolOp .Or (a :: b :: rest) pos => (denT n c a).bind fun ra => (denT n c (.BoolOp .Or (b :: rest) pos)).map fun rb => runOr ra rb
    | .Compare a [op] [b] _ => if noSet b then (denE n c a).bind fun ra => (denE n c b).bind fun rb => (cmpD op).map fun o => run2 ra rb o else none
    | .Compare a [op, op'] [b, d] _ => if noSet d then (denE n c a).bind fun ra => (denE n c b).bind fun rb => (denE n c d).bind fun rd => (cmpD op).bind fun o => (cmpD op').map fun o' => runC ra rb rd o o' else none
    | e => if plainT e then denE n c e else none
def denEs : Nat → FC → List Expr → Option Runs
  | 0, _, _ => none
  | n + 1, c, es => match es with
    | [] => some runsNil
    | e :: es => if noStar e then (denE n c e).bind fun r => (denEs n c es).map fun rr => runsCons r rr else none
def denI : Nat → FC → Expr → Option Src
  | 0, _, _ => none
  | n + 1, c, e => match e with
    | .Call (.Name x p) [a] [] pos => if x == ("range" : Str) then (match c.sc.names.lookup x, c.gl.lookup x with
        | some .globalImplicit, some .blt => if noStar a then (denE n c a).map runRng1 else none
        | _, _ => none)
      else (denE n c (.Call (.Name x p) [a] [] pos)).map runSrc
    | .Call (.Name x p) [a, b] [] pos => if x == ("range" : Str) then (match c.sc.names.lookup x, c.gl.lookup x with
        | some .globalImplicit, some .blt => if noStar a && noStar b then (denE n c a).bind fun ra => (denE n c b).map fun rb => runRng2 ra rb else none
        | _, _ => none)
      else (denE n c (.Call (.Name x p) [a, b] [] pos)).map runSrc
    | e => (denE n c e).map runSrc
end
end DL
/-! DATA LAYER 8: the run of a text is what the model does -/
namespace DL
open PySem PySem.Spec PyProof.Rows L2
section
variable {X : Cx}
theorem binD_ok {op : Operator} {o : Op2} (h : binD op = some o) : OpW X (binaryOp op) o := by
  cases op <;> first | (cases h; first | exact opw_add | exact opw_sub | exact opw_mul | exact opw_div | exact opw_mod | exact opw_pow) | cases h
theorem cmpD_ok {op : CmpOp} {o : Op2} (hu : X.A.units + 64 < cLine) (h : cmpD op = some o) : OpW X (compareOp op) o := by
  cases op <;> first | (cases h; first | exact opw_eq hu | exact opw_ne hu | exact opw_lt | exact opw_le | exact opw_gt | exact opw_ge | exact opw_in hu | exact opw_notIn hu) | cases h
theorem bltD_ok {m : Bool} {x : Str} {f : Value} {op : OpN} (hc : X.calm = true) (h : bltD m x = some (f, op)) : ∃ id, f = .builtin id ∧ bootBuiltins x = some (.builtin id) ∧ CallW X (.builtin id) op := by
  unfold bltD at h
  repeat' split at h
  all_goals first
    | (cases h; rename_i e; have e' := eq_of_beq e; subst e'; exact ⟨_, rfl, by decide +kernel, by first | exact cw_len | exact cw_all hc | exact cw_any hc | exact cw_abs | exact cw_max hc | exact cw_isi⟩)
    | cases h
theorem tyCallD_ok {m : Bool} {x : Str} {T : String} {op : OpN} (h : tyCallD m x = some (T, op)) : bootBuiltins x = some (.type T) ∧ CallW X (.type T) op := by
  unfold tyCallD at h
  repeat' split at h
  all_goals first
    | (cases h; rename_i e; have e' := eq_of_beq e; subst e'; exact ⟨by decide +kernel, by first | exact cw_tuple | exact cw_list | exact cw_int⟩)
    | cases h
theorem pd_callB {id : String} {op : OpN} {x : Str} {p pos : Pos} {e : Expr} {es : List Expr} {rr : Runs} (hc : CallW X (.builtin id) op) (hg : Gl X x) (hm : X.mg x = none) (hv : bootBuiltins x = some (.builtin id)) (ha : PDA X (e :: es) rr) (hd : dbg x = false) (hs : (e :: es).all noStar = true) :
    PD X (.Call (.Name x p) (e :: es) [] pos) (runN rr op) := by
  rw [List.all_cons, Bool.and_eq_true] at hs
  exact PE.imp (pe_callB hc.r hg hm hv ha (dbg3 hd) (dbg1 hd) (star_cons hs.1) (star_all hs.2)) fun _ _ _ h => tD_callB h
theorem pd_callT {T : String} {op : OpN} {x : Str} {p pos : Pos} {e : Expr} {es : List Expr} {rr : Runs} (hc : CallW X (.type T) op) (hg : Gl X x) (hm : X.mg x = none) (hv : bootBuiltins x = some (.type T)) (ha : PDA X (e :: es) rr) (hd : dbg x = false) (hs : (e :: es).all noStar = true) :
    PD X (.Call (.Name x p) (e :: es) [] pos) (runN rr op) := by
  rw [List.all_cons, Bool.and_eq_true] at hs
  exact PE.imp (pe_callTy hc.r hg hm hv ha (dbg3 hd) (dbg1 hd) (star_cons hs.1) (star_all hs.2)) fun _ _ _ h => tD_callB h
theorem pdi_range2 {tg a b : Expr} {p pos : Pos} {ra rb : Run} (hg : Gl X "range") (hm : X.mg "range" = none) (ha : PD X a ra) (hb : PD X b rb) (hs : starEach [a, b] X.env = [(false, eval a X.env), (false, eval b X.env)]) (hs2 : starEach [b] X.env = [(false, eval b X.env)]) : PDI X tg (.Call (.Name "range" p) [a, b] [] pos) (runRng2 ra rb) := by
  refine PI.imp (pi_range2 hg hm (pda_cons ha (pda_cons hb pda_nil hs2) (by rw [hs, hs2])) hs hs2) fun σ H Q hq => ?_
  obtain ⟨ι, G, st, Γ, en, sr, q⟩ := hq
  refine ⟨ι, G, st, Γ, en, sr, ?_⟩
  unfold runRng2 at q
  unfold runsCons runsNil
  cases e1 : ra Γ st with
  | stuck => rw [e1] at q; exact q
  | ex c s => rw [e1] at q; exact q
  | ok w st1 =>
    rw [e1] at q
    have q0 : match (rb Γ st1).bind fun w' st2 => (match w, w' with
        | .int i, .int j => if inRange i ∧ inRange j then R.ok (rangeW i (j - i).toNat) st2 else R.stuck
        | _, _ => R.stuck) with
      | .ok items st' => ∀ J ι' G' H', Ext ι st.nxt G ι' st'.nxt G' → SR X.K ι' st' G' H' → SrcR X.K J items ι' st'.nxt G' → Q J H'
      | .ex c st' => XW X ι st.nxt G c st'
      | .stuck => False := q
    show match ((rb Γ st1).bind fun w' st1 => (R.ok [] st1).bind fun ws st2 => R.ok (w' :: ws) st2).bind fun ws st2 => R.ok (w :: ws) st2 with
      | .ok ws st' => ∀ vs ι' G' H', Ext ι st.nxt G ι' st'.nxt G' → SR X.K ι' st' G' H' → RelWs X.K ι' st'.nxt G' vs ws → _
      | .ex c st' => XW X ι st.nxt G c st'
      | .stuck => False
    cases e2 : rb Γ st1 with
    | stuck => rw [e2] at q0; exact q0
    | ex c s => rw [e2] at q0; exact q0
    | ok w' st2 =>
      rw [e2] at q0
      intro vs ι1 G1 H1 x1 sr1 r1
      obtain ⟨v, v', rfl, r3, r4⟩ := rel2 r1
      have q' : match (match w, w' with
          | .int i, .int j => if inRange i ∧ inRange j then R.ok (rangeW i (j - i).toNat) st2 else R.stuck
          | _, _ => R.stuck) with
        | .ok items st' => ∀ J ι' G' H', Ext ι st.nxt G ι' st'.nxt G' → SR X.K ι' st' G' H' → SrcR X.K J items ι' st'.nxt G' → Q J H'
        | .ex c st' => XW X ι st.nxt G c st'
        | .stuck => False := q0
      cases w with
      | int i =>
        cases w' with
        | int j =>
          cases r3; cases r4
          by_cases hr : inRange i ∧ inRange j
          · have q'' : match (if inRange i ∧ inRange j then R.ok (rangeW i (j - i).toNat) st2 else R.stuck) with
              | .ok items st' => ∀ J ι' G' H', Ext ι st.nxt G ι' st'.nxt G' → SR X.K ι' st' G' H' → SrcR X.K J items ι' st'.nxt G' → Q J H'
              | .ex c st' => XW X ι st.nxt G c st'
              | .stuck => False := q'
            rw [if_pos hr] at q''
            exact ⟨i, j, rfl, ⟨hr.1.1, hr.1.2, hr.2.1, hr.2.2⟩, q'' _ ι1 G1 H1 x1 sr1 (src_range i _)⟩
          · have q'' : match (if inRange i ∧ inRange j then R.ok (rangeW i (j - i).toNat) st2 else R.stuck) with
              | .ok items st' => ∀ J ι' G' H', Ext ι st.nxt G ι' st'.nxt G' → SR X.K ι' st' G' H' → SrcR X.K J items ι' st'.nxt G' → Q J H'
              | .ex c st' => XW X ι st.nxt G c st'
              | .stuck => False := q'
            rw [if_neg hr] at q''
            exact q''.elim
        | _ => exact (show False from q').elim
      | _ => exact (show False from q').elim
end

theorem ob {α β : Type} {o : Option α} {f : α → Option β} {b : β} (h : o.bind f = some b) : ∃ a, o = some a ∧ f a = some b := by
  cases o with
  | none => cases h
  | some a => exact ⟨a, rfl, h⟩
theorem om {α β : Type} {o : Option α} {f : α → β} {b : β} (h : o.map f = some b) : ∃ a, o = some a ∧ f a = b := by
  cases o with
  | none => cases h
  | some a => exact ⟨a, rfl, Option.some.inj h⟩
theorem oite {α : Type} {c : Bool} {x : Option α} {b : α} (h : (if c then x else none) = some b) : c = true ∧ x = some b := by
  cases c with
  | true => exact ⟨rfl, h⟩
  | false => cases h
theorem runs_len : ∀ (n : Nat) (c : FC) (es : List Expr) (rr : Runs), denEs n c es = some rr → ∀ Γ st ws st', rr Γ st = .ok ws st' → ws.length = es.length
  | 0, _, _, _, h => by cases h
  | n + 1, c, [], rr, h => by
    cases h
    intro Γ st ws st' e
    cases e; rfl
  | n + 1, c, e :: es, rr, h => by
    unfold denEs at h
    obtain ⟨_, h⟩ := oite h
    obtain ⟨r, hr, h⟩ := ob h
    obtain ⟨r2, hr2, h⟩ := om h
    subst h
    intro Γ st ws st' e
    unfold runsCons at e
    cases e1 : r Γ st with
    | stuck => rw [e1] at e; cases e
    | ex c s => rw [e1] at e; cases e
    | ok w st1 =>
      rw [e1] at e
      have e' : ((r2 Γ st1).bind fun ws st2 => R.ok (w :: ws) st2) = .ok ws st' := e
      cases e2 : r2 Γ st1 with
      | stuck => rw [e2] at e'; cases e'
      | ex c s => rw [e2] at e'; cases e'
      | ok ws2 st2 =>
        rw [e2] at e'
        cases e'
        rw [List.length_cons, List.length_cons, runs_len n c es r2 hr2 Γ st1 ws2 _ e2]

theorem XOK.u64 {c : FC} {X : Cx} (h : XOK c X) : X.A.units + 64 < cLine := by have := h.units; omega
structure Sound (n : Nat) : Prop where
  e : ∀ (c : FC) (X : Cx) (e : Expr) (r : Run), XOK c X → denE n c e = some r → PD X e r
  t : ∀ (c : FC) (X : Cx) (e : Expr) (r : Run), XOK c X → denT n c e = some r → PT X e (tDT X r)
  w : ∀ (c : FC) (X : Cx) (op : BoolOp) (es : List Expr) (pos : Pos) (r : Run), XOK c X → denT n c (.BoolOp op es pos) = some r → PW X (.BoolOp op es pos) (tDT X r)
  es : ∀ (c : FC) (X : Cx) (es : List Expr) (r : Runs), XOK c X → denEs n c es = some r → PDA X es r
  i : ∀ (c : FC) (X : Cx) (y : Str) (py : Pos) (e : Expr) (r : Src), XOK c X → denI n c e = some r → PDI X (.Name y py) e r
theorem sound : ∀ n, Sound n
  | 0 => ⟨fun _ _ _ _ _ h => by (unfold denE at h; cases h), fun _ _ _ _ _ h => by (unfold denT at h; cases h), fun _ _ _ _ _ _ _ h => by (unfold denT at h; cases h), fun _ _ _ _ _ h => by (unfold denEs at h; cases h), fun _ _ _ _ _ _ _ h => by (unfold denI at h; cases h)⟩
  | n + 1 => by
    have ih := sound n
    have he : ∀ (c : FC) (X : Cx) (e : Expr) (r : Run), XOK c X → denE (n + 1) c e = some r → PD X e r := by
      intro c X e r xo h
      unfold denE at h
      split at h
      case h_1 x pos =>
        by_cases hd : dbg x = true
        · rw [if_pos hd] at h; cases h
        · rw [if_neg hd] at h
          have hd' : dbg x = false := by simpa using hd
          have var : ∀ {r : Run}, (slot c.N x).map rVar = some r → Vis X.env.scope x → PD X (.Name x pos) r := by
            intro r h hv
            obtain ⟨i, hi, rfl⟩ := om h
            exact pd_var (by rw [xo.N]; exact slot_get hi) hv (dbg1 hd') (dbg2 hd')
          split at h
          · rename_i hl
            split at h
            · rename_i w hw
              cases h
              obtain ⟨u, v, h1, h2, h3⟩ := xo.con x w hw
              exact pd_con (pe_glob (xo.gl hl) h1 h2 (dbg1 hd')) h3
            · rename_i hw
              obtain ⟨T, hT, rfl⟩ := om h
              exact pd_con (v := .ty T) (pe_bltn (xo.gl hl) (xo.blt x hw) (tyD_boot hT) rfl (dbg3 hd') (dbg1 hd')) fun _ _ _ => .ty T
            · cases h
          · rename_i hl; exact var h (.inl (by rw [xo.sc]; exact hl))
          · rename_i hl; exact var h (.inr (.inl (by rw [xo.sc]; exact hl)))
          · rename_i hl; exact var h (.inr (.inr (by rw [xo.sc]; exact hl)))
          · cases h
      case h_2 => cases h; exact pd_con pe_int fun _ _ _ => .int _
      case h_3 => cases h; exact pd_con pe_str fun _ _ _ => .str _
      case h_4 => cases h; exact pd_con pe_bl fun _ _ _ => .bl _
      case h_5 => cases h; exact pd_con pe_non fun _ _ _ => .non
      case h_6 a op b pos =>
        obtain ⟨ra, ha, h⟩ := ob h
        obtain ⟨rb, hb, h⟩ := ob h
        obtain ⟨o, ho, rfl⟩ := om h
        exact pd_op (binD_ok ho) (ih.e c X a ra xo ha) (ih.e c X b rb xo hb)
      case h_7 a pos => obtain ⟨ra, ha, rfl⟩ := om h; exact pd_not (ih.e c X a ra xo ha)
      case h_8 a pos => obtain ⟨ra, ha, rfl⟩ := om h; exact pd_neg (ih.e c X a ra xo ha)
      case h_9 op a pos => exact pd_one (ih.e c X a r xo h)
      case h_10 a b rest pos => obtain ⟨ra, ha, h⟩ := ob h; obtain ⟨rb, hb, rfl⟩ := om h; exact pd_and (ih.e c X a ra xo ha) (ih.e c X _ rb xo hb)
      case h_11 a b rest pos => obtain ⟨ra, ha, h⟩ := ob h; obtain ⟨rb, hb, rfl⟩ := om h; exact pd_or (ih.e c X a ra xo ha) (ih.e c X _ rb xo hb)
      case h_12 a op b pos =>
        obtain ⟨hn, h⟩ := oite h
        obtain ⟨ra, ha, h⟩ := ob h
        obtain ⟨rb, hb, h⟩ := ob h
        obtain ⟨o, ho, rfl⟩ := om h
        exact pd_cmp (cmpD_ok xo.u64 ho) (ih.e c X a ra xo ha) (ih.e c X b rb xo hb) (noSet_behind hn)
      case h_13 a op op' b d pos =>
        obtain ⟨hn, h⟩ := oite h
        obtain ⟨ra, ha, h⟩ := ob h
        obtain ⟨rb, hb, h⟩ := ob h
        obtain ⟨rd, hd, h⟩ := ob h
        obtain ⟨o, ho, h⟩ := ob h
        obtain ⟨o', ho', rfl⟩ := om h
        exact pd_chain (cmpD_ok xo.u64 ho) (cmpD_ok xo.u64 ho') (ih.e c X a ra xo ha) (ih.e c X b rb xo hb) (ih.e c X d rd xo hd) (noSet_last hn)
      case h_14 t a b pos =>
        obtain ⟨rt, ht, h⟩ := ob h
        obtain ⟨ra, ha, h⟩ := ob h
        obtain ⟨rb, hb, rfl⟩ := om h
        exact pd_if (ih.t c X t rt xo ht) (ih.e c X a ra xo ha) (ih.e c X b rb xo hb)
      case h_15 es k pos => obtain ⟨rr, hr, rfl⟩ := om h; exact pd_tup (ih.es c X es rr xo hr)
      case h_16 es pos =>
        obtain ⟨rr, hr, rfl⟩ := om h
        cases c.isMut pos with
        | true => exact pd_newL (ih.es c X es rr xo hr)
        | false => exact pd_lst (ih.es c X es rr xo hr)
      case h_17 x p e es pos =>
        by_cases hd : dbg x = true
        · rw [if_pos hd] at h; cases h
        · rw [if_neg hd] at h
          have hd' : dbg x = false := by simpa using hd
          obtain ⟨hs, h⟩ := oite h
          split at h
          · rename_i hl
            split at h
            · rename_i k op hw
              split at h
              · rename_i hk
                obtain ⟨rr, hr, rfl⟩ := om h
                obtain ⟨kk, f, fd, ps, F, R, h1, h2, h3, _⟩ := xo.fn x k op hw
                have R := R.mono (Nat.le_add_right kk 2)
                have hs' := hs
                rw [List.all_cons, Bool.and_eq_true] at hs'
                exact pd_call F R (xo.gl hl) h1 h2 h3 (ih.es c X _ rr xo hr) (fun Γ st ws st' e => by rw [runs_len n c _ rr hr Γ st ws st' e]; exact hk) (dbg1 hd') (star_cons hs'.1) (star_all hs'.2)
              · cases h
            · rename_i hw
              split at h
              · rename_i f op hb
                obtain ⟨rr, hr, rfl⟩ := om h
                obtain ⟨id, rfl, h1, h2⟩ := bltD_ok (X := X) xo.calm hb
                exact pd_callB h2 (xo.gl hl) (xo.blt x hw) h1 (ih.es c X _ rr xo hr) hd' hs
              · split at h
                · rename_i T op hb
                  obtain ⟨rr, hr, rfl⟩ := om h
                  obtain ⟨h1, h2⟩ := tyCallD_ok (X := X) hb
                  exact pd_callT h2 (xo.gl hl) (xo.blt x hw) h1 (ih.es c X _ rr xo hr) hd' hs
                · cases h
            · cases h
          · cases h
      case h_18 a p2 pos => obtain ⟨ra, ha, rfl⟩ := om h; exact pd_slNN (ih.e c X a ra xo ha)
      case h_19 a l p2 pos => obtain ⟨ra, ha, h⟩ := ob h; obtain ⟨rl, hl, rfl⟩ := om h; exact pd_slSN (ih.e c X a ra xo ha) (ih.e c X l rl xo hl)
      case h_20 a l p2 pos => obtain ⟨ra, ha, h⟩ := ob h; obtain ⟨rl, hl, rfl⟩ := om h; exact pd_slNS (ih.e c X a ra xo ha) (ih.e c X l rl xo hl)
      case h_21 a l hh p2 pos => obtain ⟨ra, ha, h⟩ := ob h; obtain ⟨rl, hl, h⟩ := ob h; obtain ⟨rh, hr, rfl⟩ := om h; exact pd_slSS (ih.e c X a ra xo ha) (ih.e c X l rl xo hl) (ih.e c X hh rh xo hr)
      case h_22 a j p3 p4 p2 pos => obtain ⟨ra, ha, rfl⟩ := om h; exact pd_rev (ih.e c X a ra xo ha)
      case h_23 a b pos _ _ _ _ _ =>
        obtain ⟨hp, h⟩ := oite h
        obtain ⟨ra, ha, h⟩ := ob h
        obtain ⟨rb, hb, rfl⟩ := om h
        exact pd_ix (ih.e c X a ra xo ha) (ih.e c X b rb xo hb) (plainIx_ok hp)
      case h_24 elt x px iter scope pos =>
        obtain ⟨hk, h⟩ := oite h
        rw [Bool.and_eq_true] at hk
        obtain ⟨src, hsrc, h⟩ := ob h
        obtain ⟨cap, hcap, h⟩ := ob h
        obtain ⟨re, hre, rfl⟩ := om h
        refine (pd_comp xo.calm (ih.i c X x px iter src xo hsrc) (comp_sc xo hk.2 hcap) (fun C s H ex => ?_) (fun C s H ex => PD.calm (ih.e _ _ elt re (comp_xok xo hk.2 hcap C s H ex) hre)) (noSet_fold hk.1)).1
        intro pins s' σ H' Q I q
        refine pts_nil pins s' σ H' Q I ?_
        obtain ⟨ι, G, st, Γ, en, sr, q⟩ := q
        obtain ⟨b, e, q'⟩ := q (.bl true) ι G H' (Ext.refl _ _ _) sr (.bl true)
        cases e; exact q'
      case h_25 elt x px iter t scope pos =>
        obtain ⟨hk, h⟩ := oite h
        rw [Bool.and_eq_true] at hk
        obtain ⟨src, hsrc, h⟩ := ob h
        obtain ⟨cap, hcap, h⟩ := ob h
        obtain ⟨rt, hrt, h⟩ := ob h
        obtain ⟨re, hre, rfl⟩ := om h
        exact (pd_comp xo.calm (ih.i c X x px iter src xo hsrc) (comp_sc xo hk.2 hcap) (fun C s H ex => pts_one (PT.calm (ih.t _ _ t rt (comp_xok xo hk.2 hcap C s H ex) hrt))) (fun C s H ex => PD.calm (ih.e _ _ elt re (comp_xok xo hk.2 hcap C s H ex) hre)) (noSet_fold hk.1)).1
      case h_26 => cases h; exact pd_dict0
      case h_27 x p e kw g gp kp pos =>
        obtain ⟨hk, h2⟩ := oite h
        clear h
        simp only [Bool.and_eq_true, Bool.not_eq_true'] at hk
        obtain ⟨⟨⟨hx, hkw⟩, hs⟩, hg⟩ := hk
        have hx' := eq_of_beq hx
        have hkw' := eq_of_beq hkw
        clear hx hkw
        subst hx' hkw'
        obtain ⟨op, hop, h3⟩ := ob h2
        obtain ⟨l1, l2, l3, l4⟩ := sortD_ok hop
        obtain ⟨ra, ha, rfl⟩ := om h3
        obtain ⟨kk, f, fd, ps, F, R, h1, h2, h3, h4⟩ := xo.fn g 1 op l4
        match ps, h4, F, h3 with
        | [pn], _, F, h3 => exact pd_sorted xo.units F R h3 (xo.gl l1) (xo.blt _ l2) (xo.gl l3) h1 (dbg1 hg) (ih.e c X e ra xo ha) hs
      all_goals cases h
    have hw : ∀ (c : FC) (X : Cx) (op : BoolOp) (es : List Expr) (pos : Pos) (r : Run), XOK c X → denT (n + 1) c (.BoolOp op es pos) = some r → PW X (.BoolOp op es pos) (tDT X r) := by
      intro c X op es pos r xo h
      unfold denT at h
      match op, es, h with
      | op, [], h => exact absurd h (by cases op <;> simp [plainT])
      | op, [a], h => exact pwt_one (ih.t c X a r xo (by cases op <;> exact h))
      | .And, a :: b :: rest, h => obtain ⟨ra, ha, h⟩ := ob h; obtain ⟨rb, hb, rfl⟩ := om h; exact pwt_and (ih.t c X a ra xo ha) (ih.w c X .And (b :: rest) pos rb xo hb)
      | .Or, a :: b :: rest, h => obtain ⟨ra, ha, h⟩ := ob h; obtain ⟨rb, hb, rfl⟩ := om h; exact pwt_or (ih.t c X a ra xo ha) (ih.w c X .Or (b :: rest) pos rb xo hb)
    have ht : ∀ (c : FC) (X : Cx) (e : Expr) (r : Run), XOK c X → denT (n + 1) c e = some r → PT X e (tDT X r) := by
      intro c X e r xo h
      by_cases hb : ∃ op es pos, e = .BoolOp op es pos
      · obtain ⟨op, es, pos, rfl⟩ := hb
        exact (hw c X op es pos r xo h).pt
      · unfold denT at h
        split at h
        case h_1 a pos => obtain ⟨ra, ha, rfl⟩ := om h; exact pdt_not (ih.t c X a ra xo ha)
        case h_2 op a pos => exact absurd ⟨_, _, _, rfl⟩ hb
        case h_3 a b rest pos => exact absurd ⟨_, _, _, rfl⟩ hb
        case h_4 a b rest pos => exact absurd ⟨_, _, _, rfl⟩ hb
        case h_5 a op b pos =>
          obtain ⟨hn, h⟩ := oite h
          obtain ⟨ra, ha, h⟩ := ob h
          obtain ⟨rb, hb', h⟩ := ob h
          obtain ⟨o, ho, rfl⟩ := om h
          exact pdt_cmp (cmpD_ok xo.u64 ho) (ih.e c X a ra xo ha) (ih.e c X b rb xo hb') (noSet_behind hn)
        case h_6 a op op' b d pos =>
          obtain ⟨hn, h⟩ := oite h
          obtain ⟨ra, ha, h⟩ := ob h
          obtain ⟨rb, hb', h⟩ := ob h
          obtain ⟨rd, hd, h⟩ := ob h
          obtain ⟨o, ho, h⟩ := ob h
          obtain ⟨o', ho', rfl⟩ := om h
          exact pdt_chain (cmpD_ok xo.u64 ho) (cmpD_ok xo.u64 ho') (ih.e c X a ra xo ha) (ih.e c X b rb xo hb') (ih.e c X d rd xo hd) (noSet_last hn)
        case h_7 =>
          obtain ⟨hp, h⟩ := oite h
          exact pdt_val (ih.e c X e r xo h) (plainT_ok hp)
    have hes : ∀ (c : FC) (X : Cx) (es : List Expr) (r : Runs), XOK c X → denEs (n + 1) c es = some r → PDA X es r := by
      intro c X es r xo h
      unfold denEs at h
      match es, h with
      | [], h => cases h; exact pda_nil
      | e :: es, h =>
        obtain ⟨hs, h⟩ := oite h
        obtain ⟨ra, ha, h⟩ := ob h
        obtain ⟨rr, hr, rfl⟩ := om h
        exact pda_cons (ih.e c X e ra xo ha) (ih.es c X es rr xo hr) (star_cons hs)
    have hi : ∀ (c : FC) (X : Cx) (y : Str) (py : Pos) (e : Expr) (r : Src), XOK c X → denI (n + 1) c e = some r → PDI X (.Name y py) e r := by
      intro c X y py e r xo h
      unfold denI at h
      split at h
      case h_1 x p a pos =>
        by_cases hx : (x == ("range" : Str)) = true
        · rw [if_pos hx] at h
          have hx' := eq_of_beq hx
          subst hx'
          split at h
          · rename_i hl hw
            obtain ⟨hs, h⟩ := oite h
            obtain ⟨ra, ha, rfl⟩ := om h
            exact pdi_range1 (xo.gl hl) (xo.blt _ hw) (ih.e c X a ra xo ha) (star_cons hs)
          · cases h
        · rw [if_neg hx] at h
          obtain ⟨ra, ha, rfl⟩ := om h
          exact pdi_val (ih.e c X _ ra xo ha)
      case h_2 x p a b pos =>
        by_cases hx : (x == ("range" : Str)) = true
        · rw [if_pos hx] at h
          have hx' := eq_of_beq hx
          subst hx'
          split at h
          · rename_i hl hw
            obtain ⟨hs, h⟩ := oite h
            rw [Bool.and_eq_true] at hs
            obtain ⟨ra, ha, h⟩ := ob h
            obtain ⟨rb, hb, rfl⟩ := om h
            have s2 : starEach [b] X.env = [(false, eval b X.env)] := star_cons hs.2
            exact pdi_range2 (xo.gl hl) (xo.blt _ hw) (ih.e c X a ra xo ha) (ih.e c X b rb xo hb) (by rw [star_cons hs.1, s2]) s2
          · cases h
        · rw [if_neg hx] at h
          obtain ⟨ra, ha, rfl⟩ := om h
          exact pdi_val (ih.e c X _ ra xo ha)
      case h_3 =>
        obtain ⟨ra, ha, rfl⟩ := om h
        exact pdi_val (ih.e c X e ra xo ha)
    exact ⟨he, ht, hw, hes, hi⟩
end DL
/-! DATA LAYER 9: the run of statements, of a def -/
namespace DL
open PySem PySem.Spec PyProof.Rows L2
/-- a comprehension as a value -/
def isComp : Expr → Bool
  | .ListComp _ _ _ _ => true
  | .SetComp _ _ _ _ => true
  | .DictComp _ _ _ _ _ => true
  | _ => false
theorem noComp_swaps {e : Expr} {t : Option Expr} {l : Nat} {env : Env} (h : isComp e = false) : swapsWith e t l env = pure false := by
  cases e <;> first | rfl | exact absurd (show true = false from h) (by decide)
def isTup : Expr → Bool
  | .Tuple _ _ _ => true
  | _ => false
mutual
def denS : Nat → FC → Stmt → Option RunS
  | 0, _, _ => none
  | n + 1, c, s => match s with
    | .Return none _ => some sRetN
    | .Return (some e) _ => (denE n c e).map sRet
    | .Pass _ => some sPass
    | .Break _ => some sBrk
    | .Continue _ => some sCnt
    | .Assign [.Name x _] e _ => (match c.sc.names.lookup x with
      | some .local => (slot c.N x).bind fun i => (denE n c e).map fun r => sSet i r
      | some .cell => (slot c.N x).bind fun i => (denE n c e).map fun r => sSet i r
      | _ => none)
    | .Assign [.Subscript o i _] e _ => if isComp e || isTup e || !plainIx i then none else (denE n c o).bind fun ro => (denE n c i).bind fun ri => (denE n c e).map fun rv => sSetIx ro ri rv
    | .If t a b _ => (denT n c t).bind fun rt => (denSs n c a).bind fun ra => (denSs n c b).map fun rb => sIf rt ra rb
    | .For (.Name x _) iter body [] _ => if noSet iter then (match c.sc.names.lookup x with
      | some .local => (slot c.N x).bind fun i => (denI n c iter).bind fun src => (denSs n c body).map fun rb => sFor i src rb
      | some .cell => (slot c.N x).bind fun i => (denI n c iter).bind fun src => (denSs n c body).map fun rb => sFor i src rb
      | _ => none) else none
    | _ => none
def denSs : Nat → FC → List Stmt → Option RunS
  | 0, _, _ => none
  | n + 1, c, ss => match ss with
    | [] => some sPass
    | s :: ss => (denS n c s).bind fun a => (denSs n c ss).map fun b => sSeq a b
end
structure XS (c : FC) (X : Cx) : Prop extends XOK c X where
  fnx : ∀ x, X.fn x = true
  own : PassesOwn (model X.prog X.w) X.A X.env X.xe
structure SoundS (n : Nat) : Prop where
  s : ∀ (c : FC) (X : Cx) (s : Stmt) (r : RunS), XS c X → denS n c s = some r → PDS X s r
  ss : ∀ (c : FC) (X : Cx) (s : List Stmt) (r : RunS), XS c X → denSs n c s = some r → PDSs X s r
theorem set_sound {n : Nat} {c : FC} {X : Cx} {x : Str} {i : Nat} {e : Expr} {r : Run} {p pos : Pos} (xo : XS c X) (hl : c.sc.names.lookup x = some .local ∨ c.sc.names.lookup x = some .cell) (hi : slot c.N x = some i) (he : denE n c e = some r) : PDS X (.Assign [.Name x p] e pos) (sSet i r) := by
  have hN : X.N.Nodup := by rw [xo.N]; exact xo.nd
  have hx : X.N[i]? = some x := by rw [xo.N]; exact slot_get hi
  have hL : Loc X.env.scope x := by show X.env.scope.names.lookup x = _ ∨ _; rw [xo.sc]; exact hl
  have hp := (sound n).e c X e r xo.toXOK he
  by_cases hc : isComp e = false
  · exact pds_set hN hx hL hp (noComp_swaps hc) (.inl (xo.fnx x))
  · cases e with
    | ListComp elt gens scope cpos =>
      by_cases hb : (X.env.blockKind == .function && X.env.kindOf x == some .local && p.line == cpos.line && !(scope.names.any fun (n, k) => n == x && (k == .local || k == .cell))) = true
      · have hsw : swapsWith (.ListComp elt gens scope cpos) (some (.Name x p)) pos.line X.env = pure true := by
          show (pure (X.env.blockKind == .function && X.env.kindOf x == some .local && p.line == cpos.line && !(scope.names.any fun (n, k) => n == x && (k == .local || k == .cell))) : Sem Bool) = pure true
          rw [hb]
        have hloc : X.env.scope.names.lookup x = some .local := by
          simp only [Bool.and_eq_true] at hb
          exact eq_of_beq hb.1.1.2
        cases n with
        | zero => unfold denE at he; cases he
        | succ n =>
          unfold denE at he
          split at he <;> rename_i heq <;> first | (cases heq; done) | skip
          all_goals first | (cases he; done) | skip
          · cases heq
            obtain ⟨hk, he⟩ := oite he
            rw [Bool.and_eq_true] at hk
            obtain ⟨src, hsrc, he⟩ := ob he
            obtain ⟨cap, hcap, he⟩ := ob he
            obtain ⟨re, hre, rfl⟩ := om he
            refine PS.imp ((pd_comp xo.calm ((sound n).i c X _ _ _ src xo.toXOK hsrc) (comp_sc xo.toXOK hk.2 hcap) (fun C s H ex => ?_) (fun C s H ex => PD.calm ((sound n).e _ _ _ re (comp_xok xo.toXOK hk.2 hcap C s H ex) hre)) (noSet_fold hk.1)).2 hN hx hloc hsw) fun D σ H h => asg_set h
            intro pins s' σ H' Q I q
            refine pts_nil pins s' σ H' Q I ?_
            obtain ⟨ι, G, st, Γ, en, sr, q⟩ := q
            obtain ⟨b, e, q'⟩ := q (.bl true) ι G H' (Ext.refl _ _ _) sr (.bl true)
            cases e; exact q'
          · cases heq
            obtain ⟨hk, he⟩ := oite he
            rw [Bool.and_eq_true] at hk
            obtain ⟨src, hsrc, he⟩ := ob he
            obtain ⟨cap, hcap, he⟩ := ob he
            obtain ⟨rt, hrt, he⟩ := ob he
            obtain ⟨re, hre, rfl⟩ := om he
            exact PS.imp ((pd_comp xo.calm ((sound n).i c X _ _ _ src xo.toXOK hsrc) (comp_sc xo.toXOK hk.2 hcap) (fun C s H ex => pts_one (PT.calm ((sound n).t _ _ _ rt (comp_xok xo.toXOK hk.2 hcap C s H ex) hrt))) (fun C s H ex => PD.calm ((sound n).e _ _ _ re (comp_xok xo.toXOK hk.2 hcap C s H ex) hre)) (noSet_fold hk.1)).2 hN hx hloc hsw) fun D σ H h => asg_set h
      · have hsw : swapsWith (.ListComp elt gens scope cpos) (some (.Name x p)) pos.line X.env = pure false := by
          show (pure (X.env.blockKind == .function && X.env.kindOf x == some .local && p.line == cpos.line && !(scope.names.any fun (n, k) => n == x && (k == .local || k == .cell))) : Sem Bool) = pure false
          rw [Bool.not_eq_true] at hb
          rw [hb]
        exact pds_set hN hx hL hp hsw (.inl (xo.fnx x))
    | SetComp _ _ _ _ => cases n <;> (unfold denE at he; cases he)
    | DictComp _ _ _ _ _ => cases n <;> (unfold denE at he; cases he)
    | _ => exact absurd rfl hc
theorem for_sound {n : Nat} {c : FC} {X : Cx} {x : Str} {i : Nat} {iter : Expr} {body : List Stmt} {src : Src} {rb : RunS} {p pos : Pos} (ih : SoundS n) (xo : XS c X) (hs : noSet iter = true) (hl : c.sc.names.lookup x = some .local ∨ c.sc.names.lookup x = some .cell) (hi : slot c.N x = some i) (hsrc : denI n c iter = some src) (hb : denSs n c body = some rb) :
    PDS X (.For (.Name x p) iter body [] pos) (sFor i src rb) :=
  pds_for xo.own xo.calm ((sound n).i c X x p iter src xo.toXOK hsrc) (pg_name (by rw [xo.N]; exact xo.nd) (by rw [xo.N]; exact slot_get hi) (by show X.env.scope.names.lookup x = _ ∨ _; rw [xo.sc]; exact hl) (.inl (xo.fnx x))) (ih.ss c X body rb xo hb) (noSet_fold hs)
theorem soundS : ∀ n, SoundS n
  | 0 => ⟨fun _ _ _ _ _ h => by (unfold denS at h; cases h), fun _ _ _ _ _ h => by (unfold denSs at h; cases h)⟩
  | n + 1 => by
    have ih := soundS n
    refine ⟨fun c X s r xo h => ?_, fun c X ss r xo h => ?_⟩
    · unfold denS at h
      split at h
      case h_1 => cases h; exact pds_retN
      case h_2 e pos => obtain ⟨ra, ha, rfl⟩ := om h; exact pds_ret ((sound n).e c X e ra xo.toXOK ha)
      case h_3 => cases h; exact pds_pass
      case h_4 => cases h; exact pds_brk
      case h_5 => cases h; exact pds_cnt
      case h_6 x p e pos =>
        split at h
        · rename_i hl
          obtain ⟨i, hi, h⟩ := ob h
          obtain ⟨ra, ha, rfl⟩ := om h
          exact set_sound xo (.inl hl) hi ha
        · rename_i hl
          obtain ⟨i, hi, h⟩ := ob h
          obtain ⟨ra, ha, rfl⟩ := om h
          exact set_sound xo (.inr hl) hi ha
        · cases h
      case h_7 o i p e pos =>
        split at h
        · cases h
        · rename_i hc
          have hc1 : isComp e = false := by revert hc; cases isComp e <;> simp
          have hc2 : isTup e = false := by revert hc; cases isTup e <;> simp
          have hc3 : plainIx i = true := by revert hc; cases plainIx i <;> simp
          obtain ⟨ro, ho, h⟩ := ob h
          obtain ⟨ri, hi, h⟩ := ob h
          obtain ⟨rv, hv, rfl⟩ := om h
          have po := (sound n).e c X o ro xo.toXOK ho
          have pi := (sound n).e c X i ri xo.toXOK hi
          refine pds_setIx po pi ((sound n).e c X e rv xo.toXOK hv) (fun hs => pg_sub po pi hs (by intro v; cases i <;> first | rfl | exact absurd (show false = true from hc3) Bool.false_ne_true)) (show swapsWith e (some (.Subscript o i p)) pos.line X.env = pure false from noComp_swaps hc1) ?_
          cases e <;> first | rfl | exact absurd (show true = false from hc2) (by decide)
      case h_8 t a b pos =>
        obtain ⟨rt, ht, h⟩ := ob h
        obtain ⟨ra, ha, h⟩ := ob h
        obtain ⟨rb, hb, rfl⟩ := om h
        exact pds_if ((sound n).t c X t rt xo.toXOK ht) (ih.ss c X a ra xo ha) (ih.ss c X b rb xo hb)
      case h_9 x p iter body pos =>
        obtain ⟨hs, h⟩ := oite h
        split at h
        · rename_i hl
          obtain ⟨i, hi, h⟩ := ob h
          obtain ⟨src, hsrc, h⟩ := ob h
          obtain ⟨rb, hb, rfl⟩ := om h
          exact for_sound ih xo hs (.inl hl) hi hsrc hb
        · rename_i hl
          obtain ⟨i, hi, h⟩ := ob h
          obtain ⟨src, hsrc, h⟩ := ob h
          obtain ⟨rb, hb, rfl⟩ := om h
          exact for_sound ih xo hs (.inr hl) hi hsrc hb
        · cases h
      all_goals cases h
    · unfold denSs at h
      match ss, h with
      | [], h => cases h; exact pdss_nil
      | s :: ss, h =>
        obtain ⟨ra, ha, h⟩ := ob h
        obtain ⟨rb, hb, rfl⟩ := om h
        exact pdss_cons (ih.s c X s ra xo ha) (ih.ss c X ss rb xo hb)

/-! ### a def of the text -/
/-- what is asked of a def's scope, by looking -/
def scopeOk (N ps : List Str) (sc : Scope) : Bool :=
  (sc.kind == .function) && !sc.isCoroutine && !sc.isGenerator && decide N.Nodup && decide (N.take ps.length = ps) && ps.all (fun x => sc.names.lookup x == some .local || sc.names.lookup x == some .cell) && sc.names.all (fun y => y.2 != .free)
theorem scopeOk_ok {N ps : List Str} {sc : Scope} (h : scopeOk N ps sc = true) : FnScope N ps sc := by
  unfold scopeOk at h
  simp only [Bool.and_eq_true, List.all_eq_true, decide_eq_true_eq, beq_iff_eq, Bool.not_eq_true', Bool.or_eq_true] at h
  obtain ⟨⟨⟨⟨⟨⟨h1, h2⟩, h3⟩, h4⟩, h5⟩, h6⟩, h7⟩ := h
  exact ⟨h1, h2, h3, h4, h5, fun x hx => h6 x hx, fun y hy e => by have := h7 y hy; rw [e] at this; cases this⟩
/-- the text's own facts, over one base -/
structure TX (P : Program) (w : World) (K : PySem.W.Frag) (mg : Str → Option Value) (base : Heap) (gl : List (Str × GV)) (k : Nat) : Prop where
  con : ∀ x w', gl.lookup x = some (.con w') → ∃ u v, mg x = some u ∧ RelV v u ∧ ∀ ι N G, RelW K ι N G v w'
  fn : ∀ x n op, gl.lookup x = some (.fn n op) → ∃ f fd ps, FnOk P w K mg base CX0 k f fd ps (SpD K n op) ∧ mg x = some (.ref f) ∧ PySem.W.keepIn K (.ref f) = true ∧ Binds K fd ps [] ∧ ps.length = n
  blt : ∀ x, gl.lookup x = some .blt → mg x = none
theorem def_ok {P : Program} {w : World} {K : PySem.W.Frag} {mg : Str → Option Value} {base : Heap} {gl : List (Str × GV)} {k n : Nat} {x qual : Str} {st : Stmt} {f : Addr} {fd : FuncData} {N ps : List Str} {mts : List (Nat × Nat)} {fz : Bool} {run : RunS} (T : TX P w K mg base gl k) (F : Fun K x qual st f fd) (hs : scopeOk N ps (defScope st) = true)
    (hd : denSs n ⟨N, defScope st, gl, mts⟩ (defBody st) = some run) : FnOk P w K mg base CX0 (k + 3) f fd ps (SpD K ps.length (callOp ps.length N.length fz run)) := by
  have Sc := scopeOk_ok hs
  refine fn_body (k := k + 2) F Sc fun cdv A outer s H E hr => (soundS n).ss ⟨N, defScope st, gl, mts⟩ _ _ run ⟨⟨rfl, Sc.nd, rfl, rfl, (by have h := hr.un; show (A.deeper (envOfC qual (defScope st) s.heap.objs.size f cdv)).units + 80 < cLine; omega), fun y hy => ?_, T.con, fun x n op h => ?_, T.blt⟩, fun _ => rfl, PassesOwn.never⟩ hd
  · rcases hy with hy | hy
    · exact PySem.W.cellsFrom_some _ _ _ (.inl hy)
    · exact absurd rfl (Sc.nofree _ (PySem.mem_of_lookup hy))
  · obtain ⟨f, fd, ps, h1, h2, h3, h4, h5⟩ := T.fn x n op h
    exact ⟨k, f, fd, ps, h1, hr, h2, h3, h4, h5⟩
end DL
/-! DATA LAYER 10: the text's own facts, the law's head -/
namespace DL
open PySem PySem.Spec PyProof.Rows L2
/-- a def of the top -/
structure DefAt (K : PySem.W.Frag) (mg : Str → Option Value) (x : Str) (st : Stmt) (ps : List Str) : Prop where
  ex : ∃ f fd, Fun K x x st f fd ∧ mg x = some (.ref f) ∧ Binds K fd ps []
theorem defAt_mk {K : PySem.W.Frag} {h : Heap} {mg : Str → Option Value} {x : Str} {st : Stmt} {ps : List Str} {f : Addr} {oc : Value} {od an : Option Addr} {osl : Array (Option Value)} {kV doc pm cdv ct : Value} (X : K.In h) (G : h.Ns mainGlobals mg)
    (a : PySem.W.nsIn K mainGlobals x = some (some (.ref f))) (l : K.lookup f = some ⟨oc, od, .func (PySem.W.fnOf x x (defArgs st) (defBody st) (defScope st) .none kV doc pm an cdv ct), osl⟩)
    (c : PySem.W.codeIn K cdv x = true) (k : PySem.W.keepIn K (.ref f) = true)
    (hb : ∀ (kV doc pm : Value) (an : Option Addr) (cdv ct : Value) (us : List Value), us.length = ps.length → bindArgs (PySem.W.fnOf x x (defArgs st) (defBody st) (defScope st) .none kV doc pm an cdv ct) ⟨us, []⟩ = pure (ps.zip us)) : DefAt K mg x st ps :=
  have F := fun_mk (st := st) l c k
  ⟨_, _, F, PySem.W.mg_of X G a, F.binds hb⟩
section
variable {P : Program} {w : World} {K : PySem.W.Frag} {mg : Str → Option Value} {base : Heap} {gl : List (Str × GV)} {k : Nat}
theorem TX.mono {k' : Nat} (h : TX P w K mg base gl k) (hk : k ≤ k') : TX P w K mg base gl k' :=
  ⟨h.con, fun x n op e => let ⟨f, fd, ps, h1, h2⟩ := h.fn x n op e; ⟨f, fd, ps, h1.mono hk, h2⟩, h.blt⟩
theorem TX.cons {x : Str} {n : Nat} {op : OpN} (h : TX P w K mg base gl k) (e : ∃ f fd ps, FnOk P w K mg base CX0 k f fd ps (SpD K n op) ∧ mg x = some (.ref f) ∧ PySem.W.keepIn K (.ref f) = true ∧ Binds K fd ps [] ∧ ps.length = n) : TX P w K mg base ((x, .fn n op) :: gl) k := by
  refine ⟨fun y w' q => ?_, fun y m o q => ?_, fun y q => ?_⟩
  · rw [List.lookup_cons] at q
    cases hy : y == x with
    | true => rw [hy] at q; cases q
    | false => rw [hy] at q; exact h.con y w' q
  · rw [List.lookup_cons] at q
    cases hy : y == x with
    | true =>
      rw [hy] at q
      cases q
      have := eq_of_beq hy
      subst this
      exact e
    | false => rw [hy] at q; exact h.fn y m o q
  · rw [List.lookup_cons] at q
    cases hy : y == x with
    | true => rw [hy] at q; cases q
    | false => rw [hy] at q; exact h.blt y q
/-- a def's promise out of the text below it -/
theorem TX.fnOf {x : Str} {st : Stmt} {N ps : List Str} {mts : List (Nat × Nat)} {fz : Bool} {run : RunS} {n : Nat} (T : TX P w K mg base gl k) (D : DefAt K mg x st ps) (hs : scopeOk N ps (defScope st) = true) (hd : denSs n ⟨N, defScope st, gl, mts⟩ (defBody st) = some run) :
    ∃ f fd ps', FnOk P w K mg base CX0 (k + 3) f fd ps' (SpD K ps.length (callOp ps.length N.length fz run)) ∧ mg x = some (.ref f) ∧ PySem.W.keepIn K (.ref f) = true ∧ Binds K fd ps' [] ∧ ps'.length = ps.length := by
  obtain ⟨f, fd, F, hm, hb⟩ := D.ex
  exact ⟨f, fd, ps, def_ok T F hs hd, hm, F.kp, hb, rfl⟩
/-- constants of the top -/
inductive ConK (K : PySem.W.Frag) : Value → W → Prop
  | int (i : Int) (t : Tok) : ConK K (.int i t) (.int i)
  | str (x : Str) (t : Tok) : ConK K (.str x t) (.str x)
  | txts {a : Addr} {od : Option Addr} {its : List Value} {n : Nat} {sl : Array (Option Value)} {xs : List Str} : K.lookup a = some ⟨.type "tuple", od, .seq its.toArray n, sl⟩ → its.length ≤ sizeLine → Vals (xs.map V.str) its → ConK K (.ref a) (.tup (xs.map W.str))
theorem ConK.rel {u : Value} {c : W} (h : ConK K u c) : ∃ v, RelV v u ∧ ∀ ι N G, RelW K ι N G v c := by
  cases h with
  | int i t => exact ⟨.int i, ⟨t, rfl⟩, fun _ _ _ => .int i⟩
  | str x t => exact ⟨.str x, ⟨t, rfl⟩, fun _ _ _ => .str x⟩
  | @txts a od its n sl xs l z v =>
    refine ⟨.ref a, rfl, fun ι N G => .tup (xs := xs.map V.str) (.inr ⟨_, its.toArray, n, l, rfl, rfl, by simpa using z, by simpa using v⟩) ?_⟩
    clear v
    induction xs with
    | nil => exact .nil
    | cons y ys ih => exact .cons (.str y) ih
theorem TX.nil {w0 : Nat} : TX P w K mg base [] w0 := ⟨fun _ _ h => (by cases h), fun _ _ _ h => (by cases h), fun _ h => (by cases h)⟩
theorem TX.con1 {x : Str} {u : Value} {c : W} (h : TX P w K mg base gl k) (hm : mg x = some u) (hc : ConK K u c) : TX P w K mg base ((x, .con c) :: gl) k := by
  refine ⟨fun y w' q => ?_, fun y m o q => ?_, fun y q => ?_⟩
  · rw [List.lookup_cons] at q
    cases hy : y == x with
    | true =>
      rw [hy] at q
      cases q
      have := eq_of_beq hy
      subst this
      obtain ⟨v, h1, h2⟩ := hc.rel
      exact ⟨u, v, hm, h1, h2⟩
    | false => rw [hy] at q; exact h.con y w' q
  · rw [List.lookup_cons] at q
    cases hy : y == x with
    | true => rw [hy] at q; cases q
    | false => rw [hy] at q; exact h.fn y m o q
  · rw [List.lookup_cons] at q
    cases hy : y == x with
    | true => rw [hy] at q; cases q
    | false => rw [hy] at q; exact h.blt y q
theorem TX.blt1 {x : Str} (h : TX P w K mg base gl k) (hm : mg x = none) : TX P w K mg base ((x, .blt) :: gl) k := by
  refine ⟨fun y w' q => ?_, fun y m o q => ?_, fun y q => ?_⟩
  · rw [List.lookup_cons] at q
    cases hy : y == x with
    | true => rw [hy] at q; cases q
    | false => rw [hy] at q; exact h.con y w' q
  · rw [List.lookup_cons] at q
    cases hy : y == x with
    | true => rw [hy] at q; cases q
    | false => rw [hy] at q; exact h.fn y m o q
  · rw [List.lookup_cons] at q
    cases hy : y == x with
    | true =>
      have := eq_of_beq hy
      subst this
      exact hm
    | false => rw [hy] at q; exact h.blt y q
end
def st0 : S := ⟨0, fun _ => none⟩
theorem sp_start {K : PySem.W.Frag} {H : Hp} {a : Addr} {ns : List Int} {op : OpN} (hS : SqL K H a (ns.map V.int)) (h : ∃ st', op [.lst (ns.map W.int)] st0 = .ok (.bl true) st') : SpD K 1 op [.ref a] H (fun v _ => v = .bl true) fun _ _ _ => False := by
  obtain ⟨st', e⟩ := h
  refine ⟨rfl, fun _ => 0, H, st0, [.lst (ns.map W.int)], ⟨Same.refl H, fun n o q => (by cases q), fun n m o o' q => (by cases q)⟩, .cons (.lst hS (RelWs.ofInts ns)) .nil, ?_⟩
  rw [e]
  intro v ι' G' H' _ _ r
  cases r; rfl
theorem walkD {l : PySem.W.OpenLaw} {q : Program} {loose : List Str} {XP : (Str → Option Value) → Heap → Prop} {YP : World → Heap → Prop} {d : DefRec} {K : Params → PySem.W.Frag} {op : OpN} {k : Nat} {x : Str} (hn : l.most = some 63) (hdf : d.params.defaults = []) (hr : Room k callerA)
    (hY : ∀ (w : World) (h : Heap), YP w h → (K w.params).In h) (hop : ∀ ns : List Int, ns.length ≤ 63 → ∃ st', op [.lst (ns.map W.int)] st0 = .ok (.bl true) st')
    (F : ∀ (w : World) (mg : Str → Option Value) (fa : Addr) (h : Heap), (K w.params).In h → h.Ns mainGlobals mg → mg d.name = some (.ref fa) →
      ∃ fd : FuncData, (∀ (s : Shared) (u : Value), BindsTo s fd ⟨[u], []⟩ [(x, u)]) ∧ ∀ base : Heap, (K w.params).In base → base.Ns mainGlobals mg → FnOk l.prog w (K w.params) mg base CX0 k fa fd [x] (SpD (K w.params) 1 op)) :
    PySem.W.WalkO q loose XP YP l.row.toRowW d [] (fun f vs => PySem.call f vs) :=
  L2.walk_of (n := 63) (k := k) (x := x) (CX := fun _ => CX0) (sp := fun w => SpD (K w.params) 1 op) hn (by decide) hdf hr hY F (fun _ _ a ns hl _ hS => sp_start hS (hop ns hl)) fun _ _ _ _ _ z => z
end DL
/-! DATA LAYER 11: reckoning with runs -/
namespace DL
open PySem PySem.Spec PyProof.Rows L2
section
variable {α β : Type} {st : S} {Γ : Ga}
theorem ev_ok (a : α) (s : S) (f : α → S → R β) : (R.ok a s).bind f = f a s := rfl
theorem ev_ite (c : Prop) [Decidable c] (x y : R α) (f : α → S → R β) : (if c then x else y).bind f = if c then x.bind f else y.bind f := by by_cases h : c <;> simp only [h, if_true, if_false]
theorem ev_calm (a : α) (s : S) : (R.ok a s).calm = R.ok a s := rfl
theorem ev_calmIte (c : Prop) [Decidable c] (x y : R α) : (if c then x else y).calm = if c then x.calm else y.calm := by by_cases h : c <;> simp only [h, if_true, if_false]
def kIf (A B : S → R α) (w : W) (s : S) : R α := match w with
  | .bl true => A s
  | .bl false => B s
  | _ => .stuck
theorem kIf_bl (A B : S → R α) (b : Bool) (s : S) : kIf A B (.bl b) s = if b = true then A s else B s := by cases b <;> rfl
def kSeq (b : RunS) (fl : Fl) (s : S) : R Fl := match fl with
  | .nx Γ' => b Γ' s
  | fl => .ok fl s
theorem kSeq_nx (b : RunS) (Γ : Ga) (s : S) : kSeq b (.nx Γ) s = b Γ s := rfl
theorem kSeq_rt (b : RunS) (w : W) (s : S) : kSeq b (.rt w) s = .ok (.rt w) s := rfl
theorem ev_seq (a b : RunS) : sSeq a b Γ st = (a Γ st).bind (kSeq b) := rfl
theorem ev_if (rc : Run) (a b : RunS) : sIf rc a b Γ st = (rc Γ st).bind (kIf (a Γ) (b Γ)) := rfl
theorem ev_ret (r : Run) : sRet r Γ st = (r Γ st).bind fun w s => .ok (.rt w) s := rfl
theorem ev_set (i : Nat) (r : Run) : sSet i r Γ st = (r Γ st).bind fun w s => .ok (.nx (Γ.set i (some w))) s := rfl
theorem ev_pass : sPass Γ st = .ok (.nx Γ) st := rfl
theorem ev_retN : sRetN Γ st = .ok (.rt .non) st := rfl
theorem ev_drop (r : Run) : sDrop r Γ st = (r Γ st).bind fun _ s => .ok (.nx Γ) s := rfl
theorem ev_var (i : Nat) (w : W) (h : Γ[i]? = some (some w)) : rVar i Γ st = .ok w st := by unfold rVar; rw [h]
theorem ev_v0 (w : W) : rVar 0 (some w :: Γ) st = .ok w st := rfl
theorem ev_v1 (a : Option W) (w : W) : rVar 1 (a :: some w :: Γ) st = .ok w st := rfl
theorem ev_v2 (a b : Option W) (w : W) : rVar 2 (a :: b :: some w :: Γ) st = .ok w st := rfl
theorem ev_v3 (a b c : Option W) (w : W) : rVar 3 (a :: b :: c :: some w :: Γ) st = .ok w st := rfl
theorem ev_v4 (a b c d : Option W) (w : W) : rVar 4 (a :: b :: c :: d :: some w :: Γ) st = .ok w st := rfl
theorem ev_v5 (a b c d e : Option W) (w : W) : rVar 5 (a :: b :: c :: d :: e :: some w :: Γ) st = .ok w st := rfl
theorem ev_v6 (a b c d e f : Option W) (w : W) : rVar 6 (a :: b :: c :: d :: e :: f :: some w :: Γ) st = .ok w st := rfl
theorem ev_v7 (a b c d e f g : Option W) (w : W) : rVar 7 (a :: b :: c :: d :: e :: f :: g :: some w :: Γ) st = .ok w st := rfl
theorem ev_con (w : W) : rCon w Γ st = .ok w st := rfl
theorem ev_run1 (r : Run) (o : W → S → R W) : run1 r o Γ st = (r Γ st).bind o := rfl
theorem ev_run2 (a b : Run) (o : Op2) : run2 a b o Γ st = (a Γ st).bind fun x s => (b Γ s).bind fun y s => o x y s := rfl
theorem ev_runN (rr : Runs) (o : OpN) : DL.runN rr o Γ st = (rr Γ st).bind o := rfl
theorem ev_calmOp (o : OpN) (ws : List W) : calmOp o ws st = (o ws st).calm := rfl
theorem ev_nil : runsNil Γ st = .ok [] st := rfl
theorem ev_cons (r : Run) (rr : Runs) : runsCons r rr Γ st = (r Γ st).bind fun w s => (rr Γ s).bind fun ws s => .ok (w :: ws) s := rfl
theorem ev_and (a b : Run) : runAnd a b Γ st = (a Γ st).bind (kIf (b Γ) (fun s => .ok (.bl false) s)) := rfl
theorem ev_or (a b : Run) : runOr a b Γ st = (a Γ st).bind (kIf (fun s => .ok (.bl true) s) (b Γ)) := rfl
def kNot (w : W) (s : S) : R W := match w with
  | .bl b => .ok (.bl (!b)) s
  | _ => .stuck
theorem kNot_bl (b : Bool) (s : S) : kNot (.bl b) s = .ok (.bl (!b)) s := rfl
theorem ev_not (a : Run) : runNot a Γ st = (a Γ st).bind kNot := rfl
theorem ev_runIf (c a b : Run) : runIf c a b Γ st = (c Γ st).bind (kIf (a Γ) (b Γ)) := rfl
theorem ev_chain (a b c : Run) (o o' : Op2) : runC a b c o o' Γ st = (a Γ st).bind fun x s => (b Γ s).bind fun y s => (o x y s).bind (kIf (fun s => (c Γ s).bind fun z s => o' y z s) (fun s => .ok (.bl false) s)) := rfl
theorem ev_rt (fz : Bool) (s0 s : S) (w : W) : leave fz s0 (.ok (.rt w) s) = .ok w (fin fz s0 s) := rfl
theorem ev_nx (fz : Bool) (s0 s : S) (Γ : Ga) : leave fz s0 (.ok (.nx Γ) s) = .ok .non (fin fz s0 s) := rfl
theorem ev_leaveIte (fz : Bool) (s0 : S) (c : Prop) [Decidable c] (x y : R Fl) : leave fz s0 (if c then x else y) = if c then leave fz s0 x else leave fz s0 y := by by_cases h : c <;> simp only [h, if_true, if_false]
theorem ev_fin (s0 s : S) : fin false s0 s = s := rfl
theorem ev_op1 (nl : Nat) (fz : Bool) (run : RunS) (w : W) : callOp 1 nl fz run [w] st = leave fz st (run (some w :: List.replicate (nl - 1) none) st) := rfl
theorem ev_op2 (nl : Nat) (fz : Bool) (run : RunS) (w w' : W) : callOp 2 nl fz run [w, w'] st = leave fz st (run (some w :: some w' :: List.replicate (nl - 2) none) st) := rfl
theorem ev_op3 (nl : Nat) (fz : Bool) (run : RunS) (w w' w2 : W) : callOp 3 nl fz run [w, w', w2] st = leave fz st (run (some w :: some w' :: some w2 :: List.replicate (nl - 3) none) st) := rfl
theorem ev_rep1 : List.replicate 1 (none : Option W) = [none] := rfl
theorem ev_rep2 : List.replicate 2 (none : Option W) = [none, none] := rfl
theorem ev_rep3 : List.replicate 3 (none : Option W) = [none, none, none] := rfl
theorem ev_rep4 : List.replicate 4 (none : Option W) = [none, none, none, none] := rfl
theorem ev_rep5 : List.replicate 5 (none : Option W) = [none, none, none, none, none] := rfl
theorem ev_rep6 : List.replicate 6 (none : Option W) = [none, none, none, none, none, none] := rfl
theorem ev_rep0 : List.replicate 0 (none : Option W) = [] := rfl
/-! ints -/
theorem ev_addI (i j : Int) : opAdd (.int i) (.int j) st = .ok (.int (i + j)) st := rfl
theorem ev_subI (i j : Int) : opSub (.int i) (.int j) st = .ok (.int (i - j)) st := rfl
theorem ev_mulI (i j : Int) (h : CMul i j) : opMul (.int i) (.int j) st = .ok (.int (i * j)) st := if_pos h
theorem ev_divI (i j : Int) (h : 0 < j) (h' : j < 1073741824) : opDiv (.int i) (.int j) st = .ok (.int (i / j)) st := if_pos ⟨h, h'⟩
theorem ev_modI (i j : Int) (h : 0 < j) : opMod (.int i) (.int j) st = .ok (.int (i % j)) st := if_pos h
theorem ev_negI (i : Int) : opNeg (.int i) st = .ok (.int (-i)) st := rfl
theorem ev_ltI (i j : Int) : opLt (.int i) (.int j) st = .ok (.bl (decide (i < j))) st := rfl
theorem ev_ltS (x y : Str) : opLt (.str x) (.str y) st = .ok (.bl (decide (x.cps.toList < y.cps.toList))) st := rfl
theorem ev_leI (i j : Int) : opLe (.int i) (.int j) st = .ok (.bl (decide (i ≤ j))) st := rfl
theorem ev_gtI (i j : Int) : opGt (.int i) (.int j) st = .ok (.bl (decide (j < i))) st := rfl
theorem ev_geI (i j : Int) : opGe (.int i) (.int j) st = .ok (.bl (decide (j ≤ i))) st := rfl
theorem ev_eqI (i j : Int) : opEq (.int i) (.int j) st = .ok (.bl (i == j)) st := rfl
theorem ev_neI (i j : Int) : opNe (.int i) (.int j) st = .ok (.bl (!(i == j))) st := rfl
theorem ev_eqB (i j : Bool) : opEq (.bl i) (.bl j) st = .ok (.bl (i == j)) st := rfl
theorem ev_neB (i j : Bool) : opNe (.bl i) (.bl j) st = .ok (.bl (!(i == j))) st := rfl
theorem ev_eqS (i j : Str) : opEq (.str i) (.str j) st = .ok (.bl (i == j)) st := rfl
theorem ev_neS (i j : Str) : opNe (.str i) (.str j) st = .ok (.bl (!(i == j))) st := rfl
theorem ev_addS (x y : Str) (h : x.length + y.length ≤ sizeLine) : opAdd (.str x) (.str y) st = .ok (.str (x ++ y)) st := if_pos h
theorem ev_lenL (xs : List W) : opLen [.lst xs] st = .ok (.int xs.length) st := rfl
theorem ev_lenT (xs : List W) : opLen [.tup xs] st = .ok (.int xs.length) st := rfl
theorem ev_lenS (x : Str) (h : x.length ≤ sizeLine) : opLen [.str x] st = .ok (.int x.length) st := if_pos h
theorem ev_inS (x y : Str) : opIn (.str x) (.str y) st = .ok (.bl (inStr x y)) st := rfl
theorem ev_lst (ws : List W) (h : ws.length ≤ sizeLine) : opL false ws st = .ok (.lst ws) st := if_pos h
theorem ev_tup (ws : List W) (h : ws.length ≤ sizeLine) : opTup ws st = .ok (.tup ws) st := if_pos h
theorem ev_idxL (ws : List W) (i : Int) (w : W) (h : atI ws i = some w) : opIdx (.lst ws) (.int i) st = .ok w st := by
  show (match atI ws i with | some w => R.ok w st | none => .stuck) = _
  rw [h]
theorem ev_idxT (ws : List W) (i : Int) (w : W) (h : atI ws i = some w) : opIdx (.tup ws) (.int i) st = .ok w st := by
  show (match atI ws i with | some w => R.ok w st | none => .stuck) = _
  rw [h]
theorem ev_idxS (z : Str) (i : Int) (c : Nat) (hz : z.length ≤ sizeLine) (h : atI z.cps.toList i = some c) : opIdx (.str z) (.int i) st = .ok (.str ⟨#[c]⟩) st := by
  show (if z.length ≤ sizeLine then (match atI z.cps.toList i with | some c => R.ok (W.str ⟨#[c]⟩) st | none => .stuck) else .stuck) = _
  rw [if_pos hz, h]
theorem size_small {n : Nat} (h : n ≤ 1000) : n ≤ sizeLine := Nat.le_of_lt (small1000 h)
theorem at_in {γ : Type} (xs : List γ) (i : Int) (h0 : 0 ≤ i) (h1 : i < xs.length) : ∃ x, atI xs i = some x ∧ x ∈ xs := by
  have hj : i.toNat < xs.length := by omega
  refine ⟨xs[i.toNat], ?_, List.getElem_mem hj⟩
  have e : ((i.toNat : Nat) : Int) = i := by omega
  have h := atI_nat (xs := xs) (j := i.toNat) (List.getElem?_eq_getElem hj)
  rw [e] at h
  exact h
theorem at_nat {γ : Type} (xs : List γ) (k : Nat) (x : γ) (h : xs[k]? = some x) : atI xs (k : Int) = some x := atI_nat h
/-! kinds -/
theorem ev_isi (w : W) (T : String) : opIsi [w, .ty T] st = if kinds.contains T then (match kindW st w with | some k => .ok (.bl (isKind k T)) st | none => .stuck) else .stuck := rfl
end
end DL
namespace DL.My
open PySem L2
def top (i : Nat) : Stmt := PySem.Challenge.pw_whyfacts_k01_words_and_order.main.body.getD i (.Pass ⟨0, 0, 0, 0⟩)
def c_MOST_RULES : W := .int 20
def c_MOST_FACTS : W := .int 200
def c_MOST_FILLS : W := .int 2000
def c_MOST_WIDTH : W := .int 4
def c_MOST_PARTS : W := .int 6
def c_MOST_SIGNS : W := .int 8
def c_MOST_NUMBER : W := .int 999999999
def c_SMALL_LETTERS : W := .str "abcdefghijklmnopqrstuvwxyz"
def c_GREAT_LETTERS : W := .str "ABCDEFGHIJKLMNOPQRSTUVWXYZ"
def c_KEPT_WORDS : W := .tup ((["has", "not", "less", "same", "plus", "if", "by", "is", "count", "sum", "least", "most", "why"] : List Str).map W.str)
def gl0 : List (Str × GV) := [("MOST_RULES", .con c_MOST_RULES), ("MOST_FACTS", .con c_MOST_FACTS), ("MOST_FILLS", .con c_MOST_FILLS), ("MOST_WIDTH", .con c_MOST_WIDTH), ("MOST_PARTS", .con c_MOST_PARTS), ("MOST_SIGNS", .con c_MOST_SIGNS), ("MOST_NUMBER", .con c_MOST_NUMBER), ("SMALL_LETTERS", .con c_SMALL_LETTERS), ("GREAT_LETTERS", .con c_GREAT_LETTERS), ("KEPT_WORDS", .con c_KEPT_WORDS), ("abs", .blt), ("all", .blt), ("bool", .blt), ("int", .blt), ("isinstance", .blt), ("len", .blt), ("list", .blt), ("range", .blt), ("sorted", .blt), ("str", .blt), ("tuple", .blt)]
abbrev s_is_short_text : Stmt := top 11
def N_is_short_text : List Str := ["thing"]
def P_is_short_text : List Str := ["thing"]
def M_is_short_text : List (Nat × Nat) := []
def r_is_short_text : RunS :=
  (sSeq (sRet (runAnd (runN (runsCons (rVar 0) (runsCons (rCon (.ty "str")) runsNil)) opIsi) (runC (rCon (W.int 1)) (runN (runsCons (rVar 0) runsNil) opLen) (rCon c_MOST_SIGNS) opLe opLe)))
  sPass)
def op_is_short_text : OpN := callOp 1 1 false r_is_short_text
abbrev s_all_small : Stmt := top 12
def N_all_small : List Str := ["text"]
def P_all_small : List Str := ["text"]
def M_all_small : List (Nat × Nat) := []
def r_all_small : RunS :=
  (sSeq (sRet (runN (runsCons (runComp false (runSrc (rVar 0)) [] (rCon (.bl true)) (run2 (rVar 0) (rCon c_SMALL_LETTERS) opIn)) runsNil) opAll))
  sPass)
def op_all_small : OpN := callOp 1 1 false r_all_small
abbrev s_is_number : Stmt := top 15
def N_is_number : List Str := ["thing"]
def P_is_number : List Str := ["thing"]
def M_is_number : List (Nat × Nat) := []
def r_is_number : RunS :=
  (sSeq (sIf (runN (runsCons (rVar 0) (runsCons (rCon (.ty "bool")) runsNil)) opIsi)
    (sSeq (sRet (rCon (W.bl false)))
  sPass)
    sPass)
  (sSeq (sRet (runAnd (runN (runsCons (rVar 0) (runsCons (rCon (.ty "int")) runsNil)) opIsi) (runC (run1 (rCon c_MOST_NUMBER) opNeg) (rVar 0) (rCon c_MOST_NUMBER) opLe opLe)))
  sPass))
def op_is_number : OpN := callOp 1 1 false r_is_number
abbrev s_rank_of_value : Stmt := top 18
def N_rank_of_value : List Str := ["value"]
def P_rank_of_value : List Str := ["value"]
def M_rank_of_value : List (Nat × Nat) := []
def r_rank_of_value : RunS :=
  (sSeq (sIf (runN (runsCons (rVar 0) (runsCons (rCon (.ty "str")) runsNil)) opIsi)
    (sSeq (sRet (runN (runsCons (rCon (W.int 1)) (runsCons (rVar 0) runsNil)) opTup))
  sPass)
    sPass)
  (sSeq (sRet (runN (runsCons (rCon (W.int 0)) (runsCons (rVar 0) runsNil)) opTup))
  sPass))
def op_rank_of_value : OpN := callOp 1 1 false r_rank_of_value
abbrev s_l_cell_at : Stmt := top 21
def N_l_cell_at : List Str := ["_law_script", "_law_k"]
def P_l_cell_at : List Str := ["_law_script", "_law_k"]
def M_l_cell_at : List (Nat × Nat) := []
def r_l_cell_at : RunS :=
  (sSeq (sIf (run2 (rVar 1) (runN (runsCons (rVar 0) runsNil) opLen) opLt)
    (sSeq (sRet (run2 (rVar 0) (rVar 1) opIdx))
  sPass)
    sPass)
  (sSeq (sRet (rCon (W.int 0)))
  sPass))
def op_l_cell_at : OpN := callOp 2 2 false r_l_cell_at
abbrev s_l_word_by : Stmt := top 22
def N_l_word_by : List Str := ["_law_cell", "_law_letters", "_law_word", "_law_k"]
def P_l_word_by : List Str := ["_law_cell"]
def M_l_word_by : List (Nat × Nat) := []
def r_l_word_by : RunS :=
  (sSeq (sSet 1 (rCon (W.str "abcdefghijklmnopqrstuvwxyz")))
  (sSeq (sSet 2 (rCon (W.str "")))
  (sSeq (sFor 3 (runRng1 (run2 (rVar 0) (rCon (W.int 11)) opMod)) (sSeq (sSet 2 (run2 (rVar 2) (run2 (rVar 1) (run2 (run2 (run2 (run2 (rVar 0) (rCon (W.int 11)) opDiv) (run2 (run2 (rCon (W.int 7)) (rVar 3) opMul) (rVar 3) opMul) opAdd) (rVar 3) opAdd) (rCon (W.int 26)) opMod) opIdx) opAdd))
  sPass))
  (sSeq (sRet (rVar 2))
  sPass))))
def op_l_word_by : OpN := callOp 1 4 false r_l_word_by
abbrev s_l_sign_by : Stmt := top 23
def N_l_sign_by : List Str := ["_law_cell", "_law_some"]
def P_l_sign_by : List Str := ["_law_cell"]
def M_l_sign_by : List (Nat × Nat) := []
def r_l_sign_by : RunS :=
  (sSeq (sSet 1 (rCon (W.str " !\"#$&'()*+,-./0123456789:;<=>?@ABCDEFGHIJKLMNOPQRSTUVWXYZ[\\]^_`")))
  (sSeq (sSet 1 (run2 (rVar 1) (rCon (W.str "abcdefghijklmnopqrstuvwxyz{|}~\n\t")) opAdd))
  (sSeq (sRet (run2 (rVar 1) (run2 (rVar 0) (rCon (W.int 96)) opMod) opIdx))
  sPass)))
def op_l_sign_by : OpN := callOp 1 2 false r_l_sign_by
abbrev s_l_small : Stmt := top 25
def N_l_small : List Str := ["_law_text"]
def P_l_small : List Str := ["_law_text"]
def M_l_small : List (Nat × Nat) := []
def r_l_small : RunS :=
  (sSeq (sRet (runN (runsCons (runComp false (runSrc (rVar 0)) [] (rCon (.bl true)) (run2 (rVar 0) (rCon (W.str "abcdefghijklmnopqrstuvwxyz")) opIn)) runsNil) opAll))
  sPass)
def op_l_small : OpN := callOp 1 1 false r_l_small
abbrev s_l_letter_in : Stmt := top 27
def N_l_letter_in : List Str := ["_law_cell", "_law_by", "_law_at", "_law_letter"]
def P_l_letter_in : List Str := ["_law_cell", "_law_by"]
def M_l_letter_in : List (Nat × Nat) := []
def r_l_letter_in : RunS :=
  (sSeq (sSet 2 (run2 (rVar 0) (rCon (W.int 8)) opMod))
  (sSeq (sSet 3 (run2 (rCon (W.str "abcdefghijklmnopqrstuvwxyz")) (run2 (run2 (run2 (rVar 0) (rCon (W.int 8)) opDiv) (rVar 1) opDiv) (rCon (W.int 26)) opMod) opIdx))
  (sSeq (sRet (run2 (run2 (runSlNS false (rCon (W.str "qrstuvwx")) (rVar 2)) (rVar 3) opAdd) (runSlSN false (rCon (W.str "qrstuvwx")) (run2 (rVar 2) (rCon (W.int 1)) opAdd)) opAdd))
  sPass)))
def op_l_letter_in : OpN := callOp 2 4 false r_l_letter_in
abbrev s_l_before : Stmt := top 30
def N_l_before : List Str := ["_law_one", "_law_two", "_law_k"]
def P_l_before : List Str := ["_law_one", "_law_two"]
def M_l_before : List (Nat × Nat) := []
def r_l_before : RunS :=
  (sSeq (sIf (run2 (run2 (rVar 0) (rCon (W.int 0)) opIdx) (run2 (rVar 1) (rCon (W.int 0)) opIdx) opNe)
    (sSeq (sRet (run2 (run2 (rVar 0) (rCon (W.int 0)) opIdx) (run2 (rVar 1) (rCon (W.int 0)) opIdx) opLt))
  sPass)
    sPass)
  (sSeq (sIf (run2 (runN (runsCons (rVar 0) runsNil) opLen) (runN (runsCons (rVar 1) runsNil) opLen) opNe)
    (sSeq (sRet (run2 (runN (runsCons (rVar 0) runsNil) opLen) (runN (runsCons (rVar 1) runsNil) opLen) opLt))
  sPass)
    sPass)
  (sSeq (sFor 2 (runRng2 (rCon (W.int 1)) (runN (runsCons (rVar 0) runsNil) opLen)) (sSeq (sIf (run2 (run2 (rVar 0) (rVar 2) opIdx) (run2 (rVar 1) (rVar 2) opIdx) opNe)
    (sSeq (sIf (run2 (runN (runsCons (run2 (rVar 0) (rVar 2) opIdx) (runsCons (rCon (.ty "int")) runsNil)) opIsi) (runN (runsCons (run2 (rVar 1) (rVar 2) opIdx) (runsCons (rCon (.ty "int")) runsNil)) opIsi) opNe)
    (sSeq (sRet (runN (runsCons (run2 (rVar 0) (rVar 2) opIdx) (runsCons (rCon (.ty "int")) runsNil)) opIsi))
  sPass)
    sPass)
  (sSeq (sRet (run2 (run2 (rVar 0) (rVar 2) opIdx) (run2 (rVar 1) (rVar 2) opIdx) opLt))
  sPass))
    sPass)
  sPass))
  (sSeq (sRet (rCon (W.bl true)))
  sPass))))
def op_l_before : OpN := callOp 2 3 false r_l_before
def gl1 : List (Str × GV) := ("_law_before", .fn 2 op_l_before) :: ("_law_letter_in", .fn 2 op_l_letter_in) :: ("_law_small", .fn 1 op_l_small) :: ("_law_sign_by", .fn 1 op_l_sign_by) :: ("_law_word_by", .fn 1 op_l_word_by) :: ("_law_cell_at", .fn 2 op_l_cell_at) :: ("rank_of_value", .fn 1 op_rank_of_value) :: ("is_number", .fn 1 op_is_number) :: ("all_small", .fn 1 op_all_small) :: ("is_short_text", .fn 1 op_is_short_text) :: gl0
abbrev s_is_name : Stmt := top 13
def N_is_name : List Str := ["thing"]
def P_is_name : List Str := ["thing"]
def M_is_name : List (Nat × Nat) := []
def r_is_name : RunS :=
  (sSeq (sRet (runAnd (runN (runsCons (rVar 0) runsNil) (calmOp op_is_short_text)) (runAnd (runN (runsCons (rVar 0) runsNil) (calmOp op_all_small)) (run2 (rVar 0) (rCon c_KEPT_WORDS) opNotIn))))
  sPass)
def op_is_name : OpN := callOp 1 1 false r_is_name
abbrev s_is_free : Stmt := top 14
def N_is_free : List Str := ["thing"]
def P_is_free : List Str := ["thing"]
def M_is_free : List (Nat × Nat) := []
def r_is_free : RunS :=
  (sSeq (sRet (runAnd (runN (runsCons (rVar 0) runsNil) (calmOp op_is_short_text)) (runAnd (run2 (run2 (rVar 0) (rCon (W.int 0)) opIdx) (rCon c_GREAT_LETTERS) opIn) (runN (runsCons (runSlSN false (rVar 0) (rCon (W.int 1))) runsNil) (calmOp op_all_small)))))
  sPass)
def op_is_free : OpN := callOp 1 1 false r_is_free
abbrev s_rank_of : Stmt := top 19
def N_rank_of : List Str := ["fact"]
def P_rank_of : List Str := ["fact"]
def M_rank_of : List (Nat × Nat) := []
def r_rank_of : RunS :=
  (sSeq (sRet (runN (runsCons (run2 (rVar 0) (rCon (W.int 0)) opIdx) (runsCons (runN (runsCons (rVar 0) runsNil) opLen) (runsCons (runN (runsCons (runComp false (runSrc (runSlSN false (rVar 0) (rCon (W.int 1)))) [] (rCon (.bl true)) (runN (runsCons (rVar 0) runsNil) (calmOp op_rank_of_value))) runsNil) opTuple) runsNil))) opTup))
  sPass)
def op_rank_of : OpN := callOp 1 1 false r_rank_of
abbrev s_l_thing_by : Stmt := top 24
def N_l_thing_by : List Str := ["_law_script", "_law_cell", "_law_word", "_law_at", "_law_great", "_law_some", "_law_number"]
def P_l_thing_by : List Str := ["_law_script"]
def M_l_thing_by : List (Nat × Nat) := []
def r_l_thing_by : RunS :=
  (sSeq (sSet 1 (runN (runsCons (rVar 0) (runsCons (rCon (W.int 0)) runsNil)) (calmOp op_l_cell_at)))
  (sSeq (sSet 2 (runN (runsCons (runN (runsCons (rVar 0) (runsCons (rCon (W.int 1)) runsNil)) (calmOp op_l_cell_at)) runsNil) (calmOp op_l_word_by)))
  (sSeq (sSet 3 (run2 (runN (runsCons (rVar 0) (runsCons (rCon (W.int 2)) runsNil)) (calmOp op_l_cell_at)) (run2 (runN (runsCons (rVar 2) runsNil) opLen) (rCon (W.int 1)) opAdd) opMod))
  (sSeq (sIf (run2 (run2 (rVar 1) (rCon (W.int 7)) opMod) (rCon (W.int 1)) opEq)
    (sSeq (sSet 4 (run2 (rCon (W.str "ABCDEFGHIJKLMNOPQRSTUVWXYZ")) (run2 (runN (runsCons (rVar 0) (runsCons (rCon (W.int 2)) runsNil)) (calmOp op_l_cell_at)) (rCon (W.int 26)) opMod) opIdx))
  (sSeq (sIf (run2 (run2 (run2 (rVar 1) (rCon (W.int 7)) opDiv) (rCon (W.int 3)) opMod) (rCon (W.int 1)) opEq)
    (sSeq (sRet (run2 (run2 (run2 (rVar 4) (runSlNS false (rVar 2) (rVar 3)) opAdd) (runN (runsCons (runN (runsCons (rVar 0) (runsCons (rCon (W.int 3)) runsNil)) (calmOp op_l_cell_at)) runsNil) (calmOp op_l_sign_by)) opAdd) (runSlSS false (rVar 2) (rVar 3) (run2 (rVar 3) (rCon (W.int 6)) opAdd)) opAdd))
  sPass)
    sPass)
  (sSeq (sRet (run2 (rVar 4) (rVar 2) opAdd))
  sPass)))
    sPass)
  (sSeq (sIf (run2 (run2 (rVar 1) (rCon (W.int 7)) opMod) (rCon (W.int 2)) opEq)
    (sSeq (sRet (run2 (run2 (runSlNS false (rVar 2) (rVar 3)) (runN (runsCons (runN (runsCons (rVar 0) (runsCons (rCon (W.int 3)) runsNil)) (calmOp op_l_cell_at)) runsNil) (calmOp op_l_sign_by)) opAdd) (runSlSN false (rVar 2) (run2 (rVar 3) (runN (runsCons (run2 (run2 (run2 (rVar 1) (rCon (W.int 7)) opDiv) (rCon (W.int 2)) opMod) (rCon (W.int 1)) opEq) runsNil) opInt) opAdd)) opAdd))
  sPass)
    sPass)
  (sSeq (sIf (run2 (run2 (rVar 1) (rCon (W.int 7)) opMod) (rCon (W.int 3)) opEq)
    (sSeq (sSet 5 (runN (runsCons (rCon (W.str "has")) (runsCons (rCon (W.str "not")) (runsCons (rCon (W.str "less")) (runsCons (rCon (W.str "same")) (runsCons (rCon (W.str "plus")) (runsCons (rCon (W.str "if")) (runsCons (rCon (W.str "by")) (runsCons (rCon (W.str "is")) (runsCons (rCon (W.str "count")) (runsCons (rCon (W.str "sum")) (runsCons (rCon (W.str "least")) (runsCons (rCon (W.str "most")) (runsCons (rCon (W.str "why")) runsNil))))))))))))) (opL false)))
  (sSeq (sSet 5 (run2 (rVar 5) (runN (runsCons (rCon (W.str "rule")) (runsCons (rCon (W.str "gather")) (runsCons (rCon (W.str "told")) (runsCons (rCon (W.str "of")) (runsCons (rCon (W.str "from")) (runsCons (rCon (W.str "yes")) (runsCons (rCon (W.str "no")) (runsCons (rCon (W.str "nothing")) (runsCons (rCon (W.str "and")) (runsCons (rCon (W.str "or")) (runsCons (rCon (W.str "fact")) (runsCons (rCon (W.str "counts")) runsNil)))))))))))) (opL false)) opAdd))
  (sSeq (sSet 5 (run2 (rVar 5) (runN (runsCons (rCon (W.str "leas")) (runsCons (rCon (W.str "mos")) (runsCons (rCon (W.str "whys")) (runsCons (rCon (W.str "nota")) (runsCons (rCon (W.str "wet")) (runsCons (rCon (W.str "isa")) (runsCons (rCon (W.str "bya")) (runsCons (rCon (W.str "ifs")) (runsCons (rCon (W.str "plu")) (runsCons (rCon (W.str "sums")) (runsCons (rCon (W.str "hast")) (runsCons (rCon (W.str "sames")) runsNil)))))))))))) (opL false)) opAdd))
  (sSeq (sRet (run2 (rVar 5) (run2 (run2 (rVar 1) (rCon (W.int 7)) opDiv) (rCon (W.int 37)) opMod) opIdx))
  sPass))))
    sPass)
  (sSeq (sIf (run2 (run2 (rVar 1) (rCon (W.int 7)) opMod) (rCon (W.int 4)) opEq)
    (sSeq (sSet 6 (run2 (runN (runsCons (rVar 0) (runsCons (rCon (W.int 3)) runsNil)) (calmOp op_l_cell_at)) (run2 (rCon (W.int 10)) (rCon (W.int 60)) opPow) opMod))
  (sSeq (sRet (run2 (runN (runsCons (run2 (run2 (rVar 6) (rCon (W.int 1999999999)) opMod) (rCon (W.int 999999999)) opSub) (runsCons (rCon (W.int 999999999)) (runsCons (run1 (rCon (W.int 999999999)) opNeg) (runsCons (rCon (W.int 1000000000)) (runsCons (run1 (rCon (W.int 1000000000)) opNeg) (runsCons (rVar 6) runsNil)))))) (opL false)) (run2 (run2 (rVar 1) (rCon (W.int 7)) opDiv) (rCon (W.int 6)) opMod) opIdx))
  sPass))
    sPass)
  (sSeq (sIf (run2 (run2 (rVar 1) (rCon (W.int 7)) opMod) (rCon (W.int 5)) opEq)
    (sSeq (sRet (run2 (runN (runsCons (rCon (W.bl true)) (runsCons (rCon (W.bl false)) (runsCons (rCon W.non) (runsCons (runN (runsCons (rVar 2) runsNil) (opL false)) (runsCons (runN (runsCons (rVar 2) runsNil) opTup) (runsCons rDict0 runsNil)))))) (opL false)) (run2 (run2 (rVar 1) (rCon (W.int 7)) opDiv) (rCon (W.int 6)) opMod) opIdx))
  sPass)
    sPass)
  (sSeq (sRet (rVar 2))
  sPass)))))))))
def op_l_thing_by : OpN := callOp 1 7 false r_l_thing_by
abbrev s_l_kinds : Stmt := top 26
def N_l_kinds : List Str := ["_law_thing", "_law_no_names", "_law_is_great"]
def P_l_kinds : List Str := ["_law_thing"]
def M_l_kinds : List (Nat × Nat) := []
def r_l_kinds : RunS :=
  (sSeq (sIf (runN (runsCons (rVar 0) (runsCons (rCon (.ty "bool")) runsNil)) opIsi)
    (sSeq (sRet (runN (runsCons (rCon (W.bl false)) (runsCons (rCon (W.bl false)) (runsCons (rCon (W.bl false)) runsNil))) (opL false)))
  sPass)
    sPass)
  (sSeq (sIf (runN (runsCons (rVar 0) (runsCons (rCon (.ty "int")) runsNil)) opIsi)
    (sSeq (sRet (runN (runsCons (rCon (W.bl false)) (runsCons (rCon (W.bl false)) (runsCons (run2 (runN (runsCons (rVar 0) runsNil) opAbs) (rCon (W.int 1000000000)) opLt) runsNil))) (opL false)))
  sPass)
    sPass)
  (sSeq (sIf (runOr (runNot (runN (runsCons (rVar 0) (runsCons (rCon (.ty "str")) runsNil)) opIsi)) (runNot (runC (rCon (W.int 1)) (runN (runsCons (rVar 0) runsNil) opLen) (rCon (W.int 8)) opLe opLe)))
    (sSeq (sRet (runN (runsCons (rCon (W.bl false)) (runsCons (rCon (W.bl false)) (runsCons (rCon (W.bl false)) runsNil))) (opL false)))
  sPass)
    sPass)
  (sSeq (sSet 1 (runN (runsCons (rCon (W.str "has")) (runsCons (rCon (W.str "not")) (runsCons (rCon (W.str "less")) (runsCons (rCon (W.str "same")) (runsCons (rCon (W.str "plus")) (runsCons (rCon (W.str "if")) (runsCons (rCon (W.str "by")) (runsCons (rCon (W.str "is")) (runsCons (rCon (W.str "count")) (runsCons (rCon (W.str "sum")) (runsCons (rCon (W.str "least")) (runsCons (rCon (W.str "most")) (runsCons (rCon (W.str "why")) runsNil))))))))))))) (opL false)))
  (sSeq (sSet 2 (runAnd (run2 (run2 (rVar 0) (rCon (W.int 0)) opIdx) (rCon (W.str "ABCDEFGHIJKLMNOPQRSTUVWXYZ")) opIn) (runN (runsCons (runSlSN false (rVar 0) (rCon (W.int 1))) runsNil) (calmOp op_l_small))))
  (sSeq (sRet (runN (runsCons (runAnd (runN (runsCons (rVar 0) runsNil) (calmOp op_l_small)) (run2 (rVar 0) (rVar 1) opNotIn)) (runsCons (rVar 2) (runsCons (rCon (W.bl false)) runsNil))) (opL false)))
  sPass))))))
def op_l_kinds : OpN := callOp 1 3 false r_l_kinds
abbrev s_l_value_by : Stmt := top 28
def N_l_value_by : List Str := ["_law_cell"]
def P_l_value_by : List Str := ["_law_cell"]
def M_l_value_by : List (Nat × Nat) := []
def r_l_value_by : RunS :=
  (sSeq (sIf (run2 (run2 (rVar 0) (rCon (W.int 2)) opMod) (rCon (W.int 0)) opEq)
    (sSeq (sRet (run2 (run2 (run2 (rVar 0) (rCon (W.int 2)) opDiv) (rCon (W.int 1999999999)) opMod) (rCon (W.int 999999999)) opSub))
  sPass)
    sPass)
  (sSeq (sIf (run2 (run2 (run2 (rVar 0) (rCon (W.int 2)) opDiv) (rCon (W.int 3)) opMod) (rCon (W.int 0)) opEq)
    (sSeq (sRet (run2 (runN (runsCons (rCon (W.str "a")) (runsCons (rCon (W.str "b")) (runsCons (rCon (W.str "ab")) (runsCons (rCon (W.str "abc")) (runsCons (rCon (W.str "ba")) (runsCons (rCon (W.str "zz")) runsNil)))))) (opL false)) (run2 (run2 (rVar 0) (rCon (W.int 6)) opDiv) (rCon (W.int 6)) opMod) opIdx))
  sPass)
    sPass)
  (sSeq (sRet (runN (runsCons (run2 (rVar 0) (rCon (W.int 6)) opDiv) (runsCons (rCon (W.int 1)) runsNil)) (calmOp op_l_letter_in)))
  sPass)))
def op_l_value_by : OpN := callOp 1 1 false r_l_value_by
def gl2 : List (Str × GV) := ("_law_value_by", .fn 1 op_l_value_by) :: ("_law_kinds", .fn 1 op_l_kinds) :: ("_law_thing_by", .fn 1 op_l_thing_by) :: ("rank_of", .fn 1 op_rank_of) :: ("is_free", .fn 1 op_is_free) :: ("is_name", .fn 1 op_is_name) :: gl1
abbrev s_is_value : Stmt := top 16
def N_is_value : List Str := ["thing"]
def P_is_value : List Str := ["thing"]
def M_is_value : List (Nat × Nat) := []
def r_is_value : RunS :=
  (sSeq (sRet (runOr (runN (runsCons (rVar 0) runsNil) (calmOp op_is_name)) (runN (runsCons (rVar 0) runsNil) (calmOp op_is_number))))
  sPass)
def op_is_value : OpN := callOp 1 1 false r_is_value
abbrev s_l_facts_by : Stmt := top 29
def N_l_facts_by : List Str := ["_law_script", "_law_first", "_law_second", "_law_at", "_law_names", "_law_far"]
def P_l_facts_by : List Str := ["_law_script"]
def M_l_facts_by : List (Nat × Nat) := [(95, 18)]
def r_l_facts_by : RunS :=
  (sSeq (sSet 1 (runComp false (runRng1 (run2 (runN (runsCons (rVar 0) (runsCons (rCon (W.int 4)) runsNil)) (calmOp op_l_cell_at)) (rCon (W.int 5)) opMod)) [0] (rCon (.bl true)) (runN (runsCons (runN (runsCons (rVar 1) (runsCons (run2 (rCon (W.int 6)) (rVar 0) opAdd) runsNil)) (calmOp op_l_cell_at)) runsNil) (calmOp op_l_value_by))))
  (sSeq (sSet 2 (runN (runsCons (rVar 1) runsNil) (opList true)))
  (sSeq (sSet 3 (run2 (runN (runsCons (rVar 0) (runsCons (rCon (W.int 5)) runsNil)) (calmOp op_l_cell_at)) (rCon (W.int 5)) opMod))
  (sSeq (sIf (run2 (rVar 3) (runN (runsCons (rVar 1) runsNil) opLen) opLt)
    (sSeq (sSetIx (rVar 2) (rVar 3) (runN (runsCons (runN (runsCons (rVar 0) (runsCons (rCon (W.int 11)) runsNil)) (calmOp op_l_cell_at)) runsNil) (calmOp op_l_value_by)))
  (sSeq (sIf (run2 (run2 (run2 (runN (runsCons (rVar 0) (runsCons (rCon (W.int 5)) runsNil)) (calmOp op_l_cell_at)) (rCon (W.int 5)) opDiv) (rCon (W.int 3)) opMod) (rCon (W.int 1)) opEq)
    (sSeq (sSet 2 (runSlNS false (rVar 2) (rVar 3)))
  sPass)
    sPass)
  (sSeq (sIf (run2 (run2 (run2 (runN (runsCons (rVar 0) (runsCons (rCon (W.int 5)) runsNil)) (calmOp op_l_cell_at)) (rCon (W.int 5)) opDiv) (rCon (W.int 3)) opMod) (rCon (W.int 2)) opEq)
    (sSeq (sSet 2 (runSlNS false (rVar 2) (run2 (rVar 3) (rCon (W.int 1)) opAdd)))
  sPass)
    sPass)
  sPass)))
    sPass)
  (sSeq (sSet 4 (runN (runsCons (rCon (W.str "road")) (runsCons (run2 (runN (runsCons (rCon (W.str "road")) (runsCons (rCon (W.str "roads")) (runsCons (rCon (W.str "road")) (runsCons (rCon (W.str "road")) (runsCons (rCon (W.str "roac")) (runsCons (rCon (W.str "a")) runsNil)))))) (opL false)) (run2 (run2 (runN (runsCons (rVar 0) (runsCons (rCon (W.int 4)) runsNil)) (calmOp op_l_cell_at)) (rCon (W.int 5)) opDiv) (rCon (W.int 6)) opMod) opIdx) runsNil)) (opL false)))
  (sSeq (sIf (run2 (run2 (run2 (runN (runsCons (rVar 0) (runsCons (rCon (W.int 4)) runsNil)) (calmOp op_l_cell_at)) (rCon (W.int 30)) opDiv) (rCon (W.int 3)) opMod) (rCon (W.int 1)) opEq)
    (sSeq (sSet 5 (runN (runsCons (rVar 0) (runsCons (rCon (W.int 12)) runsNil)) (calmOp op_l_cell_at)))
  (sSeq (sSet 4 (runN (runsCons (runN (runsCons (rVar 5) (runsCons (rCon (W.int 1)) runsNil)) (calmOp op_l_letter_in)) (runsCons (runN (runsCons (rVar 5) (runsCons (rCon (W.int 26)) runsNil)) (calmOp op_l_letter_in)) runsNil)) (opL false)))
  sPass))
    sPass)
  (sSeq (sRet (runN (runsCons (runN (runsCons (run2 (runN (runsCons (run2 (rVar 4) (rCon (W.int 0)) opIdx) runsNil) (opL false)) (rVar 1) opAdd) runsNil) opTuple) (runsCons (runN (runsCons (run2 (runN (runsCons (run2 (rVar 4) (rCon (W.int 1)) opIdx) runsNil) (opL false)) (rVar 2) opAdd) runsNil) opTuple) runsNil)) (opL false)))
  sPass)))))))
def op_l_facts_by : OpN := callOp 1 6 true r_l_facts_by
def gl3 : List (Str × GV) := ("_law_facts_by", .fn 1 op_l_facts_by) :: ("is_value", .fn 1 op_is_value) :: gl2
abbrev s_is_term : Stmt := top 17
def N_is_term : List Str := ["thing"]
def P_is_term : List Str := ["thing"]
def M_is_term : List (Nat × Nat) := []
def r_is_term : RunS :=
  (sSeq (sRet (runOr (runN (runsCons (rVar 0) runsNil) (calmOp op_is_value)) (runN (runsCons (rVar 0) runsNil) (calmOp op_is_free))))
  sPass)
def op_is_term : OpN := callOp 1 1 false r_is_term
def gl4 : List (Str × GV) := ("is_term", .fn 1 op_is_term) :: gl3
abbrev s_law : Stmt := top 31
def N_law : List Str := ["_law_script", "_law_thing", "_law_due", "_law_found", "_law_facts", "_law_ordered"]
def P_law : List Str := ["_law_script"]
def M_law : List (Nat × Nat) := []
def r_law : RunS :=
  (sSeq (sSet 1 (runN (runsCons (rVar 0) runsNil) (calmOp op_l_thing_by)))
  (sSeq (sSet 2 (runN (runsCons (rVar 1) runsNil) (calmOp op_l_kinds)))
  (sSeq (sSet 2 (run2 (rVar 2) (runN (runsCons (runOr (run2 (rVar 2) (rCon (W.int 0)) opIdx) (run2 (rVar 2) (rCon (W.int 2)) opIdx)) (runsCons (runOr (run2 (rVar 2) (rCon (W.int 0)) opIdx) (runOr (run2 (rVar 2) (rCon (W.int 1)) opIdx) (run2 (rVar 2) (rCon (W.int 2)) opIdx))) runsNil)) (opL false)) opAdd))
  (sSeq (sSet 3 (runN (runsCons (runN (runsCons (rVar 1) runsNil) (calmOp op_is_name)) (runsCons (runN (runsCons (rVar 1) runsNil) (calmOp op_is_free)) (runsCons (runN (runsCons (rVar 1) runsNil) (calmOp op_is_number)) (runsCons (runN (runsCons (rVar 1) runsNil) (calmOp op_is_value)) (runsCons (runN (runsCons (rVar 1) runsNil) (calmOp op_is_term)) runsNil))))) (opL false)))
  (sSeq (sIf (runOr (runNot (runN (runsCons (runComp false (runSrc (rVar 3)) [] (rCon (.bl true)) (runN (runsCons (rVar 0) (runsCons (rCon (.ty "bool")) runsNil)) opIsi)) runsNil) opAll)) (run2 (rVar 3) (rVar 2) opNe))
    (sSeq (sRet (rCon (W.bl false)))
  sPass)
    sPass)
  (sSeq (sIf (run2 (runN (runsCons (rCon c_MOST_RULES) (runsCons (rCon c_MOST_FACTS) (runsCons (rCon c_MOST_FILLS) (runsCons (rCon c_MOST_WIDTH) (runsCons (rCon c_MOST_PARTS) runsNil))))) (opL false)) (runN (runsCons (rCon (W.int 20)) (runsCons (rCon (W.int 200)) (runsCons (rCon (W.int 2000)) (runsCons (rCon (W.int 4)) (runsCons (rCon (W.int 6)) runsNil))))) (opL false)) opNe)
    (sSeq (sRet (rCon (W.bl false)))
  sPass)
    sPass)
  (sSeq (sSet 4 (runN (runsCons (rVar 0) runsNil) (calmOp op_l_facts_by)))
  (sSeq (sSet 5 (run1 (rVar 4) (opSort op_rank_of)))
  (sSeq (sIf (runOr (runNot (runN (runsCons (run2 (rVar 5) (rCon (W.int 0)) opIdx) (runsCons (run2 (rVar 5) (rCon (W.int 1)) opIdx) runsNil)) (calmOp op_l_before))) (run2 (run1 (run1 (rVar 4) (opRev false)) (opSort op_rank_of)) (rVar 5) opNe))
    (sSeq (sRet (rCon (W.bl false)))
  sPass)
    sPass)
  (sSeq (sRet (runAnd (runN (runsCons (runN (runsCons (run2 (rVar 4) (rCon (W.int 0)) opIdx) runsNil) (calmOp op_rank_of)) (runsCons (rCon (.ty "tuple")) runsNil)) opIsi) (run2 (run2 (runN (runsCons (run2 (rVar 4) (rCon (W.int 0)) opIdx) runsNil) (calmOp op_rank_of)) (runN (runsCons (run2 (rVar 4) (rCon (W.int 1)) opIdx) runsNil) (calmOp op_rank_of)) opEq) (run2 (run2 (rVar 4) (rCon (W.int 0)) opIdx) (run2 (rVar 4) (rCon (W.int 1)) opIdx) opEq) opEq)))
  sPass))))))))))
def op_law : OpN := callOp 1 6 false r_law
def gl5 : List (Str × GV) := ("law", .fn 1 op_law) :: gl4
end DL.My
namespace DL.My
open PySem L2
theorem sc_is_short_text : scopeOk N_is_short_text P_is_short_text (defScope s_is_short_text) = true := by decide +kernel
theorem de_is_short_text : denSs 60 ⟨N_is_short_text, defScope s_is_short_text, gl0, M_is_short_text⟩ (defBody s_is_short_text) = some r_is_short_text := by kernel_rfl
theorem sc_all_small : scopeOk N_all_small P_all_small (defScope s_all_small) = true := by decide +kernel
theorem de_all_small : denSs 60 ⟨N_all_small, defScope s_all_small, gl0, M_all_small⟩ (defBody s_all_small) = some r_all_small := by kernel_rfl
theorem sc_is_name : scopeOk N_is_name P_is_name (defScope s_is_name) = true := by decide +kernel
theorem de_is_name : denSs 60 ⟨N_is_name, defScope s_is_name, gl1, M_is_name⟩ (defBody s_is_name) = some r_is_name := by kernel_rfl
theorem sc_is_free : scopeOk N_is_free P_is_free (defScope s_is_free) = true := by decide +kernel
theorem de_is_free : denSs 60 ⟨N_is_free, defScope s_is_free, gl1, M_is_free⟩ (defBody s_is_free) = some r_is_free := by kernel_rfl
theorem sc_is_number : scopeOk N_is_number P_is_number (defScope s_is_number) = true := by decide +kernel
theorem de_is_number : denSs 60 ⟨N_is_number, defScope s_is_number, gl0, M_is_number⟩ (defBody s_is_number) = some r_is_number := by kernel_rfl
theorem sc_is_value : scopeOk N_is_value P_is_value (defScope s_is_value) = true := by decide +kernel
theorem de_is_value : denSs 60 ⟨N_is_value, defScope s_is_value, gl2, M_is_value⟩ (defBody s_is_value) = some r_is_value := by kernel_rfl
theorem sc_is_term : scopeOk N_is_term P_is_term (defScope s_is_term) = true := by decide +kernel
theorem de_is_term : denSs 60 ⟨N_is_term, defScope s_is_term, gl3, M_is_term⟩ (defBody s_is_term) = some r_is_term := by kernel_rfl
theorem sc_rank_of_value : scopeOk N_rank_of_value P_rank_of_value (defScope s_rank_of_value) = true := by decide +kernel
theorem de_rank_of_value : denSs 60 ⟨N_rank_of_value, defScope s_rank_of_value, gl0, M_rank_of_value⟩ (defBody s_rank_of_value) = some r_rank_of_value := by kernel_rfl
theorem sc_rank_of : scopeOk N_rank_of P_rank_of (defScope s_rank_of) = true := by decide +kernel
theorem de_rank_of : denSs 60 ⟨N_rank_of, defScope s_rank_of, gl1, M_rank_of⟩ (defBody s_rank_of) = some r_rank_of := by kernel_rfl
theorem sc_l_cell_at : scopeOk N_l_cell_at P_l_cell_at (defScope s_l_cell_at) = true := by decide +kernel
theorem de_l_cell_at : denSs 60 ⟨N_l_cell_at, defScope s_l_cell_at, gl0, M_l_cell_at⟩ (defBody s_l_cell_at) = some r_l_cell_at := by kernel_rfl
theorem sc_l_word_by : scopeOk N_l_word_by P_l_word_by (defScope s_l_word_by) = true := by decide +kernel
theorem de_l_word_by : denSs 60 ⟨N_l_word_by, defScope s_l_word_by, gl0, M_l_word_by⟩ (defBody s_l_word_by) = some r_l_word_by := by kernel_rfl
theorem sc_l_sign_by : scopeOk N_l_sign_by P_l_sign_by (defScope s_l_sign_by) = true := by decide +kernel
theorem de_l_sign_by : denSs 60 ⟨N_l_sign_by, defScope s_l_sign_by, gl0, M_l_sign_by⟩ (defBody s_l_sign_by) = some r_l_sign_by := by kernel_rfl
theorem sc_l_thing_by : scopeOk N_l_thing_by P_l_thing_by (defScope s_l_thing_by) = true := by decide +kernel
theorem de_l_thing_by : denSs 60 ⟨N_l_thing_by, defScope s_l_thing_by, gl1, M_l_thing_by⟩ (defBody s_l_thing_by) = some r_l_thing_by := by kernel_rfl
theorem sc_l_small : scopeOk N_l_small P_l_small (defScope s_l_small) = true := by decide +kernel
theorem de_l_small : denSs 60 ⟨N_l_small, defScope s_l_small, gl0, M_l_small⟩ (defBody s_l_small) = some r_l_small := by kernel_rfl
theorem sc_l_kinds : scopeOk N_l_kinds P_l_kinds (defScope s_l_kinds) = true := by decide +kernel
theorem de_l_kinds : denSs 60 ⟨N_l_kinds, defScope s_l_kinds, gl1, M_l_kinds⟩ (defBody s_l_kinds) = some r_l_kinds := by kernel_rfl
theorem sc_l_letter_in : scopeOk N_l_letter_in P_l_letter_in (defScope s_l_letter_in) = true := by decide +kernel
theorem de_l_letter_in : denSs 60 ⟨N_l_letter_in, defScope s_l_letter_in, gl0, M_l_letter_in⟩ (defBody s_l_letter_in) = some r_l_letter_in := by kernel_rfl
theorem sc_l_value_by : scopeOk N_l_value_by P_l_value_by (defScope s_l_value_by) = true := by decide +kernel
theorem de_l_value_by : denSs 60 ⟨N_l_value_by, defScope s_l_value_by, gl1, M_l_value_by⟩ (defBody s_l_value_by) = some r_l_value_by := by kernel_rfl
theorem sc_l_facts_by : scopeOk N_l_facts_by P_l_facts_by (defScope s_l_facts_by) = true := by decide +kernel
theorem de_l_facts_by : denSs 60 ⟨N_l_facts_by, defScope s_l_facts_by, gl2, M_l_facts_by⟩ (defBody s_l_facts_by) = some r_l_facts_by := by kernel_rfl
theorem sc_l_before : scopeOk N_l_before P_l_before (defScope s_l_before) = true := by decide +kernel
theorem de_l_before : denSs 60 ⟨N_l_before, defScope s_l_before, gl0, M_l_before⟩ (defBody s_l_before) = some r_l_before := by kernel_rfl
theorem sc_law : scopeOk N_law P_law (defScope s_law) = true := by decide +kernel
theorem de_law : denSs 60 ⟨N_law, defScope s_law, gl4, M_law⟩ (defBody s_law) = some r_law := by kernel_rfl
end DL.My
namespace DL.My
open PySem L2
/-! ### runs that leave the state as it is -/
theorem ret_ok {r : Run} {Γ : Ga} {st : S} {w : W} (h : r Γ st = .ok w st) : sSeq (sRet r) sPass Γ st = .ok (.rt w) st := by
  rw [ev_seq, ev_ret, h]; rfl
theorem compGo_map {re : Run} {Γc : Ga} {st : S} (f : W → W) : ∀ (items acc : List W), (∀ x ∈ items, re (some x :: Γc) st = .ok (f x) st) → compGo (rCon (.bl true)) re Γc items acc st = .ok (acc ++ items.map f) st
  | [], acc, _ => by simp [compGo]
  | x :: xs, acc, h => by
    show ((rCon (.bl true) (some x :: Γc) st).calm.bind fun b st1 => match b with
      | .bl true => (re (some x :: Γc) st1).calm.bind fun y st2 => compGo (rCon (.bl true)) re Γc xs (acc ++ [y]) st2
      | .bl false => compGo (rCon (.bl true)) re Γc xs acc st1
      | _ => .stuck) = _
    show ((re (some x :: Γc) st).calm.bind fun y st2 => compGo (rCon (.bl true)) re Γc xs (acc ++ [y]) st2) = _
    rw [h x List.mem_cons_self, ev_calm, ev_ok, compGo_map f xs (acc ++ [f x]) fun y hy => h y (List.mem_cons_of_mem _ hy)]
    simp
theorem comp_map {src : Src} {cap : List Nat} {re : Run} {Γ : Ga} {st : S} {items : List W} (f : W → W) (hs : src Γ st = .ok items st) (hl : items.length < sizeLine) (h : ∀ x ∈ items, re (some x :: capG cap Γ) st = .ok (f x) st) :
    runComp false src cap (rCon (.bl true)) re Γ st = .ok (.lst (items.map f)) st := by
  unfold runComp
  rw [hs, ev_ok, if_pos hl, compGo_map f items [] h, ev_ok, List.nil_append]
  exact ev_lst _ (by rw [List.length_map]; exact Nat.le_of_lt hl)
theorem bools_of {α : Type} (g : α → Bool) : ∀ xs : List α, bools (xs.map fun x => W.bl (g x)) = some (xs.map g)
  | [] => rfl
  | x :: xs => by
    show (bools (xs.map fun x => W.bl (g x))).map (g x :: ·) = _
    rw [bools_of g xs]; rfl
theorem inD_txt (z : Str) : ∀ ks : List Str, inD (.str z) (ks.map W.str) = some (ks.any fun a => a == z)
  | [] => rfl
  | k :: ks => by
    show (match eqD 12 (.str k) (.str z), inD (.str z) (ks.map W.str) with | some a, some b => some (a || b) | _, _ => none) = _
    rw [inD_txt z ks]; rfl
/-! ### signs -/
def abc : Str := "abcdefghijklmnopqrstuvwxyz"
def ABC : Str := "ABCDEFGHIJKLMNOPQRSTUVWXYZ"
def sm (z : Str) : Bool := (z.cps.toList.map fun c => inStr ⟨#[c]⟩ abc).all id
theorem small_run {Γ : Ga} {st : S} {z : Str} {r : Run} (hr : r Γ st = .ok (.str abc) st) (hz : z.length < sizeLine) (hr2 : ∀ w, r (some w :: []) st = .ok (.str abc) st) : runN (runsCons (runComp false (runSrc (rVar 0)) [] (rCon (.bl true)) (run2 (rVar 0) r opIn)) runsNil) opAll (some (.str z) :: Γ) st = .ok (.bl (sm z)) st := by
  rw [ev_runN, ev_cons]
  have hsrc : runSrc (rVar 0) (some (.str z) :: Γ) st = .ok (signs z) st := rfl
  have hl : (signs z).length < sizeLine := by unfold signs; rw [List.length_map]; exact hz
  have hc : runComp false (runSrc (rVar 0)) [] (rCon (.bl true)) (run2 (rVar 0) r opIn) (some (.str z) :: Γ) st = .ok (.lst ((signs z).map fun w => match w with | .str x => W.bl (inStr x abc) | w => w)) st := by
    refine comp_map _ hsrc hl fun w hw => ?_
    unfold signs at hw
    obtain ⟨c, _, rfl⟩ := List.mem_map.mp hw
    rw [ev_run2, ev_v0, ev_ok]
    show (r [some (W.str ⟨#[c]⟩)] st).bind _ = _
    rw [hr2, ev_ok]; rfl
  rw [hc, ev_ok, ev_nil, ev_ok, ev_ok]
  have e : ((signs z).map fun w => match w with | .str x => W.bl (inStr x abc) | w => w) = z.cps.toList.map fun c => W.bl (inStr ⟨#[c]⟩ abc) := by
    unfold signs; rw [List.map_map]; rfl
  rw [e]
  show (match bools (z.cps.toList.map fun c => W.bl (inStr ⟨#[c]⟩ abc)) with | some bs => R.ok (W.bl (bs.all id)) st | none => .stuck) = _
  rw [bools_of]; rfl
theorem l_small_ok (z : Str) (st : S) (hz : z.length < sizeLine) : op_l_small [.str z] st = .ok (.bl (sm z)) st := by
  unfold op_l_small
  rw [ev_op1]
  unfold r_l_small
  rw [ret_ok (small_run (z := z) rfl hz fun _ => rfl)]; rfl
theorem all_small_ok (z : Str) (st : S) (hz : z.length < sizeLine) : op_all_small [.str z] st = .ok (.bl (sm z)) st := by
  unfold op_all_small
  rw [ev_op1]
  unfold r_all_small
  rw [ret_ok (small_run (z := z) rfl hz fun _ => rfl)]; rfl
/-! ### things -/
inductive Thing : W → Prop
  | str (z : Str) : z.length ≤ 100 → Thing (.str z)
  | int (i : Int) : Thing (.int i)
  | bl (b : Bool) : Thing (.bl b)
  | non : Thing .non
  | lst (ws : List W) : Thing (.lst ws)
  | tup (ws : List W) : Thing (.tup ws)
  | dct (ks : List Key) (ws : List W) : Thing (.dct ks ws)
def short (z : Str) : Bool := if decide ((1 : Int) ≤ (z.length : Int)) = true then decide ((z.length : Int) ≤ 8) else false
theorem big100 {n : Nat} (h : n ≤ 100) : n < sizeLine := Nat.lt_of_le_of_lt h (by decide)
theorem short_run {Γ : Ga} {st : S} {z : Str} (h : z.length ≤ 100) : runC (rCon (W.int 1)) (runN (runsCons (rVar 0) runsNil) opLen) (rCon (.int 8)) opLe opLe (some (.str z) :: Γ) st = .ok (.bl (short z)) st := by
  simp only [ev_chain, ev_con, ev_ok, ev_runN, ev_cons, ev_v0, ev_nil, ev_lenS z (Nat.le_of_lt (big100 h)), ev_leI, kIf_bl]
  unfold short
  split <;> rfl
theorem isi_str (z : Str) (st : S) (T : String) (h : kinds.contains T = true) : opIsi [.str z, .ty T] st = .ok (.bl (isKind "str" T)) st := by rw [ev_isi, if_pos h]; rfl
theorem is_short_str (z : Str) (st : S) (h : z.length ≤ 100) : op_is_short_text [.str z] st = .ok (.bl (short z)) st := by
  unfold op_is_short_text
  rw [ev_op1]
  unfold r_is_short_text
  have e : runAnd (runN (runsCons (rVar 0) (runsCons (rCon (.ty "str")) runsNil)) opIsi) (runC (rCon (W.int 1)) (runN (runsCons (rVar 0) runsNil) opLen) (rCon c_MOST_SIGNS) opLe opLe) (some (.str z) :: List.replicate (1 - 1) none) st = .ok (.bl (short z)) st := by
    have h1 : runN (runsCons (rVar 0) (runsCons (rCon (.ty "str")) runsNil)) opIsi (some (.str z) :: List.replicate (1 - 1) none) st = .ok (.bl true) st := rfl
    rw [ev_and, h1, ev_ok, kIf_bl, if_pos rfl]
    exact short_run h
  rw [ret_ok e]; rfl
theorem is_short_no {w : W} (st : S) (h : Thing w) (hs : ∀ z, w ≠ .str z) : op_is_short_text [w] st = .ok (.bl false) st := by
  cases h with
  | str z _ => exact absurd rfl (hs z)
  | _ => rfl
/-! ### names -/
def kw : List Str := ["has", "not", "less", "same", "plus", "if", "by", "is", "count", "sum", "least", "most", "why"]
def kept (z : Str) : Bool := kw.any fun a => a == z
def nameB (z : Str) : Bool := if short z = true then (if sm z = true then !kept z else false) else false
def greatB (z : Str) : Bool := inStr ⟨#[z.cps.toList.headD 0]⟩ ABC
def freeB (z : Str) : Bool := if short z = true then (if greatB z = true then sm (Txt.slice z (some 1) none) else false) else false
theorem notIn_kept (z : Str) (st : S) : opNotIn (.str z) c_KEPT_WORDS st = .ok (.bl (!kept z)) st := by
  show (match inD (.str z) (kw.map W.str) with | some r => R.ok (W.bl (!r)) st | none => .stuck) = _
  rw [inD_txt]; rfl
theorem call1 {op : OpN} {Γ : Ga} {st : S} {w w' : W} (h : op [w] st = .ok w' st) : runN (runsCons (rVar 0) runsNil) (calmOp op) (some w :: Γ) st = .ok w' st := by
  rw [ev_runN, ev_cons, ev_v0, ev_ok, ev_nil, ev_ok, ev_ok, ev_calmOp, h]; rfl
theorem is_name_str (z : Str) (st : S) (h : z.length ≤ 100) : op_is_name [.str z] st = .ok (.bl (nameB z)) st := by
  unfold op_is_name
  rw [ev_op1]
  unfold r_is_name
  have e : runAnd (runN (runsCons (rVar 0) runsNil) (calmOp op_is_short_text)) (runAnd (runN (runsCons (rVar 0) runsNil) (calmOp op_all_small)) (run2 (rVar 0) (rCon c_KEPT_WORDS) opNotIn)) (some (.str z) :: List.replicate (1 - 1) none) st = .ok (.bl (nameB z)) st := by
    rw [ev_and, call1 (is_short_str z st h), ev_ok, kIf_bl, ev_and, call1 (all_small_ok z st (big100 h)), ev_ok, kIf_bl, ev_run2, ev_v0, ev_ok, ev_con, ev_ok, notIn_kept]
    unfold nameB
    split
    · split <;> rfl
    · rfl
  rw [ret_ok e]; rfl
theorem is_name_no {w : W} (st : S) (h : Thing w) (hs : ∀ z, w ≠ .str z) : op_is_name [w] st = .ok (.bl false) st := by
  unfold op_is_name
  rw [ev_op1]
  unfold r_is_name
  have e : runAnd (runN (runsCons (rVar 0) runsNil) (calmOp op_is_short_text)) (runAnd (runN (runsCons (rVar 0) runsNil) (calmOp op_all_small)) (run2 (rVar 0) (rCon c_KEPT_WORDS) opNotIn)) (some w :: List.replicate (1 - 1) none) st = .ok (.bl false) st := by
    rw [ev_and, call1 (is_short_no st h hs), ev_ok, kIf_bl]; rfl
  rw [ret_ok e]; rfl
theorem slice1_len (z : Str) : (Txt.slice z (some 1) none).length ≤ z.length := Txt.slice_le z _ _
theorem head_run {Γ : Ga} {st : S} {z : Str} {G : Run} (hG : ∀ Γ, G Γ st = .ok (.str ABC) st) (h : z.length ≤ 100) (hs : short z = true) : run2 (run2 (rVar 0) (rCon (W.int 0)) opIdx) G opIn (some (.str z) :: Γ) st = .ok (.bl (greatB z)) st := by
  have hl : 1 ≤ z.length := by
    unfold short at hs
    by_cases h1 : (1 : Int) ≤ (z.length : Int)
    · omega
    · rw [decide_eq_false h1] at hs; simp at hs
  have hl' : 0 < z.cps.toList.length := by
    have : z.cps.toList.length = z.length := by simp [Str.length]
    omega
  have ha : atI z.cps.toList (0 : Int) = some (z.cps.toList.headD 0) := by
    have := at_nat z.cps.toList 0 (z.cps.toList.headD 0) (by
      cases e : z.cps.toList with
      | nil => rw [e] at hl'; simp at hl'
      | cons a b => rfl)
    exact this
  rw [ev_run2, ev_run2, ev_v0, ev_ok, ev_con, ev_ok, ev_idxS z 0 _ (Nat.le_of_lt (big100 h)) ha, ev_ok, hG, ev_ok]
  rfl
theorem tail_run {Γ : Ga} {st : S} {z : Str} {op : OpN} (hop : ∀ y : Str, y.length < sizeLine → op [.str y] st = .ok (.bl (sm y)) st) (h : z.length ≤ 100) : runN (runsCons (runSlSN false (rVar 0) (rCon (W.int 1))) runsNil) (calmOp op) (some (.str z) :: Γ) st = .ok (.bl (sm (Txt.slice z (some 1) none))) st := by
  have e : runSlSN false (rVar 0) (rCon (W.int 1)) (some (.str z) :: Γ) st = .ok (.str (Txt.slice z (some 1) none)) st := by
    show (if z.length ≤ sizeLine then R.ok (W.str (Txt.slice z (some 1) none)) st else .stuck) = _
    rw [if_pos (Nat.le_of_lt (big100 h))]
  rw [ev_runN, ev_cons, e, ev_ok, ev_nil, ev_ok, ev_ok, ev_calmOp, hop _ (big100 (Nat.le_trans (slice1_len z) h))]; rfl
theorem is_free_str (z : Str) (st : S) (h : z.length ≤ 100) : op_is_free [.str z] st = .ok (.bl (freeB z)) st := by
  unfold op_is_free
  rw [ev_op1]
  unfold r_is_free
  have e : runAnd (runN (runsCons (rVar 0) runsNil) (calmOp op_is_short_text)) (runAnd (run2 (run2 (rVar 0) (rCon (W.int 0)) opIdx) (rCon c_GREAT_LETTERS) opIn) (runN (runsCons (runSlSN false (rVar 0) (rCon (W.int 1))) runsNil) (calmOp op_all_small))) (some (.str z) :: List.replicate (1 - 1) none) st = .ok (.bl (freeB z)) st := by
    rw [ev_and, call1 (is_short_str z st h), ev_ok, kIf_bl]
    unfold freeB
    split
    · rename_i hs
      rw [ev_and, head_run (G := rCon c_GREAT_LETTERS) (fun _ => rfl) h hs, ev_ok, kIf_bl]
      split
      · exact tail_run (fun y hy => all_small_ok y st hy) h
      · rfl
    · rfl
  rw [ret_ok e]; rfl
theorem is_free_no {w : W} (st : S) (h : Thing w) (hs : ∀ z, w ≠ .str z) : op_is_free [w] st = .ok (.bl false) st := by
  unfold op_is_free
  rw [ev_op1]
  unfold r_is_free
  have e : runAnd (runN (runsCons (rVar 0) runsNil) (calmOp op_is_short_text)) (runAnd (run2 (run2 (rVar 0) (rCon (W.int 0)) opIdx) (rCon c_GREAT_LETTERS) opIn) (runN (runsCons (runSlSN false (rVar 0) (rCon (W.int 1))) runsNil) (calmOp op_all_small))) (some w :: List.replicate (1 - 1) none) st = .ok (.bl false) st := by
    rw [ev_and, call1 (is_short_no st h hs), ev_ok, kIf_bl]; rfl
  rw [ret_ok e]; rfl
/-! ### numbers -/
def numB (i : Int) : Bool := if decide ((-999999999 : Int) ≤ i) = true then decide (i ≤ 999999999) else false
theorem is_number_int (i : Int) (st : S) : op_is_number [.int i] st = .ok (.bl (numB i)) st := by
  unfold op_is_number
  rw [ev_op1]
  unfold r_is_number
  have h1 : runN (runsCons (rVar 0) (runsCons (rCon (.ty "bool")) runsNil)) opIsi (some (.int i) :: List.replicate (1 - 1) none) st = .ok (.bl false) st := rfl
  have h2 : runN (runsCons (rVar 0) (runsCons (rCon (.ty "int")) runsNil)) opIsi (some (.int i) :: List.replicate (1 - 1) none) st = .ok (.bl true) st := rfl
  have e : runAnd (runN (runsCons (rVar 0) (runsCons (rCon (.ty "int")) runsNil)) opIsi) (runC (run1 (rCon c_MOST_NUMBER) opNeg) (rVar 0) (rCon c_MOST_NUMBER) opLe opLe) (some (.int i) :: List.replicate (1 - 1) none) st = .ok (.bl (numB i)) st := by
    rw [ev_and, h2, ev_ok, kIf_bl, if_pos rfl, ev_chain, ev_run1, ev_con, ev_ok]
    show ((R.ok (W.int (-999999999)) st).bind _) = _
    rw [ev_ok, ev_v0, ev_ok, ev_leI, ev_ok, kIf_bl]
    unfold numB
    split
    · rw [ev_con, ev_ok]; rfl
    · rfl
  rw [ev_seq, ev_if, h1, ev_ok, kIf_bl, if_neg Bool.false_ne_true, ev_pass, ev_ok, kSeq_nx, ret_ok e]; rfl
theorem is_number_no {w : W} (st : S) (h : Thing w) (hs : ∀ i, w ≠ .int i) : op_is_number [w] st = .ok (.bl false) st := by
  cases h with
  | int i => exact absurd rfl (hs i)
  | _ => rfl
theorem is_value_of {w : W} {st : S} {a b : Bool} (h1 : op_is_name [w] st = .ok (.bl a) st) (h2 : op_is_number [w] st = .ok (.bl b) st) : op_is_value [w] st = .ok (.bl (a || b)) st := by
  unfold op_is_value
  rw [ev_op1]
  unfold r_is_value
  have e : runOr (runN (runsCons (rVar 0) runsNil) (calmOp op_is_name)) (runN (runsCons (rVar 0) runsNil) (calmOp op_is_number)) (some w :: List.replicate (1 - 1) none) st = .ok (.bl (a || b)) st := by
    rw [ev_or, call1 h1, ev_ok, kIf_bl, call1 h2]
    cases a <;> rfl
  rw [ret_ok e]; rfl
theorem is_term_of {w : W} {st : S} {a b : Bool} (h1 : op_is_value [w] st = .ok (.bl a) st) (h2 : op_is_free [w] st = .ok (.bl b) st) : op_is_term [w] st = .ok (.bl (a || b)) st := by
  unfold op_is_term
  rw [ev_op1]
  unfold r_is_term
  have e : runOr (runN (runsCons (rVar 0) runsNil) (calmOp op_is_value)) (runN (runsCons (rVar 0) runsNil) (calmOp op_is_free)) (some w :: List.replicate (1 - 1) none) st = .ok (.bl (a || b)) st := by
    rw [ev_or, call1 h1, ev_ok, kIf_bl, call1 h2]
    cases a <;> rfl
  rw [ret_ok e]; rfl
end DL.My
namespace DL.My
open PySem L2
/-! ### the law's own looking -/
theorem kinds_str (z : Str) (st : S) (h : z.length ≤ 100) : op_l_kinds [.str z] st = .ok (.lst [.bl (nameB z), .bl (freeB z), .bl false]) st := by
  unfold op_l_kinds
  rw [ev_op1]
  unfold r_l_kinds
  have h1 : ∀ Γ : Ga, runN (runsCons (rVar 0) (runsCons (rCon (.ty "bool")) runsNil)) opIsi (some (.str z) :: Γ) st = .ok (.bl false) st := fun _ => rfl
  have h2 : ∀ Γ : Ga, runN (runsCons (rVar 0) (runsCons (rCon (.ty "int")) runsNil)) opIsi (some (.str z) :: Γ) st = .ok (.bl false) st := fun _ => rfl
  have h3 : ∀ Γ : Ga, runN (runsCons (rVar 0) (runsCons (rCon (.ty "str")) runsNil)) opIsi (some (.str z) :: Γ) st = .ok (.bl true) st := fun _ => rfl
  rw [ev_seq, ev_if, h1, ev_ok, kIf_bl, if_neg Bool.false_ne_true, ev_pass, ev_ok, kSeq_nx]
  rw [ev_seq, ev_if, h2, ev_ok, kIf_bl, if_neg Bool.false_ne_true, ev_pass, ev_ok, kSeq_nx]
  rw [ev_seq, ev_if, ev_or, ev_not, h3, ev_ok, kNot_bl, ev_ok, kIf_bl, if_neg (by decide), ev_not, short_run h, ev_ok, kNot_bl, ev_ok, kIf_bl]
  by_cases hs : short z = true
  · rw [if_neg (by rw [hs]; decide), ev_pass, ev_ok, kSeq_nx]
    have hl : ∀ Γ : Ga, runN (runsCons (rCon (W.str "has")) (runsCons (rCon (W.str "not")) (runsCons (rCon (W.str "less")) (runsCons (rCon (W.str "same")) (runsCons (rCon (W.str "plus")) (runsCons (rCon (W.str "if")) (runsCons (rCon (W.str "by")) (runsCons (rCon (W.str "is")) (runsCons (rCon (W.str "count")) (runsCons (rCon (W.str "sum")) (runsCons (rCon (W.str "least")) (runsCons (rCon (W.str "most")) (runsCons (rCon (W.str "why")) runsNil))))))))))))) (opL false) Γ st = .ok (.lst (kw.map W.str)) st := fun _ => rfl
    rw [ev_seq, ev_set, hl, ev_ok, ev_ok, kSeq_nx]
    have hg : runAnd (run2 (run2 (rVar 0) (rCon (W.int 0)) opIdx) (rCon (W.str "ABCDEFGHIJKLMNOPQRSTUVWXYZ")) opIn) (runN (runsCons (runSlSN false (rVar 0) (rCon (W.int 1))) runsNil) (calmOp op_l_small)) (some (.str z) :: [some (.lst (kw.map W.str)), none]) st = .ok (.bl (freeB z)) st := by
      rw [ev_and, head_run (G := rCon (W.str "ABCDEFGHIJKLMNOPQRSTUVWXYZ")) (fun _ => rfl) h hs, ev_ok, kIf_bl]
      unfold freeB
      rw [if_pos hs]
      split
      · exact tail_run (fun y hy => l_small_ok y st hy) h
      · rfl
    rw [ev_seq, ev_set]
    show leave false st ((((runAnd (run2 (run2 (rVar 0) (rCon (W.int 0)) opIdx) (rCon (W.str "ABCDEFGHIJKLMNOPQRSTUVWXYZ")) opIn) (runN (runsCons (runSlSN false (rVar 0) (rCon (W.int 1))) runsNil) (calmOp op_l_small)) (some (.str z) :: [some (.lst (kw.map W.str)), none]) st).bind _).bind _)) = _
    rw [hg, ev_ok, ev_ok, kSeq_nx]
    have hn : opNotIn (.str z) (.lst (kw.map W.str)) st = .ok (.bl (!kept z)) st := by
      show (match inD (.str z) (kw.map W.str) with | some r => R.ok (W.bl (!r)) st | none => .stuck) = _
      rw [inD_txt]; rfl
    have ha : runAnd (runN (runsCons (rVar 0) runsNil) (calmOp op_l_small)) (run2 (rVar 0) (rVar 1) opNotIn) [some (.str z), some (.lst (kw.map W.str)), some (.bl (freeB z))] st = .ok (.bl (nameB z)) st := by
      rw [ev_and, call1 (l_small_ok z st (big100 h)), ev_ok, kIf_bl, ev_run2, ev_v0, ev_ok, ev_v1, ev_ok, hn]
      unfold nameB
      rw [if_pos hs]
      split <;> rfl
    have hr : runN (runsCons (runAnd (runN (runsCons (rVar 0) runsNil) (calmOp op_l_small)) (run2 (rVar 0) (rVar 1) opNotIn)) (runsCons (rVar 2) (runsCons (rCon (W.bl false)) runsNil))) (opL false) [some (.str z), some (.lst (kw.map W.str)), some (.bl (freeB z))] st = .ok (.lst [.bl (nameB z), .bl (freeB z), .bl false]) st := by
      rw [ev_runN, ev_cons, ha]; rfl
    show leave false st (sSeq (sRet _) sPass [some (.str z), some (.lst (kw.map W.str)), some (.bl (freeB z))] st) = _
    rw [ret_ok hr]; rfl
  · have hs' : short z = false := by simpa using hs
    rw [if_pos (by rw [hs']; decide)]
    have e1 : nameB z = false := by unfold nameB; rw [hs']; rfl
    have e2 : freeB z = false := by unfold freeB; rw [hs']; rfl
    rw [e1, e2]; rfl
theorem kinds_int (i : Int) (st : S) : op_l_kinds [.int i] st = .ok (.lst [.bl false, .bl false, .bl (numB i)]) st := by
  have e : op_l_kinds [.int i] st = .ok (.lst [.bl false, .bl false, .bl (decide ((if i < 0 then -i else i) < 1000000000))]) st := rfl
  rw [e]
  have : decide ((if i < 0 then -i else i) < 1000000000) = numB i := by
    unfold numB
    by_cases h : (-999999999 : Int) ≤ i
    · rw [decide_eq_true h, if_pos rfl]
      apply decide_eq_decide.mpr
      split <;> omega
    · rw [decide_eq_false h, if_neg Bool.false_ne_true]
      apply decide_eq_false
      split <;> omega
  rw [this]
theorem kinds_no {w : W} (st : S) (h : Thing w) (hs : ∀ z, w ≠ .str z) (hi : ∀ i, w ≠ .int i) : op_l_kinds [w] st = .ok (.lst [.bl false, .bl false, .bl false]) st := by
  cases h with
  | str z _ => exact absurd rfl (hs z)
  | int i => exact absurd rfl (hi i)
  | _ => rfl
/-- all five, by three truths -/
theorem five {w : W} (st : S) (h : Thing w) : ∃ a b c, op_l_kinds [w] st = .ok (.lst [.bl a, .bl b, .bl c]) st ∧ op_is_name [w] st = .ok (.bl a) st ∧ op_is_free [w] st = .ok (.bl b) st ∧ op_is_number [w] st = .ok (.bl c) st := by
  cases h with
  | str z hz => exact ⟨_, _, _, kinds_str z st hz, is_name_str z st hz, is_free_str z st hz, is_number_no st (.str z hz) (by intro i e; cases e)⟩
  | int i => exact ⟨_, _, _, kinds_int i st, is_name_no st (.int i) (by intro i e; cases e), is_free_no st (.int i) (by intro i e; cases e), is_number_int i st⟩
  | bl b => exact ⟨_, _, _, kinds_no st (.bl b) (by intro i e; cases e) (by intro i e; cases e), is_name_no st (.bl b) (by intro i e; cases e), is_free_no st (.bl b) (by intro i e; cases e), is_number_no st (.bl b) (by intro i e; cases e)⟩
  | non => exact ⟨_, _, _, kinds_no st .non (by intro i e; cases e) (by intro i e; cases e), is_name_no st .non (by intro i e; cases e), is_free_no st .non (by intro i e; cases e), is_number_no st .non (by intro i e; cases e)⟩
  | lst b => exact ⟨_, _, _, kinds_no st (.lst b) (by intro i e; cases e) (by intro i e; cases e), is_name_no st (.lst b) (by intro i e; cases e), is_free_no st (.lst b) (by intro i e; cases e), is_number_no st (.lst b) (by intro i e; cases e)⟩
  | tup b => exact ⟨_, _, _, kinds_no st (.tup b) (by intro i e; cases e) (by intro i e; cases e), is_name_no st (.tup b) (by intro i e; cases e), is_free_no st (.tup b) (by intro i e; cases e), is_number_no st (.tup b) (by intro i e; cases e)⟩
  | dct k b => exact ⟨_, _, _, kinds_no st (.dct k b) (by intro i e; cases e) (by intro i e; cases e), is_name_no st (.dct k b) (by intro i e; cases e), is_free_no st (.dct k b) (by intro i e; cases e), is_number_no st (.dct k b) (by intro i e; cases e)⟩
/-! ### what the law draws -/
theorem cell_ok (ns : List Int) (k : Nat) (st : S) : op_l_cell_at [.lst (ns.map W.int), .int k] st = .ok (.int (ns.getD k 0)) st := by
  unfold op_l_cell_at
  rw [ev_op2]
  unfold r_l_cell_at
  rw [ev_seq, ev_if, ev_run2, ev_v1, ev_ok, ev_runN, ev_cons, ev_v0, ev_ok, ev_nil, ev_ok, ev_ok, ev_lenL, ev_ok, ev_ltI, ev_ok, kIf_bl, List.length_map]
  by_cases h : (k : Int) < (ns.length : Int)
  · have hk : k < ns.length := by omega
    have e : atI (ns.map W.int) (k : Int) = some (.int (ns.getD k 0)) := at_nat _ _ _ (by rw [List.getElem?_map, List.getElem?_eq_getElem hk]; simp [hk])
    rw [decide_eq_true h, if_pos rfl, ret_ok (w := .int (ns.getD k 0)) (by rw [ev_run2, ev_v0, ev_ok, ev_v1, ev_ok]; exact ev_idxL _ _ _ e), ev_ok]; rfl
  · have hk : ns.length ≤ k := by omega
    rw [decide_eq_false h, if_neg Bool.false_ne_true, ev_pass, ev_ok, kSeq_nx, ret_ok (w := .int 0) rfl]
    simp [hk]; rfl
theorem call_cell {ns : List Int} {Γ : Ga} {st : S} (k : Nat) : runN (runsCons (rVar 0) (runsCons (rCon (W.int k)) runsNil)) (calmOp op_l_cell_at) (some (.lst (ns.map W.int)) :: Γ) st = .ok (.int (ns.getD k 0)) st := by
  rw [ev_runN, ev_cons, ev_v0, ev_ok, ev_cons, ev_con, ev_ok, ev_nil, ev_ok, ev_ok, ev_ok, ev_calmOp, cell_ok]; rfl
/-- a text of at most n signs -/
def StrE (r : R W) (st : S) (n : Nat) : Prop := ∃ z : Str, z.length ≤ n ∧ r = .ok (.str z) st
theorem app_len (x y : Str) : (x ++ y).length = x.length + y.length := by
  show (x.cps ++ y.cps).size = _
  rw [Array.size_append]; rfl
theorem se_add {a b : Run} {Γ : Ga} {st : S} {n m : Nat} (h : StrE (a Γ st) st n) (h' : StrE (b Γ st) st m) (hl : n + m ≤ 1000) : StrE (run2 a b opAdd Γ st) st (n + m) := by
  obtain ⟨x, hx, ex⟩ := h
  obtain ⟨y, hy, ey⟩ := h'
  refine ⟨x ++ y, by rw [app_len]; omega, ?_⟩
  rw [ev_run2, ex, ev_ok, ey, ev_ok]
  exact ev_addS x y (size_small (by omega))
theorem se_con (z : Str) (n : Nat) (h : z.length ≤ n) {Γ : Ga} {st : S} : StrE (rCon (.str z) Γ st) st n := ⟨z, h, rfl⟩
theorem se_slNS {a b : Run} {Γ : Ga} {st : S} {n : Nat} {i : Int} (h : StrE (a Γ st) st n) (h' : b Γ st = .ok (.int i) st) (hl : n ≤ 1000) : StrE (runSlNS false a b Γ st) st n := by
  obtain ⟨x, hx, ex⟩ := h
  refine ⟨Txt.slice x none (some i), Nat.le_trans (Txt.slice_le x _ _) hx, ?_⟩
  unfold runSlNS
  rw [ex, ev_ok, h', ev_ok]
  show (if x.length ≤ sizeLine then R.ok (W.str (Txt.slice x none (some i))) st else .stuck) = _
  rw [if_pos (size_small (by omega))]
theorem se_slSN {a b : Run} {Γ : Ga} {st : S} {n : Nat} {i : Int} (h : StrE (a Γ st) st n) (h' : b Γ st = .ok (.int i) st) (hl : n ≤ 1000) : StrE (runSlSN false a b Γ st) st n := by
  obtain ⟨x, hx, ex⟩ := h
  refine ⟨Txt.slice x (some i) none, Nat.le_trans (Txt.slice_le x _ _) hx, ?_⟩
  unfold runSlSN
  rw [ex, ev_ok, h', ev_ok]
  show (if x.length ≤ sizeLine then R.ok (W.str (Txt.slice x (some i) none)) st else .stuck) = _
  rw [if_pos (size_small (by omega))]
theorem se_slSS {a b c : Run} {Γ : Ga} {st : S} {n : Nat} {i j : Int} (h : StrE (a Γ st) st n) (h' : b Γ st = .ok (.int i) st) (h2 : c Γ st = .ok (.int j) st) (hl : n ≤ 1000) : StrE (runSlSS false a b c Γ st) st n := by
  obtain ⟨x, hx, ex⟩ := h
  refine ⟨Txt.slice x (some i) (some j), Nat.le_trans (Txt.slice_le x _ _) hx, ?_⟩
  unfold runSlSS
  rw [ex, ev_ok, h', ev_ok]
  show ((c Γ st).bind fun h st3 => (match h with | .int j => opSl false (some i) (some j) (W.str x) st3 | _ => .stuck)) = _
  rw [h2, ev_ok]
  show (if x.length ≤ sizeLine then R.ok (W.str (Txt.slice x (some i) (some j))) st else .stuck) = _
  rw [if_pos (size_small (by omega))]
/-- a sign of a written text -/
theorem se_sign {a b : Run} {Γ : Ga} {st : S} {x : Str} {i : Int} (h : a Γ st = .ok (.str x) st) (h' : b Γ st = .ok (.int i) st) (hl : x.length ≤ 1000) (h0 : 0 ≤ i) (h1 : i < x.length) : StrE (run2 a b opIdx Γ st) st 1 := by
  have : x.cps.toList.length = x.length := by simp [Str.length]
  obtain ⟨c, hc, _⟩ := at_in x.cps.toList i h0 (by rw [this]; exact h1)
  refine ⟨⟨#[c]⟩, Nat.le_refl _, ?_⟩
  rw [ev_run2, h, ev_ok, h', ev_ok]
  exact ev_idxS x i c (size_small hl) hc
theorem mod_run {a : Run} {Γ : Ga} {st : S} {i j : Int} (h : a Γ st = .ok (.int i) st) (hj : 0 < j) : run2 a (rCon (W.int j)) opMod Γ st = .ok (.int (i % j)) st := by
  rw [ev_run2, h, ev_ok, ev_con, ev_ok, ev_modI i j hj]
theorem div_run {a : Run} {Γ : Ga} {st : S} {i j : Int} (h : a Γ st = .ok (.int i) st) (hj : 0 < j) (hj' : j < 1073741824) : run2 a (rCon (W.int j)) opDiv Γ st = .ok (.int (i / j)) st := by
  rw [ev_run2, h, ev_ok, ev_con, ev_ok, ev_divI i j hj hj']
theorem eq_run {a : Run} {Γ : Ga} {st : S} {i j : Int} (h : a Γ st = .ok (.int i) st) : run2 a (rCon (W.int j)) opEq Γ st = .ok (.bl (i == j)) st := by
  rw [ev_run2, h, ev_ok, ev_con, ev_ok, ev_eqI]
theorem add_run {a b : Run} {Γ : Ga} {st : S} {i j : Int} (h : a Γ st = .ok (.int i) st) (h' : b Γ st = .ok (.int j) st) : run2 a b opAdd Γ st = .ok (.int (i + j)) st := by
  rw [ev_run2, h, ev_ok, h', ev_ok, ev_addI]
theorem mul_run {a b : Run} {Γ : Ga} {st : S} {i j : Int} (h : a Γ st = .ok (.int i) st) (h' : b Γ st = .ok (.int j) st) (hj : -1000 ≤ j) (hj' : j ≤ 1000) : run2 a b opMul Γ st = .ok (.int (i * j)) st := by
  rw [ev_run2, h, ev_ok, h', ev_ok]
  exact ev_mulI i j (.inr ⟨by omega, by omega⟩)
def wordBody : RunS := (sSeq (sSet 2 (run2 (rVar 2) (run2 (rVar 1) (run2 (run2 (run2 (run2 (rVar 0) (rCon (W.int 11)) opDiv) (run2 (run2 (rCon (W.int 7)) (rVar 3) opMul) (rVar 3) opMul) opAdd) (rVar 3) opAdd) (rCon (W.int 26)) opMod) opIdx) opAdd)) sPass)
theorem word_turn (c k : Int) (z : Str) (st : S) (h0 : 0 ≤ k) (h1 : k ≤ 100) (hz : z.length ≤ 100) : ∃ z' : Str, z'.length ≤ z.length + 1 ∧ wordBody [some (.int c), some (.str abc), some (.str z), some (.int k)] st = .ok (.nx [some (.int c), some (.str abc), some (.str z'), some (.int k)]) st := by
  have e1 : run2 (run2 (rCon (W.int 7)) (rVar 3) opMul) (rVar 3) opMul [some (.int c), some (.str abc), some (.str z), some (.int k)] st = .ok (.int (7 * k * k)) st := mul_run (mul_run rfl rfl (by omega) (by omega)) rfl (by omega) (by omega)
  have e2 := mod_run (j := 26) (add_run (add_run (div_run (a := rVar 0) (Γ := [some (.int c), some (.str abc), some (.str z), some (.int k)]) (st := st) (i := c) (j := 11) rfl (by decide) (by decide)) e1) (b := rVar 3) (j := k) rfl) (by decide)
  obtain ⟨z', hz', e3⟩ := se_add (n := z.length) (m := 1) (a := rVar 2) (Γ := [some (.int c), some (.str abc), some (.str z), some (.int k)]) (st := st) ⟨z, Nat.le_refl _, rfl⟩ (se_sign (a := rVar 1) (x := abc) rfl e2 (by decide) (Int.emod_nonneg _ (by decide)) (Int.emod_lt_of_pos _ (by decide))) (by omega)
  refine ⟨z', hz', ?_⟩
  unfold wordBody
  rw [ev_seq, ev_set, e3]; rfl
theorem word_loop (c : Int) (st : S) : ∀ (items : List W) (z : Str) (k0 : Option W), (∀ w ∈ items, ∃ k : Int, w = .int k ∧ 0 ≤ k ∧ k ≤ 100) → z.length + items.length ≤ 100 →
    ∃ (z' : Str) (k' : Option W), z'.length ≤ z.length + items.length ∧ loopS 3 wordBody items [some (.int c), some (.str abc), some (.str z), k0] st = .ok (.nx [some (.int c), some (.str abc), some (.str z'), k']) st
  | [], z, k0, _, _ => ⟨z, k0, Nat.le_refl _, rfl⟩
  | w :: ws, z, k0, h, hl => by
    obtain ⟨k, rfl, h0, h1⟩ := h w List.mem_cons_self
    rw [List.length_cons] at hl
    obtain ⟨z1, hz1, e1⟩ := word_turn c k z st h0 h1 (by omega)
    obtain ⟨z2, k2, hz2, e2⟩ := word_loop c st ws z1 (some (.int k)) (fun w hw => h w (List.mem_cons_of_mem _ hw)) (by omega)
    refine ⟨z2, k2, by rw [List.length_cons]; omega, ?_⟩
    show ((wordBody [some (.int c), some (.str abc), some (.str z), some (.int k)] st).bind _) = _
    rw [e1]; exact e2
theorem word_ok (c : Int) (st : S) : StrE (op_l_word_by [.int c] st) st 10 := by
  have hm0 := Int.emod_nonneg c (show (11 : Int) ≠ 0 by decide)
  have hm1 := Int.emod_lt_of_pos c (show (0 : Int) < 11 by decide)
  obtain ⟨z, k, hz, e⟩ := word_loop c st (rangeW 0 (c % 11).toNat) "" none (fun w hw => by
    unfold rangeW at hw
    obtain ⟨i, hi, rfl⟩ := List.mem_map.mp hw
    have := List.mem_range.mp hi
    exact ⟨0 + i, rfl, by omega, by omega⟩) (by
      show 0 + (rangeW 0 (c % 11).toNat).length ≤ 100
      unfold rangeW; rw [List.length_map, List.length_range]; omega)
  have hlen : (rangeW 0 (c % 11).toNat).length = (c % 11).toNat := by unfold rangeW; rw [List.length_map, List.length_range]
  refine ⟨z, by rw [hlen] at hz; have : ("" : Str).length = 0 := rfl; omega, ?_⟩
  unfold op_l_word_by
  rw [ev_op1]
  unfold r_l_word_by
  have hf : sFor 3 (runRng1 (run2 (rVar 0) (rCon (W.int 11)) opMod)) wordBody [some (.int c), some (.str abc), some (.str ""), none] st = .ok (.nx [some (.int c), some (.str abc), some (.str z), k]) st := by
    have hs : runRng1 (run2 (rVar 0) (rCon (W.int 11)) opMod) [some (.int c), some (.str abc), some (.str ""), none] st = .ok (rangeW 0 (c % 11).toNat) st := by
      unfold runRng1
      rw [mod_run (i := c) rfl (by decide), ev_ok]
      exact if_pos (show inRange (c % 11) from ⟨by omega, by omega⟩)
    unfold sFor
    rw [hs, ev_ok]; exact e
  rw [ev_seq, ev_set, ev_con, ev_ok, ev_ok, kSeq_nx, ev_seq, ev_set, ev_con, ev_ok, ev_ok, kSeq_nx]
  show leave false st (sSeq (sFor 3 (runRng1 (run2 (rVar 0) (rCon (W.int 11)) opMod)) wordBody) (sSeq (sRet (rVar 2)) sPass) [some (.int c), some (.str abc), some (.str ""), none] st) = _
  rw [ev_seq, hf, ev_ok, kSeq_nx, ret_ok (w := .str z) rfl]; rfl
theorem sign_ok (c : Int) (st : S) : StrE (op_l_sign_by [.int c] st) st 1 := by
  have e : op_l_sign_by [.int c] st = leave false st (sSeq (sRet (run2 (rVar 1) (run2 (rVar 0) (rCon (W.int 96)) opMod) opIdx)) sPass [some (.int c), some (.str ((" !\"#$&'()*+,-./0123456789:;<=>?@ABCDEFGHIJKLMNOPQRSTUVWXYZ[\\]^_`" : Str) ++ ("abcdefghijklmnopqrstuvwxyz{|}~\n\t" : Str)))] st) := rfl
  obtain ⟨z, hz, ez⟩ := se_sign (a := rVar 1) (b := run2 (rVar 0) (rCon (W.int 96)) opMod) (Γ := [some (.int c), some (.str ((" !\"#$&'()*+,-./0123456789:;<=>?@ABCDEFGHIJKLMNOPQRSTUVWXYZ[\\]^_`" : Str) ++ ("abcdefghijklmnopqrstuvwxyz{|}~\n\t" : Str)))]) (st := st) rfl (mod_run (i := c) rfl (by decide)) (by decide +kernel) (Int.emod_nonneg _ (by decide)) (Int.lt_of_lt_of_le (Int.emod_lt_of_pos _ (by decide)) (by decide +kernel))
  refine ⟨z, hz, ?_⟩
  rw [e, ret_ok ez]; rfl
end DL.My
namespace DL.My
open PySem L2
section
variable {Γ : Ga} {st : S}
theorem if_ret {rc e : Run} {rest : RunS} {w : W} (hc : rc Γ st = .ok (.bl true) st) (he : e Γ st = .ok w st) : sSeq (sIf rc (sSeq (sRet e) sPass) sPass) rest Γ st = .ok (.rt w) st := by
  rw [ev_seq, ev_if, hc, ev_ok, kIf_bl, if_pos rfl, ret_ok he]; rfl
theorem if_f {rc : Run} {A rest : RunS} (hc : rc Γ st = .ok (.bl false) st) : sSeq (sIf rc A sPass) rest Γ st = rest Γ st := by
  rw [ev_seq, ev_if, hc, ev_ok, kIf_bl, if_neg Bool.false_ne_true]; rfl
theorem if_t {rc : Run} {A rest : RunS} (hc : rc Γ st = .ok (.bl true) st) : sSeq (sIf rc A sPass) rest Γ st = (A Γ st).bind (kSeq rest) := by
  rw [ev_seq, ev_if, hc, ev_ok, kIf_bl, if_pos rfl]
theorem set_go {i : Nat} {r : Run} {rest : RunS} {w : W} {s : S} (h : r Γ st = .ok w s) : sSeq (sSet i r) rest Γ st = rest (Γ.set i (some w)) s := by
  rw [ev_seq, ev_set, h]; rfl
theorem set_to {i : Nat} {r : Run} {rest : RunS} {w : W} {s : S} (Γ' : Ga) (h : r Γ st = .ok w s) (hΓ : Γ.set i (some w) = Γ') : sSeq (sSet i r) rest Γ st = rest Γ' s := by
  rw [← hΓ]; exact set_go h
theorem callN1 {op : OpN} {r : Run} {w w' : W} {s s' : S} (h : r Γ st = .ok w s) (ho : op [w] s = .ok w' s') : runN (runsCons r runsNil) (calmOp op) Γ st = .ok w' s' := by
  rw [ev_runN, ev_cons, h, ev_ok, ev_nil, ev_ok, ev_ok, ev_calmOp, ho]; rfl
theorem bltN1 {op : OpN} {r : Run} {w w' : W} {s s' : S} (h : r Γ st = .ok w s) (ho : op [w] s = .ok w' s') : runN (runsCons r runsNil) op Γ st = .ok w' s' := by
  rw [ev_runN, ev_cons, h, ev_ok, ev_nil, ev_ok, ev_ok, ho]
theorem callN2 {op : OpN} {r r' : Run} {w w' w2 : W} (h : r Γ st = .ok w st) (h' : r' Γ st = .ok w' st) (ho : op [w, w'] st = .ok w2 st) : runN (runsCons r (runsCons r' runsNil)) (calmOp op) Γ st = .ok w2 st := by
  rw [ev_runN, ev_cons, h, ev_ok, ev_cons, h', ev_ok, ev_nil, ev_ok, ev_ok, ev_ok, ev_calmOp, ho]; rfl
theorem run2_of {a b : Run} {o : Op2} {x y w : W} {s1 s2 s3 : S} (ha : a Γ st = .ok x s1) (hb : b Γ s1 = .ok y s2) (ho : o x y s2 = .ok w s3) : run2 a b o Γ st = .ok w s3 := by
  rw [ev_run2, ha, ev_ok, hb, ev_ok, ho]
end
theorem ev_powI {st : S} (i j : Int) (h : CPow i j) : opPow (.int i) (.int j) st = .ok (.int (i ^ j.toNat)) st := if_pos h
theorem beq_t {i j : Int} (h : i = j) : (i == j) = true := by simpa using h
theorem beq_f {i j : Int} (h : ¬ i = j) : (i == j) = false := by simpa using h
/-- an item of a written list -/
theorem pick {ws : List W} {i : Int} (st : S) (h0 : 0 ≤ i) (h1 : i < ws.length) : ∃ w ∈ ws, opIdx (.lst ws) (.int i) st = .ok w st := by
  obtain ⟨w, hw, hm⟩ := at_in ws i h0 h1
  exact ⟨w, hm, ev_idxL ws i w hw⟩
def kw2 : List Str := kw ++ (["rule", "gather", "told", "of", "from", "yes", "no", "nothing", "and", "or", "fact", "counts"] : List Str)
def kw3 : List Str := kw2 ++ (["leas", "mos", "whys", "nota", "wet", "isa", "bya", "ifs", "plu", "sums", "hast", "sames"] : List Str)
theorem thing_ok (ns : List Int) (st : S) : ∃ w, Thing w ∧ op_l_thing_by [.lst (ns.map W.int)] st = .ok w st := by
  obtain ⟨z, hz, ez⟩ := word_ok (ns.getD 1 0) st
  unfold op_l_thing_by
  rw [ev_op1]
  unfold r_l_thing_by
  generalize hS : W.lst (ns.map W.int) = Sc
  have cc0 : ∀ (i : Int) (k : Nat), (k : Int) = i → ∀ Γ : Ga, runN (runsCons (rVar 0) (runsCons (rCon (W.int i)) runsNil)) (calmOp op_l_cell_at) (some Sc :: Γ) st = .ok (.int (ns.getD k 0)) st := fun i k e Γ => by rw [← hS, ← e]; exact call_cell k
  show ∃ w, Thing w ∧ leave false st (sSeq _ _ [some Sc, none, none, none, none, none, none] st) = .ok w st
  rw [set_to [some Sc, some (.int (ns.getD 0 0)), none, none, none, none, none] (cc0 0 0 rfl _) rfl, set_to [some Sc, some (.int (ns.getD 0 0)), some (.str z), none, none, none, none] (callN1 (cc0 1 1 rfl _) ez) rfl]
  have hat : ∀ Γ : Ga, run2 (runN (runsCons (rVar 0) (runsCons (rCon (W.int 2)) runsNil)) (calmOp op_l_cell_at)) (run2 (runN (runsCons (rVar 2) runsNil) opLen) (rCon (W.int 1)) opAdd) opMod (some Sc :: some (.int (ns.getD 0 0)) :: some (.str z) :: Γ) st = .ok (.int (ns.getD 2 0 % ((z.length : Int) + 1))) st := fun Γ =>
    run2_of (cc0 2 2 rfl _) (run2_of (bltN1 (ev_v2 _ _ _) (ev_lenS z (size_small (by omega)))) (ev_con _) (ev_addI _ _)) (ev_modI _ _ (by omega))
  generalize hat' : ns.getD 2 0 % ((z.length : Int) + 1) = at' at hat
  rw [set_to [some Sc, some (.int (ns.getD 0 0)), some (.str z), some (.int at'), none, none, none] (hat _) rfl]
  generalize hc : ns.getD 0 0 = c0
  have t7 : ∀ (k : Int) (Γ : Ga), run2 (run2 (rVar 1) (rCon (W.int 7)) opMod) (rCon (W.int k)) opEq (some Sc :: some (.int c0) :: Γ) st = .ok (.bl (c0 % 7 == k)) st := fun k Γ => eq_run (mod_run (i := c0) rfl (by decide))
  have d7 : ∀ (j : Int) (Γ : Ga), 0 < j → run2 (run2 (rVar 1) (rCon (W.int 7)) opDiv) (rCon (W.int j)) opMod (some Sc :: some (.int c0) :: Γ) st = .ok (.int (c0 / 7 % j)) st := fun j Γ hj => mod_run (div_run (i := c0) rfl (by decide) (by decide)) hj
  have hsign : ∀ Γ : Ga, StrE (runN (runsCons (runN (runsCons (rVar 0) (runsCons (rCon (W.int 3)) runsNil)) (calmOp op_l_cell_at)) runsNil) (calmOp op_l_sign_by) (some Sc :: Γ) st) st 1 := fun Γ => by
    obtain ⟨y, hy, ey⟩ := sign_ok (ns.getD 3 0) st
    exact ⟨y, hy, callN1 (cc0 3 3 rfl _) ey⟩
  have hword : ∀ (a b : Option W) (Γ : Ga), StrE (rVar 2 (a :: b :: some (.str z) :: Γ) st) st 10 := fun a b Γ => ⟨z, hz, rfl⟩
  by_cases h1 : c0 % 7 = 1
  · rw [if_t (by rw [t7, beq_t h1])]
    obtain ⟨g, hg, eg⟩ := se_sign (a := rCon (W.str "ABCDEFGHIJKLMNOPQRSTUVWXYZ")) (Γ := [some Sc, some (.int c0), some (.str z), some (.int at'), none, none, none]) (st := st) rfl (mod_run (j := 26) (cc0 2 2 rfl _) (by decide)) (by decide) (Int.emod_nonneg _ (by decide)) (Int.emod_lt_of_pos _ (by decide))
    rw [set_to [some Sc, some (.int c0), some (.str z), some (.int at'), some (.str g), none, none] eg rfl]
    have hgr : ∀ (a b c d : Option W) (Γ : Ga), StrE (rVar 4 (a :: b :: c :: d :: some (.str g) :: Γ) st) st 1 := fun a b c d Γ => ⟨g, hg, rfl⟩
    by_cases h2 : c0 / 7 % 3 = 1
    · obtain ⟨y, hy, ey⟩ := se_add (se_add (se_add (hgr (some Sc) (some (.int c0)) (some (.str z)) (some (.int at')) [none, none]) (se_slNS (i := at') (b := rVar 3) (hword _ _ _) rfl (by decide)) (by decide)) (hsign _) (by decide)) (se_slSS (i := at') (j := at' + 6) (hword _ _ _) (b := rVar 3) (c := run2 (rVar 3) (rCon (W.int 6)) opAdd) rfl (add_run rfl rfl) (by decide)) (by decide)
      rw [if_ret (by rw [eq_run (d7 3 _ (by decide)), beq_t h2]) ey]
      exact ⟨.str y, .str y (by omega), rfl⟩
    · obtain ⟨y, hy, ey⟩ := se_add (hgr (some Sc) (some (.int c0)) (some (.str z)) (some (.int at')) [none, none]) (hword _ _ _) (by decide)
      rw [if_f (by rw [eq_run (d7 3 _ (by decide)), beq_f h2]), ret_ok ey]
      exact ⟨.str y, .str y (by omega), rfl⟩
  rw [if_f (by rw [t7, beq_f h1])]
  by_cases h2 : c0 % 7 = 2
  · have hi : runN (runsCons (run2 (run2 (run2 (rVar 1) (rCon (W.int 7)) opDiv) (rCon (W.int 2)) opMod) (rCon (W.int 1)) opEq) runsNil) opInt [some Sc, some (.int c0), some (.str z), some (.int at'), none, none, none] st = .ok (.int (if (c0 / 7 % 2 == 1) = true then 1 else 0)) st := bltN1 (eq_run (d7 2 _ (by decide))) rfl
    obtain ⟨y, hy, ey⟩ := se_add (se_add (se_slNS (i := at') (hword (some Sc) (some (.int c0)) [some (.int at'), none, none, none]) (b := rVar 3) rfl (by decide)) (hsign _) (by decide)) (se_slSN (hword _ _ _) (add_run (a := rVar 3) (i := at') rfl hi) (by decide)) (by decide)
    rw [if_ret (by rw [t7, beq_t h2]) ey]
    exact ⟨.str y, .str y (by omega), rfl⟩
  rw [if_f (by rw [t7, beq_f h2])]
  by_cases h3 : c0 % 7 = 3
  · rw [if_t (by rw [t7, beq_t h3])]
    have m0 := Int.emod_nonneg (c0 / 7) (show (37 : Int) ≠ 0 by decide)
    have m1 := Int.emod_lt_of_pos (c0 / 7) (show (0 : Int) < 37 by decide)
    obtain ⟨w, hw, ew⟩ := pick (ws := (kw3).map W.str) st m0 (by rw [List.length_map]; exact m1)
    obtain ⟨x, hx, rfl⟩ := List.mem_map.mp hw
    have hxl : x.length ≤ 100 := by
      have hall : ∀ x ∈ kw3, x.length ≤ 100 := by decide +kernel
      exact hall x hx
    refine ⟨.str x, .str x hxl, ?_⟩
    rw [set_to (w := .lst (kw.map W.str)) (s := st) [some Sc, some (.int c0), some (.str z), some (.int at'), none, some (W.lst (kw.map W.str)), none] rfl rfl, set_to (w := .lst (kw2.map W.str)) (s := st) [some Sc, some (.int c0), some (.str z), some (.int at'), none, some (W.lst (kw2.map W.str)), none] rfl rfl, set_to (w := .lst (kw3.map W.str)) (s := st) [some Sc, some (.int c0), some (.str z), some (.int at'), none, some (W.lst (kw3.map W.str)), none] rfl rfl]
    rw [ret_ok (run2_of rfl (d7 37 _ (by decide)) ew)]; rfl
  rw [if_f (by rw [t7, beq_f h3])]
  by_cases h4 : c0 % 7 = 4
  · rw [if_t (by rw [t7, beq_t h4])]
    have hp : ∀ Γ : Ga, run2 (rCon (W.int 10)) (rCon (W.int 60)) opPow Γ st = .ok (.int (10 ^ 60)) st := fun Γ => run2_of rfl rfl (ev_powI 10 60 (by decide))
    rw [set_to [some Sc, some (.int c0), some (.str z), some (.int at'), none, none, some (.int (ns.getD 3 0 % 10 ^ 60))] (run2_of (cc0 3 3 rfl _) (hp _) (ev_modI _ _ (by decide))) rfl]
    generalize ns.getD 3 0 % 10 ^ 60 = nn
    have m0 := Int.emod_nonneg (c0 / 7) (show (6 : Int) ≠ 0 by decide)
    have m1 := Int.emod_lt_of_pos (c0 / 7) (show (0 : Int) < 6 by decide)
    obtain ⟨w, hw, ew⟩ := pick (ws := [.int (nn % 1999999999 - 999999999), .int 999999999, .int (-999999999), .int 1000000000, .int (-1000000000), .int nn]) st m0 (by exact m1)
    refine ⟨w, ?_, ?_⟩
    · simp only [List.mem_cons, List.not_mem_nil, or_false] at hw
      rcases hw with rfl | rfl | rfl | rfl | rfl | rfl <;> exact .int _
    · rw [ret_ok (run2_of (x := .lst [.int (nn % 1999999999 - 999999999), .int 999999999, .int (-999999999), .int 1000000000, .int (-1000000000), .int nn]) (s1 := st) rfl (d7 6 _ (by decide)) ew)]; rfl
  rw [if_f (by rw [t7, beq_f h4])]
  by_cases h5 : c0 % 7 = 5
  · have m0 := Int.emod_nonneg (c0 / 7) (show (6 : Int) ≠ 0 by decide)
    have m1 := Int.emod_lt_of_pos (c0 / 7) (show (0 : Int) < 6 by decide)
    obtain ⟨w, hw, ew⟩ := pick (ws := [.bl true, .bl false, .non, .lst [.str z], .tup [.str z], .dct [] []]) st m0 (by exact m1)
    refine ⟨w, ?_, ?_⟩
    · simp only [List.mem_cons, List.not_mem_nil, or_false] at hw
      rcases hw with rfl | rfl | rfl | rfl | rfl | rfl
      · exact .bl _
      · exact .bl _
      · exact .non
      · exact .lst _
      · exact .tup _
      · exact .dct _ _
    · rw [if_ret (by rw [t7, beq_t h5]) (run2_of (x := .lst [.bl true, .bl false, .non, .lst [.str z], .tup [.str z], .dct [] []]) (s1 := st) rfl (d7 6 _ (by decide)) ew)]; rfl
  rw [if_f (by rw [t7, beq_f h5])]
  exact ⟨.str z, .str z (by omega), by rw [ret_ok (w := .str z) rfl]; rfl⟩
end DL.My
namespace DL.My
open PySem L2
/-! ### the order of facts -/
inductive Va where
  | i (n : Int)
  | s (x : Str)
  deriving DecidableEq
def Va.w : Va → W
  | .i n => .int n
  | .s x => .str x
structure Fa where
  n : Str
  vs : List Va
  deriving DecidableEq
def Fa.w (f : Fa) : W := .tup (.str f.n :: f.vs.map Va.w)
def slt (a b : Str) : Bool := decide (a.cps.toList < b.cps.toList)
theorem str_ext {a b : Str} (h : a.cps.toList = b.cps.toList) : a = b := by
  cases a; cases b
  congr
  exact Array.toList_inj.mp h
theorem slt_tri (a b : Str) (h : ¬ a = b) : slt a b = !slt b a := by
  unfold slt
  have hn : ¬ a.cps.toList = b.cps.toList := fun e => h (str_ext e)
  by_cases q : a.cps.toList < b.cps.toList
  · have q' : ¬ b.cps.toList < a.cps.toList := fun h' => List.lt_asymm q h'
    rw [decide_eq_true q, decide_eq_false q']; rfl
  · have h2 : b.cps.toList ≤ a.cps.toList := List.not_lt.mp q
    have h3 : b.cps.toList < a.cps.toList := by
      rcases Classical.em (b.cps.toList < a.cps.toList) with h3 | h3
      · exact h3
      · exact absurd (List.le_antisymm (List.not_lt.mp h3) h2) hn
    rw [decide_eq_false q, decide_eq_true h3]; rfl
def ltV : Va → Va → Bool
  | .i a, .i b => decide (a < b)
  | .i _, .s _ => true
  | .s _, .i _ => false
  | .s a, .s b => slt a b
def ltVs : List Va → List Va → Bool
  | x :: xs, y :: ys => if x = y then ltVs xs ys else ltV x y
  | [], _ :: _ => true
  | _, _ => false
def befVs : List Va → List Va → Bool
  | x :: xs, y :: ys => if x = y then befVs xs ys else ltV x y
  | _, _ => true
def ltF (a b : Fa) : Bool := if a.n = b.n then (if a.vs.length = b.vs.length then ltVs a.vs b.vs else decide (a.vs.length < b.vs.length)) else slt a.n b.n
def befF (a b : Fa) : Bool := if a.n = b.n then (if a.vs.length = b.vs.length then befVs a.vs b.vs else decide (a.vs.length < b.vs.length)) else slt a.n b.n
theorem ltV_tri (x y : Va) (h : ¬ x = y) : ltV x y = !ltV y x := by
  cases x with
  | i a =>
    cases y with
    | i b =>
      have : ¬ a = b := fun e => h (by rw [e])
      simp only [ltV]
      rcases Int.lt_trichotomy a b with q | q | q
      · simp [q, Int.not_lt.mpr (Int.le_of_lt q)]
      · exact absurd q this
      · simp [q, Int.not_lt.mpr (Int.le_of_lt q)]
    | s b => rfl
  | s a =>
    cases y with
    | i b => rfl
    | s b => exact slt_tri a b fun e => h (by rw [e])
theorem ltVs_total : ∀ (xs ys : List Va), xs.length = ys.length → (xs = ys ∧ ltVs xs ys = false ∧ ltVs ys xs = false ∧ befVs xs ys = true ∧ befVs ys xs = true) ∨ (¬ xs = ys ∧ ltVs xs ys = !ltVs ys xs ∧ befVs xs ys = ltVs xs ys ∧ befVs ys xs = ltVs ys xs)
  | [], [], _ => .inl ⟨rfl, rfl, rfl, rfl, rfl⟩
  | x :: xs, y :: ys, h => by
    by_cases e : x = y
    · subst e
      have r := ltVs_total xs ys (by simpa using h)
      simp only [ltVs, befVs, if_pos]
      rcases r with ⟨a, b, c, d, f⟩ | ⟨a, b, c, d⟩
      · exact .inl ⟨by rw [a], b, c, d, f⟩
      · exact .inr ⟨fun q => a (List.cons.inj q).2, b, c, d⟩
    · have e' : ¬ y = x := fun q => e q.symm
      refine .inr ⟨fun q => e (List.cons.inj q).1, ?_, ?_, ?_⟩
      · simp only [ltVs, if_neg e, if_neg e']; exact ltV_tri x y e
      · simp only [ltVs, befVs, if_neg e]
      · simp only [ltVs, befVs, if_neg e']
theorem ltF_total (a b : Fa) : (a = b ∧ ltF a b = false ∧ ltF b a = false ∧ befF a b = true ∧ befF b a = true) ∨ (¬ a = b ∧ ltF a b = !ltF b a ∧ befF a b = ltF a b ∧ befF b a = ltF b a) := by
  obtain ⟨n, vs⟩ := a
  obtain ⟨m, ws⟩ := b
  by_cases e : n = m
  · subst e
    by_cases l : vs.length = ws.length
    · simp only [ltF, befF, if_pos, if_pos l, if_pos l.symm]
      rcases ltVs_total vs ws l with ⟨a, b, c, d, f⟩ | ⟨a, b, c, d⟩
      · exact .inl ⟨by rw [a], b, c, d, f⟩
      · exact .inr ⟨fun q => a (Fa.mk.inj q).2, b, c, d⟩
    · have l' : ¬ ws.length = vs.length := fun q => l q.symm
      simp only [ltF, befF, if_pos, if_neg l, if_neg l']
      refine .inr ⟨fun q => l (by rw [(Fa.mk.inj q).2]), ?_, trivial, trivial⟩
      by_cases q : vs.length < ws.length
      · simp [q, Nat.not_lt.mpr (Nat.le_of_lt q)]
      · have : ws.length < vs.length := by omega
        simp [q, this]
  · have e' : ¬ m = n := fun q => e q.symm
    simp only [ltF, befF, if_neg e, if_neg e']
    exact .inr ⟨fun q => e (Fa.mk.inj q).1, slt_tri n m e, trivial, trivial⟩
/-! ### ranks -/
def rv : Va → W
  | .i n => .tup [.int 0, .int n]
  | .s x => .tup [.int 1, .str x]
def rankW (f : Fa) : W := .tup [.str f.n, .int (f.vs.length + 1), .tup (f.vs.map rv)]
theorem rank_value_ok (v : Va) (st : S) : op_rank_of_value [v.w] st = .ok (rv v) st := by cases v <;> rfl
theorem beq_dec {α : Type} [DecidableEq α] [BEq α] [LawfulBEq α] (a b : α) : (a == b) = decide (a = b) := by
  by_cases h : a = b
  · simp [h]
  · simp [h]
theorem eqV_va (a b : Va) : eqK 5 a.w b.w = some (decide (a = b)) := by
  cases a with
  | i n => cases b with
    | i m =>
      show some (n == m) = _
      rw [beq_dec]; simp
    | s y => show some false = _; simp
  | s x => cases b with
    | i m => show some false = _; simp
    | s y =>
      show some (x == y) = _
      rw [beq_dec]; simp
theorem eqK_rv (a b : Va) : eqK 5 (rv a) (rv b) = some (decide (a = b)) := by
  cases a with
  | i n => cases b with
    | i m =>
      show some ((((0 : Int) == 0) && ((n == m) && true)) && (2 == 2)) = _
      rw [beq_dec n m]; simp
    | s y => show some ((((0 : Int) == 1) && (false && true)) && (2 == 2)) = _; simp
  | s x => cases b with
    | i m => show some ((((1 : Int) == 0) && (false && true)) && (2 == 2)) = _; simp
    | s y =>
      show some ((((1 : Int) == 1) && ((x == y) && true)) && (2 == 2)) = _
      rw [beq_dec x y]; simp
theorem ltK_rv (a b : Va) (h : ¬ a = b) : ltK 5 (rv a) (rv b) = some (ltV a b) := by
  cases a with
  | i n => cases b with
    | i m =>
      have hn : ¬ n = m := fun e => h (by rw [e])
      show (match some (n == m) with | some true => some false | some false => some (decide (n < m)) | none => none) = _
      rw [beq_dec, decide_eq_false hn]; rfl
    | s y => rfl
  | s x => cases b with
    | i m => rfl
    | s y =>
      have hn : ¬ x = y := fun e => h (by rw [e])
      show (match some (x == y) with | some true => some false | some false => some (decide (x.cps.toList < y.cps.toList)) | none => none) = _
      rw [beq_dec, decide_eq_false hn]; rfl
/-- items compared, any == that decides -/
theorem items_eq {α : Type} [DecidableEq α] (f : W → W → Option Bool) (g : α → W) (hf : ∀ a b, f (g a) (g b) = some (decide (a = b))) : ∀ xs ys : List α, ∃ r, eqItems f (xs.map g) (ys.map g) = some r ∧ (xs.length = ys.length → r = decide (xs = ys))
  | [], ys => ⟨true, by cases ys <;> rfl, fun h => by cases ys with | nil => rfl | cons => simp at h⟩
  | x :: xs, [] => ⟨true, rfl, fun h => by simp at h⟩
  | x :: xs, y :: ys => by
    obtain ⟨r, e, h⟩ := items_eq f g hf xs ys
    refine ⟨decide (x = y) && r, ?_, fun hl => ?_⟩
    · show (match f (g x) (g y), eqItems f (xs.map g) (ys.map g) with | some a, some b => some (a && b) | _, _ => none) = _
      rw [hf, e]
    · rw [h (by simpa using hl)]
      by_cases e1 : x = y
      · by_cases e2 : xs = ys
        · simp [e1, e2]
        · simp [e1, e2]
      · simp [e1]
theorem lex_rv : ∀ xs ys : List Va, xs.length = ys.length → lexK (eqK 5) (ltK 5) (xs.map rv) (ys.map rv) = some (ltVs xs ys)
  | [], [], _ => rfl
  | x :: xs, y :: ys, h => by
    show (match eqK 5 (rv x) (rv y) with | some true => lexK (eqK 5) (ltK 5) (xs.map rv) (ys.map rv) | some false => ltK 5 (rv x) (rv y) | none => none) = _
    rw [eqK_rv]
    unfold ltVs
    by_cases e : x = y
    · rw [decide_eq_true e, if_pos e]
      exact lex_rv xs ys (by simpa using h)
    · rw [decide_eq_false e, if_neg e]
      exact ltK_rv x y e
theorem eqK_tup (xs ys : List Va) (h : xs.length = ys.length) : eqK 6 (.tup (xs.map rv)) (.tup (ys.map rv)) = some (decide (xs = ys)) := by
  obtain ⟨r, e, hr⟩ := items_eq (eqK 5) rv eqK_rv xs ys
  show (eqItems (eqK 5) (xs.map rv) (ys.map rv)).map (fun r => r && (xs.map rv).length == (ys.map rv).length) = _
  rw [e, hr h, List.length_map, List.length_map, h]
  simp
theorem lex_rank (f g : Fa) : lexK (eqK 6) (ltK 6) [.str f.n, .int (f.vs.length + 1), .tup (f.vs.map rv)] [.str g.n, .int (g.vs.length + 1), .tup (g.vs.map rv)] = some (ltF f g) := by
  show (match some (f.n == g.n) with
    | some true => (match some ((((f.vs.length : Int) + 1)) == ((g.vs.length : Int) + 1)) with
      | some true => (match eqK 6 (.tup (f.vs.map rv)) (.tup (g.vs.map rv)) with
        | some true => some false
        | some false => lexK (eqK 5) (ltK 5) (f.vs.map rv) (g.vs.map rv)
        | none => none)
      | some false => some (decide ((f.vs.length : Int) + 1 < (g.vs.length : Int) + 1))
      | none => none)
    | some false => some (slt f.n g.n)
    | none => none) = _
  unfold ltF
  by_cases e : f.n = g.n
  · rw [beq_dec, decide_eq_true e, if_pos e]
    by_cases l : f.vs.length = g.vs.length
    · have l' : ((f.vs.length : Int) + 1) = (g.vs.length : Int) + 1 := by omega
      rw [beq_dec, decide_eq_true l', if_pos l, eqK_tup _ _ l]
      by_cases ev : f.vs = g.vs
      · rw [decide_eq_true ev, ev]
        rcases ltVs_total g.vs g.vs rfl with ⟨_, h, _⟩ | ⟨h, _⟩
        · rw [h]
        · exact absurd rfl h
      · rw [decide_eq_false ev]
        exact lex_rv _ _ l
    · have l' : ¬ ((f.vs.length : Int) + 1) = (g.vs.length : Int) + 1 := by omega
      rw [beq_dec, decide_eq_false l', if_neg l]
      show some (decide ((f.vs.length : Int) + 1 < (g.vs.length : Int) + 1)) = _
      congr 1
      apply decide_eq_decide.mpr
      omega
  · rw [beq_dec, decide_eq_false e, if_neg e]
theorem rank_ok (f : Fa) (st : S) (h : f.vs.length ≤ 100) : op_rank_of [f.w] st = .ok (rankW f) st := by
  unfold op_rank_of
  rw [ev_op1]
  unfold r_rank_of
  have hcut : runSlSN false (rVar 0) (rCon (W.int 1)) (some f.w :: List.replicate (1 - 1) none) st = .ok (.tup (f.vs.map Va.w)) st := by
    show R.ok (W.tup (cutW (.str f.n :: f.vs.map Va.w) (some 1) none)) st = _
    have : cutW (.str f.n :: f.vs.map Va.w) (some 1) none = f.vs.map Va.w := by
      unfold cutW
      rw [show HT.sIx (W.str f.n :: f.vs.map Va.w).length 0 (some 1) = 1 by
        have := HT.sIx_nat (W.str f.n :: f.vs.map Va.w).length 0 1
        rw [show ((1 : Nat) : Int) = 1 by rfl] at this
        rw [this, List.length_cons]; omega, HT.sIx_none]
      rw [List.drop_succ_cons, List.drop_zero, List.take_of_length_le (by rw [List.length_cons]; omega)]
    rw [this]
  have hc : runComp false (runSrc (runSlSN false (rVar 0) (rCon (W.int 1)))) [] (rCon (.bl true)) (runN (runsCons (rVar 0) runsNil) (calmOp op_rank_of_value)) (some f.w :: List.replicate (1 - 1) none) st = .ok (.lst ((f.vs.map Va.w).map fun w => match w with | .int n => rv (.i n) | .str x => rv (.s x) | w => w)) st := by
    refine comp_map _ (by unfold runSrc; rw [hcut]; rfl) (by rw [List.length_map]; exact big100 h) fun w hw => ?_
    obtain ⟨v, _, rfl⟩ := List.mem_map.mp hw
    rw [call1 (rank_value_ok v st)]
    cases v <;> rfl
  have em : ((f.vs.map Va.w).map fun w => match w with | .int n => rv (.i n) | .str x => rv (.s x) | w => w) = f.vs.map rv := by
    rw [List.map_map]
    apply List.map_congr_left
    intro v _
    cases v <;> rfl
  rw [em] at hc
  have ht : runN (runsCons (runComp false (runSrc (runSlSN false (rVar 0) (rCon (W.int 1)))) [] (rCon (.bl true)) (runN (runsCons (rVar 0) runsNil) (calmOp op_rank_of_value))) runsNil) opTuple (some f.w :: List.replicate (1 - 1) none) st = .ok (.tup (f.vs.map rv)) st :=
    bltN1 hc (ev_tup _ (by rw [List.length_map]; exact Nat.le_of_lt (big100 h)))
  have hi : run2 (rVar 0) (rCon (W.int 0)) opIdx (some f.w :: List.replicate (1 - 1) none) st = .ok (.str f.n) st := run2_of rfl rfl (ev_idxT _ _ _ (at_nat _ 0 _ rfl))
  have hlen : runN (runsCons (rVar 0) runsNil) opLen (some f.w :: List.replicate (1 - 1) none) st = .ok (.int (f.vs.length + 1)) st := by
    show R.ok (W.int ((W.str f.n :: f.vs.map Va.w).length : Nat)) st = _
    rw [List.length_cons, List.length_map]; rfl
  have hr : runN (runsCons (run2 (rVar 0) (rCon (W.int 0)) opIdx) (runsCons (runN (runsCons (rVar 0) runsNil) opLen) (runsCons (runN (runsCons (runComp false (runSrc (runSlSN false (rVar 0) (rCon (W.int 1)))) [] (rCon (.bl true)) (runN (runsCons (rVar 0) runsNil) (calmOp op_rank_of_value))) runsNil) opTuple) runsNil))) opTup (some f.w :: List.replicate (1 - 1) none) st = .ok (rankW f) st := by
    rw [ev_runN, ev_cons, hi, ev_ok, ev_cons, hlen, ev_ok, ev_cons, ht]; rfl
  rw [ret_ok hr]; rfl
theorem sort_ok (f g : Fa) (st : S) (hf : f.vs.length ≤ 100) (hg : g.vs.length ≤ 100) : opSort op_rank_of (.lst [f.w, g.w]) st = .ok (.lst (if ltF g f = true then [g.w, f.w] else [f.w, g.w])) st := by
  show ((op_rank_of [f.w] st).calm.bind fun k1 st1 => (op_rank_of [g.w] st1).calm.bind fun k2 st2 => srt2 f.w g.w k1 k2 st2) = _
  rw [rank_ok f st hf, ev_calm, ev_ok, rank_ok g st hg, ev_calm, ev_ok]
  show (if ([.int (f.vs.length + 1), .tup (f.vs.map rv)] : List W).length = ([.int (g.vs.length + 1), .tup (g.vs.map rv)] : List W).length then (match lexK (eqK 6) (ltK 6) [.str g.n, .int (g.vs.length + 1), .tup (g.vs.map rv)] [.str f.n, .int (f.vs.length + 1), .tup (f.vs.map rv)] with
    | some gt => R.ok (W.lst (if gt = true then [g.w, f.w] else [f.w, g.w])) st
    | none => .stuck) else .stuck) = _
  rw [if_pos (by rfl), lex_rank]
/-! ### == of facts and of ranks -/
theorem eqD_va (a b : Va) (n : Nat) : eqD (n + 1) a.w b.w = some (decide (a = b)) := by
  cases a with
  | i x => cases b with
    | i y =>
      show some (x == y) = _
      rw [beq_dec]; simp
    | s y => show some false = _; simp
  | s x => cases b with
    | i m => show some false = _; simp
    | s y =>
      show some (x == y) = _
      rw [beq_dec]; simp
theorem eqD_fact (f g : Fa) (n : Nat) : eqD (n + 2) f.w g.w = some (decide (f = g)) := by
  obtain ⟨r, e, hr⟩ := items_eq (eqD (n + 1)) Va.w (fun a b => eqD_va a b n) f.vs g.vs
  show (match some (f.n == g.n), eqItems (eqD (n + 1)) (f.vs.map Va.w) (g.vs.map Va.w) with | some a, some b => some (a && b) | _, _ => none).map (fun r => r && (W.str f.n :: f.vs.map Va.w).length == (W.str g.n :: g.vs.map Va.w).length) = _
  rw [e, beq_dec]
  show some ((decide (f.n = g.n) && r) && ((W.str f.n :: f.vs.map Va.w).length == (W.str g.n :: g.vs.map Va.w).length)) = _
  congr 1
  obtain ⟨fn, fv⟩ := f
  obtain ⟨gn, gv⟩ := g
  simp only [List.length_cons, List.length_map, Fa.mk.injEq] at *
  by_cases l : fv.length = gv.length
  · rw [hr l]; simp [l]
  · have : ¬ fv = gv := fun z => l (by rw [z])
    simp [l, this]
theorem eqD_rv (a b : Va) (n : Nat) : eqD (n + 2) (rv a) (rv b) = some (decide (a = b)) := by
  cases a with
  | i x => cases b with
    | i y =>
      show some ((((0 : Int) == 0) && ((x == y) && true)) && (2 == 2)) = _
      rw [beq_dec x y]; simp
    | s y => show some ((((0 : Int) == 1) && (false && true)) && (2 == 2)) = _; simp
  | s x => cases b with
    | i m => show some ((((1 : Int) == 0) && (false && true)) && (2 == 2)) = _; simp
    | s y =>
      show some ((((1 : Int) == 1) && ((x == y) && true)) && (2 == 2)) = _
      rw [beq_dec x y]; simp
theorem eqD_rank (f g : Fa) : eqD 12 (rankW f) (rankW g) = some (decide (f = g)) := by
  obtain ⟨r, e, hr⟩ := items_eq (eqD 10) rv (fun a b => eqD_rv a b 8) f.vs g.vs
  show (match some (f.n == g.n), (match some (((f.vs.length : Int) + 1) == ((g.vs.length : Int) + 1)), (match (eqItems (eqD 10) (f.vs.map rv) (g.vs.map rv)).map (fun r => r && (f.vs.map rv).length == (g.vs.map rv).length), some true with | some a, some b => some (a && b) | _, _ => none) with | some a, some b => some (a && b) | _, _ => none) with | some a, some b => some (a && b) | _, _ => none).map (fun r => r && (3 == 3)) = _
  rw [e, beq_dec, beq_dec]
  show some ((decide (f.n = g.n) && (decide (((f.vs.length : Int) + 1) = ((g.vs.length : Int) + 1)) && ((r && (f.vs.map rv).length == (g.vs.map rv).length) && true))) && (3 == 3)) = _
  congr 1
  obtain ⟨fn, fv⟩ := f
  obtain ⟨gn, gv⟩ := g
  simp only [List.length_map, Fa.mk.injEq] at *
  by_cases l : fv.length = gv.length
  · rw [hr l]; simp [l]
  · have : ¬ fv = gv := fun z => l (by rw [z])
    simp [l, this]
end DL.My
namespace DL.My
open PySem L2
/-! ### the law's own order -/
theorem range_succ (lo : Int) (n : Nat) : rangeW lo (n + 1) = W.int lo :: rangeW (lo + 1) n := by
  unfold rangeW
  rw [List.range_succ_eq_map, List.map_cons, List.map_map]
  congr 1
  · simp
  · apply List.map_congr_left
    intro i _
    show W.int (lo + ((i + 1 : Nat) : Int)) = W.int (lo + 1 + (i : Int))
    congr 1
    omega
def befBody : RunS := (sSeq (sIf (run2 (run2 (rVar 0) (rVar 2) opIdx) (run2 (rVar 1) (rVar 2) opIdx) opNe)
    (sSeq (sIf (run2 (runN (runsCons (run2 (rVar 0) (rVar 2) opIdx) (runsCons (rCon (.ty "int")) runsNil)) opIsi) (runN (runsCons (run2 (rVar 1) (rVar 2) opIdx) (runsCons (rCon (.ty "int")) runsNil)) opIsi) opNe)
    (sSeq (sRet (runN (runsCons (run2 (rVar 0) (rVar 2) opIdx) (runsCons (rCon (.ty "int")) runsNil)) opIsi))
  sPass)
    sPass)
  (sSeq (sRet (run2 (run2 (rVar 0) (rVar 2) opIdx) (run2 (rVar 1) (rVar 2) opIdx) opLt))
  sPass))
    sPass)
  sPass)
def isI : Va → Bool
  | .i _ => true
  | .s _ => false
theorem bef_turn {A B : W} {k : Int} {x y : Va} {st : S} (hx : opIdx A (.int k) st = .ok x.w st) (hy : opIdx B (.int k) st = .ok y.w st) :
    befBody [some A, some B, some (.int k)] st = if x = y then .ok (.nx [some A, some B, some (.int k)]) st else .ok (.rt (.bl (ltV x y))) st := by
  have ex : run2 (rVar 0) (rVar 2) opIdx [some A, some B, some (.int k)] st = .ok x.w st := run2_of rfl rfl hx
  have ey : run2 (rVar 1) (rVar 2) opIdx [some A, some B, some (.int k)] st = .ok y.w st := run2_of rfl rfl hy
  have ene : run2 (run2 (rVar 0) (rVar 2) opIdx) (run2 (rVar 1) (rVar 2) opIdx) opNe [some A, some B, some (.int k)] st = .ok (.bl (!decide (x = y))) st := by
    refine run2_of ex ey ?_
    show (match eqD 12 x.w y.w with | some r => R.ok (W.bl (!r)) st | none => .stuck) = _
    rw [eqD_va]
  have ix : runN (runsCons (run2 (rVar 0) (rVar 2) opIdx) (runsCons (rCon (.ty "int")) runsNil)) opIsi [some A, some B, some (.int k)] st = .ok (.bl (isI x)) st := by
    rw [ev_runN, ev_cons, ex]; cases x <;> rfl
  have iy : runN (runsCons (run2 (rVar 1) (rVar 2) opIdx) (runsCons (rCon (.ty "int")) runsNil)) opIsi [some A, some B, some (.int k)] st = .ok (.bl (isI y)) st := by
    rw [ev_runN, ev_cons, ey]; cases y <;> rfl
  unfold befBody
  by_cases e : x = y
  · rw [if_f (by rw [ene, decide_eq_true e]; rfl), if_pos e]; rfl
  · rw [if_t (by rw [ene, decide_eq_false e]; rfl), if_neg e]
    by_cases e2 : isI x = isI y
    · rw [if_f (by rw [run2_of ix iy (ev_neB _ _), e2]; simp)]
      have el : run2 (run2 (rVar 0) (rVar 2) opIdx) (run2 (rVar 1) (rVar 2) opIdx) opLt [some A, some B, some (.int k)] st = .ok (.bl (ltV x y)) st := by
        refine run2_of ex ey ?_
        cases x <;> cases y <;> first | rfl | (cases e2; done)
      rw [ret_ok el]; rfl
    · rw [if_ret (by rw [run2_of ix iy (ev_neB _ _)]; congr 2; simpa using e2) ix]
      have : isI x = ltV x y := by cases x <;> cases y <;> first | rfl | exact absurd rfl e2
      rw [this]; rfl
theorem bef_run {st : S} : ∀ (vs ws : List Va) (p q : List W) (k0 : Option W), vs.length = ws.length → p.length = q.length →
    leave false st ((loopS 2 befBody (rangeW p.length vs.length) [some (.tup (p ++ vs.map Va.w)), some (.tup (q ++ ws.map Va.w)), k0] st).bind (kSeq (sSeq (sRet (rCon (W.bl true))) sPass))) = .ok (.bl (befVs vs ws)) st
  | [], [], p, q, k0, _, _ => rfl
  | x :: xs, y :: ys, p, q, k0, hl, hp => by
    rw [List.length_cons, range_succ]
    have ax : opIdx (.tup (p ++ (x :: xs).map Va.w)) (.int p.length) st = .ok x.w st := ev_idxT _ _ _ (at_nat _ _ _ (by rw [List.getElem?_append_right (Nat.le_refl _)]; simp))
    have ay : opIdx (.tup (q ++ (y :: ys).map Va.w)) (.int p.length) st = .ok y.w st := ev_idxT _ _ _ (at_nat _ _ _ (by rw [hp, List.getElem?_append_right (Nat.le_refl _)]; simp))
    have turn := bef_turn ax ay
    have step : loopS 2 befBody (W.int p.length :: rangeW ((p.length : Int) + 1) xs.length) [some (.tup (p ++ (x :: xs).map Va.w)), some (.tup (q ++ (y :: ys).map Va.w)), k0] st =
        (befBody [some (.tup (p ++ (x :: xs).map Va.w)), some (.tup (q ++ (y :: ys).map Va.w)), some (.int p.length)] st).bind fun fl st' => match fl with
          | .nx Γ' => loopS 2 befBody (rangeW ((p.length : Int) + 1) xs.length) Γ' st'
          | .ct Γ' => loopS 2 befBody (rangeW ((p.length : Int) + 1) xs.length) Γ' st'
          | .bk Γ' => .ok (.nx Γ') st'
          | .rt w => .ok (.rt w) st' := rfl
    rw [step, turn]
    unfold befVs
    by_cases e : x = y
    · rw [if_pos e, if_pos e, ev_ok]
      have r := bef_run (st := st) xs ys (p ++ [x.w]) (q ++ [y.w]) (some (.int p.length)) (by simpa using hl) (by simp [hp])
      have e1 : ∀ (p : List W) (x : Va) (xs : List Va), p ++ (x :: xs).map Va.w = (p ++ [x.w]) ++ xs.map Va.w := fun p x xs => by simp
      rw [e1, e1]
      have e2 : ((p ++ [x.w]).length : Int) = (p.length : Int) + 1 := by simp
      rw [e2] at r
      exact r
    · rw [if_neg e, if_neg e, ev_ok]; rfl
theorem before_ok (f g : Fa) (st : S) (hf : f.vs.length ≤ 100) : op_l_before [f.w, g.w] st = .ok (.bl (befF f g)) st := by
  unfold op_l_before
  rw [ev_op2]
  unfold r_l_before
  have n1 : ∀ Γ : Ga, run2 (rVar 0) (rCon (W.int 0)) opIdx (some f.w :: Γ) st = .ok (.str f.n) st := fun Γ => run2_of rfl rfl (ev_idxT _ _ _ (at_nat _ 0 _ rfl))
  have n2 : ∀ Γ : Ga, run2 (rVar 1) (rCon (W.int 0)) opIdx (some f.w :: some g.w :: Γ) st = .ok (.str g.n) st := fun Γ => run2_of rfl rfl (ev_idxT _ _ _ (at_nat _ 0 _ rfl))
  have l1 : ∀ Γ : Ga, runN (runsCons (rVar 0) runsNil) opLen (some f.w :: Γ) st = .ok (.int (f.vs.length + 1)) st := fun Γ => by
    show R.ok (W.int ((W.str f.n :: f.vs.map Va.w).length : Nat)) st = _
    rw [List.length_cons, List.length_map]; rfl
  have l2 : ∀ Γ : Ga, runN (runsCons (rVar 1) runsNil) opLen (some f.w :: some g.w :: Γ) st = .ok (.int (g.vs.length + 1)) st := fun Γ => by
    show R.ok (W.int ((W.str g.n :: g.vs.map Va.w).length : Nat)) st = _
    rw [List.length_cons, List.length_map]; rfl
  unfold befF
  by_cases e : f.n = g.n
  · rw [if_f (by rw [run2_of (n1 _) (n2 _) (ev_neS _ _), e]; simp), if_pos e]
    by_cases l : f.vs.length = g.vs.length
    · rw [if_f (by rw [run2_of (l1 _) (l2 _) (ev_neI _ _), l]; simp), if_pos l]
      have hs : runRng2 (rCon (W.int 1)) (runN (runsCons (rVar 0) runsNil) opLen) (some f.w :: some g.w :: List.replicate (3 - 2) none) st = .ok (rangeW 1 f.vs.length) st := by
        unfold runRng2
        rw [ev_con, ev_ok, l1, ev_ok]
        show (if inRange 1 ∧ inRange ((f.vs.length : Int) + 1) then R.ok (rangeW 1 ((f.vs.length : Int) + 1 - 1).toNat) st else .stuck) = _
        rw [if_pos ⟨by decide, by unfold inRange; omega⟩]
        congr 2
        omega
      have r := bef_run (st := st) f.vs g.vs [.str f.n] [.str g.n] none l rfl
      rw [ev_seq]
      have hfor : sFor 2 (runRng2 (rCon (W.int 1)) (runN (runsCons (rVar 0) runsNil) opLen)) befBody (some f.w :: some g.w :: List.replicate (3 - 2) none) st = loopS 2 befBody (rangeW 1 f.vs.length) [some f.w, some g.w, none] st := by
        unfold sFor
        rw [hs, ev_ok]; rfl
      show leave false st ((sFor 2 (runRng2 (rCon (W.int 1)) (runN (runsCons (rVar 0) runsNil) opLen)) befBody (some f.w :: some g.w :: List.replicate (3 - 2) none) st).bind _) = _
      rw [hfor]
      exact r
    · have l' : ¬ ((f.vs.length : Int) + 1) = (g.vs.length : Int) + 1 := by omega
      rw [if_ret (by rw [run2_of (l1 _) (l2 _) (ev_neI _ _)]; congr 2; simpa using l') (run2_of (l1 _) (l2 _) (ev_ltI _ _)), if_neg l]
      show R.ok (W.bl (decide ((f.vs.length : Int) + 1 < (g.vs.length : Int) + 1))) st = _
      congr 2
      apply decide_eq_decide.mpr
      omega
  · rw [if_ret (by rw [run2_of (n1 _) (n2 _) (ev_neS _ _)]; congr 2; simpa using e) (run2_of (n1 _) (n2 _) (ev_ltS _ _)), if_neg e]; rfl
/-! ### what is drawn: values, names, facts -/
theorem letter_ok (c b : Int) (st : S) (h0 : 0 < b) (h1 : b < 1000) : ∃ z : Str, op_l_letter_in [.int c, .int b] st = .ok (.str z) st := by
  unfold op_l_letter_in
  rw [ev_op2]
  unfold r_l_letter_in
  show ∃ z : Str, leave false st (sSeq _ _ [some (.int c), some (.int b), none, none] st) = .ok (.str z) st
  rw [set_to [some (.int c), some (.int b), some (.int (c % 8)), none] (mod_run (i := c) rfl (by decide)) rfl]
  have hd : run2 (run2 (rVar 0) (rCon (W.int 8)) opDiv) (rVar 1) opDiv [some (.int c), some (.int b), some (.int (c % 8)), none] st = .ok (.int (c / 8 / b)) st := run2_of (div_run (i := c) rfl (by decide) (by decide)) rfl (ev_divI _ _ h0 (by omega))
  obtain ⟨l, hl, el⟩ := se_sign (a := rCon (W.str "abcdefghijklmnopqrstuvwxyz")) (Γ := [some (.int c), some (.int b), some (.int (c % 8)), none]) (st := st) rfl (mod_run (j := 26) hd (by decide)) (by decide) (Int.emod_nonneg _ (by decide)) (Int.emod_lt_of_pos _ (by decide))
  rw [set_to [some (.int c), some (.int b), some (.int (c % 8)), some (.str l)] el rfl]
  obtain ⟨y, hy, ey⟩ := se_add (se_add (se_slNS (a := rCon (W.str "qrstuvwx")) (b := rVar 2) (i := c % 8) (Γ := [some (.int c), some (.int b), some (.int (c % 8)), some (.str l)]) (st := st) (n := 8) (se_con _ 8 (by decide)) rfl (by decide)) (b := rVar 3) (m := 1) ⟨l, hl, rfl⟩ (by decide)) (se_slSN (a := rCon (W.str "qrstuvwx")) (b := run2 (rVar 2) (rCon (W.int 1)) opAdd) (i := c % 8 + 1) (n := 8) (se_con _ 8 (by decide)) (add_run rfl rfl) (by decide)) (by decide)
  exact ⟨y, by rw [ret_ok ey]; rfl⟩
theorem value_ok (c : Int) (st : S) : ∃ v : Va, op_l_value_by [.int c] st = .ok v.w st := by
  unfold op_l_value_by
  rw [ev_op1]
  unfold r_l_value_by
  show ∃ v : Va, leave false st (sSeq _ _ [some (.int c)] st) = .ok v.w st
  by_cases h1 : c % 2 = 0
  · rw [if_ret (by rw [eq_run (mod_run (i := c) rfl (by decide)), beq_t h1]) (run2_of (mod_run (div_run (i := c) rfl (by decide) (by decide)) (by decide)) rfl (ev_subI _ _))]
    exact ⟨.i _, rfl⟩
  rw [if_f (by rw [eq_run (mod_run (i := c) rfl (by decide)), beq_f h1])]
  by_cases h2 : c / 2 % 3 = 0
  · obtain ⟨w, hw, ew⟩ := pick (ws := (["a", "b", "ab", "abc", "ba", "zz"] : List Str).map W.str) (i := c / 6 % 6) st (Int.emod_nonneg _ (by decide)) (Int.emod_lt_of_pos _ (by decide))
    obtain ⟨x, _, rfl⟩ := List.mem_map.mp hw
    rw [if_ret (by rw [eq_run (mod_run (div_run (i := c) rfl (by decide) (by decide)) (by decide)), beq_t h2]) (run2_of (x := .lst ((["a", "b", "ab", "abc", "ba", "zz"] : List Str).map W.str)) (s1 := st) rfl (mod_run (div_run (i := c) rfl (by decide) (by decide)) (by decide)) ew)]
    exact ⟨.s x, rfl⟩
  rw [if_f (by rw [eq_run (mod_run (div_run (i := c) rfl (by decide) (by decide)) (by decide)), beq_f h2])]
  obtain ⟨z, ez⟩ := letter_ok (c / 6) 1 st (by decide) (by decide)
  rw [ret_ok (callN2 (div_run (i := c) rfl (by decide) (by decide)) rfl ez)]
  exact ⟨.s z, rfl⟩
/-- a comprehension whose elements are values -/
theorem comp_vals {re : Run} {Γc : Ga} {st : S} : ∀ (items : List W) (acc : List Va), (∀ x ∈ items, ∃ v : Va, re (some x :: Γc) st = .ok v.w st) →
    ∃ vs : List Va, vs.length = items.length ∧ compGo (rCon (.bl true)) re Γc items (acc.map Va.w) st = .ok ((acc ++ vs).map Va.w) st
  | [], acc, _ => ⟨[], rfl, by simp [compGo]⟩
  | x :: xs, acc, h => by
    obtain ⟨v, ev⟩ := h x List.mem_cons_self
    obtain ⟨vs, hl, e⟩ := comp_vals xs (acc ++ [v]) fun y hy => h y (List.mem_cons_of_mem _ hy)
    refine ⟨v :: vs, by simp [hl], ?_⟩
    show ((re (some x :: Γc) st).calm.bind fun y st2 => compGo (rCon (.bl true)) re Γc xs (acc.map Va.w ++ [y]) st2) = _
    rw [ev, ev_calm, ev_ok]
    have e1 : acc.map Va.w ++ [v.w] = (acc ++ [v]).map Va.w := by simp
    have e2 : acc ++ v :: vs = (acc ++ [v]) ++ vs := by simp
    rw [e1, e, e2]
end DL.My
namespace DL.My
open PySem L2
def factsBody : RunS := (sSeq (sSetIx (rVar 2) (rVar 3) (runN (runsCons (runN (runsCons (rVar 0) (runsCons (rCon (W.int 11)) runsNil)) (calmOp op_l_cell_at)) runsNil) (calmOp op_l_value_by))) (sSeq (sIf (run2 (run2 (run2 (runN (runsCons (rVar 0) (runsCons (rCon (W.int 5)) runsNil)) (calmOp op_l_cell_at)) (rCon (W.int 5)) opDiv) (rCon (W.int 3)) opMod) (rCon (W.int 1)) opEq) (sSeq (sSet 2 (runSlNS false (rVar 2) (rVar 3))) sPass) sPass) (sSeq (sIf (run2 (run2 (run2 (runN (runsCons (rVar 0) (runsCons (rCon (W.int 5)) runsNil)) (calmOp op_l_cell_at)) (rCon (W.int 5)) opDiv) (rCon (W.int 3)) opMod) (rCon (W.int 2)) opEq) (sSeq (sSet 2 (runSlNS false (rVar 2) (run2 (rVar 3) (rCon (W.int 1)) opAdd))) sPass) sPass) sPass)))
def factsRest : RunS := (sSeq (sSet 4 (runN (runsCons (rCon (W.str "road")) (runsCons (run2 (runN (runsCons (rCon (W.str "road")) (runsCons (rCon (W.str "roads")) (runsCons (rCon (W.str "road")) (runsCons (rCon (W.str "road")) (runsCons (rCon (W.str "roac")) (runsCons (rCon (W.str "a")) runsNil)))))) (opL false)) (run2 (run2 (runN (runsCons (rVar 0) (runsCons (rCon (W.int 4)) runsNil)) (calmOp op_l_cell_at)) (rCon (W.int 5)) opDiv) (rCon (W.int 6)) opMod) opIdx) runsNil)) (opL false))) (sSeq (sIf (run2 (run2 (run2 (runN (runsCons (rVar 0) (runsCons (rCon (W.int 4)) runsNil)) (calmOp op_l_cell_at)) (rCon (W.int 30)) opDiv) (rCon (W.int 3)) opMod) (rCon (W.int 1)) opEq) (sSeq (sSet 5 (runN (runsCons (rVar 0) (runsCons (rCon (W.int 12)) runsNil)) (calmOp op_l_cell_at))) (sSeq (sSet 4 (runN (runsCons (runN (runsCons (rVar 5) (runsCons (rCon (W.int 1)) runsNil)) (calmOp op_l_letter_in)) (runsCons (runN (runsCons (rVar 5) (runsCons (rCon (W.int 26)) runsNil)) (calmOp op_l_letter_in)) runsNil)) (opL false))) sPass)) sPass) (sSeq (sRet (runN (runsCons (runN (runsCons (run2 (runN (runsCons (run2 (rVar 4) (rCon (W.int 0)) opIdx) runsNil) (opL false)) (rVar 1) opAdd) runsNil) opTuple) (runsCons (runN (runsCons (run2 (runN (runsCons (run2 (rVar 4) (rCon (W.int 1)) opIdx) runsNil) (opL false)) (rVar 2) opAdd) runsNil) opTuple) runsNil)) (opL false))) sPass)))
/-- a list of values, as it lies -/
def Sec (w : W) (s : S) (us : List Va) : Prop := w = .lst (us.map Va.w) ∨ ∃ n, w = .ref n ∧ MO.items (s.mu n) = some (us.map Va.w)
theorem cut_vals (us : List Va) (lo hi : Option Int) : ∃ us' : List Va, us'.length ≤ us.length ∧ cutW (us.map Va.w) lo hi = us'.map Va.w := by
  unfold cutW
  rw [← List.map_drop, ← List.map_take]
  exact ⟨_, by rw [List.length_take, List.length_drop]; omega, rfl⟩
theorem sec_slice {w : W} {s : S} {us : List Va} (h : Sec w s us) (hl : us.length ≤ 100) (i : Int) : ∃ us' : List Va, us'.length ≤ us.length ∧ opSl false none (some i) w s = .ok (.lst (us'.map Va.w)) s := by
  obtain ⟨us', hu, e⟩ := cut_vals us none (some i)
  refine ⟨us', hu, ?_⟩
  have fin : opLst (us'.map Va.w) s = .ok (.lst (us'.map Va.w)) s := if_pos (by rw [List.length_map]; exact Nat.le_of_lt (big100 (by omega)))
  rcases h with rfl | ⟨n, rfl, hm⟩
  · show opLst (cutW (us.map Va.w) none (some i)) s = _
    rw [e, fin]
  · show (match MO.items (s.mu n) with | some ws => opLst (cutW ws none (some i)) s | none => .stuck) = _
    rw [hm]
    show opLst (cutW (us.map Va.w) none (some i)) s = _
    rw [e, fin]
theorem sec_cat {w x : W} {s : S} {us : List Va} (h : Sec w s us) (hl : us.length ≤ 100) : opAdd (.lst [x]) w s = .ok (.lst (x :: us.map Va.w)) s := by
  have fin : catO (some [x]) (some (us.map Va.w)) s = .ok (.lst (x :: us.map Va.w)) s := if_pos (by rw [List.length_map]; show 1 + us.length ≤ sizeLine; exact Nat.le_of_lt (Nat.lt_of_le_of_lt (show 1 + us.length ≤ 101 by omega) (by decide)))
  rcases h with rfl | ⟨n, rfl, hm⟩
  · exact fin
  · show catO (some [x]) (MO.items (s.mu n)) s = _
    rw [hm]; exact fin
theorem facts_rest (ns : List Int) (f1 us : List Va) (w2 : W) (ai : Int) (st s : S) (hf : f1.length ≤ 100) (hu : us.length ≤ 100) (h : Sec w2 s us) :
    ∃ (f g : Fa) (st' : S), f.vs.length ≤ 100 ∧ g.vs.length ≤ 100 ∧ leave true st (factsRest [some (.lst (ns.map W.int)), some (.lst (f1.map Va.w)), some w2, some (.int ai), none, none] s) = .ok (.lst [f.w, g.w]) st' := by
  generalize hS : W.lst (ns.map W.int) = Sc
  have cc0 : ∀ (i : Int) (k : Nat), (k : Int) = i → ∀ Γ : Ga, runN (runsCons (rVar 0) (runsCons (rCon (W.int i)) runsNil)) (calmOp op_l_cell_at) (some Sc :: Γ) s = .ok (.int (ns.getD k 0)) s := fun i k e Γ => by rw [← hS, ← e]; exact call_cell k
  have last : ∀ (a b : Str) (Γ : Option W), ∃ (f g : Fa) (st' : S), f.vs.length ≤ 100 ∧ g.vs.length ≤ 100 ∧ leave true st (sSeq (sRet (runN (runsCons (runN (runsCons (run2 (runN (runsCons (run2 (rVar 4) (rCon (W.int 0)) opIdx) runsNil) (opL false)) (rVar 1) opAdd) runsNil) opTuple) (runsCons (runN (runsCons (run2 (runN (runsCons (run2 (rVar 4) (rCon (W.int 1)) opIdx) runsNil) (opL false)) (rVar 2) opAdd) runsNil) opTuple) runsNil)) (opL false))) sPass [some Sc, some (.lst (f1.map Va.w)), some w2, some (.int ai), some (.lst [.str a, .str b]), Γ] s) = .ok (.lst [f.w, g.w]) st' := by
    intro a b Γ
    have e1 : runN (runsCons (run2 (runN (runsCons (run2 (rVar 4) (rCon (W.int 0)) opIdx) runsNil) (opL false)) (rVar 1) opAdd) runsNil) opTuple [some Sc, some (.lst (f1.map Va.w)), some w2, some (.int ai), some (.lst [.str a, .str b]), Γ] s = .ok (.tup (.str a :: f1.map Va.w)) s :=
      bltN1 (run2_of (x := .lst [.str a]) (s1 := s) rfl rfl (sec_cat (.inl rfl) hf)) (ev_tup _ (by rw [List.length_cons, List.length_map]; exact Nat.le_of_lt (Nat.lt_of_le_of_lt (show f1.length + 1 ≤ 101 by omega) (by decide))))
    have e2 : runN (runsCons (run2 (runN (runsCons (run2 (rVar 4) (rCon (W.int 1)) opIdx) runsNil) (opL false)) (rVar 2) opAdd) runsNil) opTuple [some Sc, some (.lst (f1.map Va.w)), some w2, some (.int ai), some (.lst [.str a, .str b]), Γ] s = .ok (.tup (.str b :: us.map Va.w)) s :=
      bltN1 (run2_of (x := .lst [.str b]) (s1 := s) rfl rfl (sec_cat h hu)) (ev_tup _ (by rw [List.length_cons, List.length_map]; exact Nat.le_of_lt (Nat.lt_of_le_of_lt (show us.length + 1 ≤ 101 by omega) (by decide))))
    refine ⟨⟨a, f1⟩, ⟨b, us⟩, fin true st s, hf, hu, ?_⟩
    rw [ret_ok (w := .lst [.tup (.str a :: f1.map Va.w), .tup (.str b :: us.map Va.w)]) (by rw [ev_runN, ev_cons, e1, ev_ok, ev_cons, e2]; rfl)]; rfl
  unfold factsRest
  obtain ⟨w, hw, ew⟩ := pick (ws := (["road", "roads", "road", "road", "roac", "a"] : List Str).map W.str) (i := ns.getD 4 0 / 5 % 6) s (Int.emod_nonneg _ (by decide)) (Int.emod_lt_of_pos _ (by decide))
  obtain ⟨x, _, rfl⟩ := List.mem_map.mp hw
  have hn : runN (runsCons (rCon (W.str "road")) (runsCons (run2 (runN (runsCons (rCon (W.str "road")) (runsCons (rCon (W.str "roads")) (runsCons (rCon (W.str "road")) (runsCons (rCon (W.str "road")) (runsCons (rCon (W.str "roac")) (runsCons (rCon (W.str "a")) runsNil)))))) (opL false)) (run2 (run2 (runN (runsCons (rVar 0) (runsCons (rCon (W.int 4)) runsNil)) (calmOp op_l_cell_at)) (rCon (W.int 5)) opDiv) (rCon (W.int 6)) opMod) opIdx) runsNil)) (opL false) [some Sc, some (.lst (f1.map Va.w)), some w2, some (.int ai), none, none] s = .ok (.lst [.str "road", .str x]) s := by
    rw [ev_runN, ev_cons, ev_con, ev_ok, ev_cons, run2_of (x := .lst ((["road", "roads", "road", "road", "roac", "a"] : List Str).map W.str)) (s1 := s) rfl (mod_run (div_run (cc0 4 4 rfl _) (by decide) (by decide)) (by decide)) ew]; rfl
  rw [set_to [some Sc, some (.lst (f1.map Va.w)), some w2, some (.int ai), some (.lst [.str "road", .str x]), none] hn rfl]
  by_cases h1 : ns.getD 4 0 / 30 % 3 = 1
  · rw [if_t (by rw [eq_run (mod_run (div_run (cc0 4 4 rfl _) (by decide) (by decide)) (by decide)), beq_t h1])]
    rw [set_to [some Sc, some (.lst (f1.map Va.w)), some w2, some (.int ai), some (.lst [.str "road", .str x]), some (.int (ns.getD 12 0))] (cc0 12 12 rfl _) rfl]
    obtain ⟨a, ea⟩ := letter_ok (ns.getD 12 0) 1 s (by decide) (by decide)
    obtain ⟨b, eb⟩ := letter_ok (ns.getD 12 0) 26 s (by decide) (by decide)
    rw [set_to [some Sc, some (.lst (f1.map Va.w)), some w2, some (.int ai), some (.lst [.str a, .str b]), some (.int (ns.getD 12 0))] (w := .lst [.str a, .str b]) (s := s) (by rw [ev_runN, ev_cons, callN2 (w := .int (ns.getD 12 0)) rfl rfl ea, ev_ok, ev_cons, callN2 (w := .int (ns.getD 12 0)) rfl rfl eb]; rfl) rfl]
    exact last a b _
  · rw [if_f (by rw [eq_run (mod_run (div_run (cc0 4 4 rfl _) (by decide) (by decide)) (by decide)), beq_f h1])]
    exact last "road" x _
theorem new_mu (st : S) (o : MO) : (st.new o).mu st.nxt = some o := if_pos rfl
theorem put_mu (st : S) (n : Nat) (o : MO) : (st.put n o).mu n = some o := if_pos rfl
theorem facts_ok (ns : List Int) (st : S) : ∃ (f g : Fa) (st' : S), f.vs.length ≤ 100 ∧ g.vs.length ≤ 100 ∧ op_l_facts_by [.lst (ns.map W.int)] st = .ok (.lst [f.w, g.w]) st' := by
  have m0 := Int.emod_nonneg (ns.getD 4 0) (show (5 : Int) ≠ 0 by decide)
  have m1 := Int.emod_lt_of_pos (ns.getD 4 0) (show (0 : Int) < 5 by decide)
  have hlen : (rangeW 0 (ns.getD 4 0 % 5).toNat).length = (ns.getD 4 0 % 5).toNat := by unfold rangeW; rw [List.length_map, List.length_range]
  have cc0 : ∀ (s : S) (i : Int) (k : Nat), (k : Int) = i → ∀ Γ : Ga, runN (runsCons (rVar 0) (runsCons (rCon (W.int i)) runsNil)) (calmOp op_l_cell_at) (some (.lst (ns.map W.int)) :: Γ) s = .ok (.int (ns.getD k 0)) s := fun s i k e Γ => by rw [← e]; exact call_cell k
  obtain ⟨vs, hvl, hvs⟩ := comp_vals (re := runN (runsCons (runN (runsCons (rVar 1) (runsCons (run2 (rCon (W.int 6)) (rVar 0) opAdd) runsNil)) (calmOp op_l_cell_at)) runsNil) (calmOp op_l_value_by)) (Γc := [some (.lst (ns.map W.int))]) (st := st) (rangeW 0 (ns.getD 4 0 % 5).toNat) [] (fun w hw => by
    unfold rangeW at hw
    obtain ⟨i, _, rfl⟩ := List.mem_map.mp hw
    obtain ⟨v, ev⟩ := value_ok (ns.getD (6 + i) 0) st
    refine ⟨v, callN1 (callN2 rfl (add_run rfl rfl) ?_) ev⟩
    have e : (6 : Int) + (0 + (i : Int)) = ((6 + i : Nat) : Int) := by omega
    rw [e]; exact cell_ok ns (6 + i) st)
  have hv4 : vs.length ≤ 4 := by rw [hvl, hlen]; omega
  have hfirst : (runComp false (runRng1 (run2 (runN (runsCons (rVar 0) (runsCons (rCon (W.int 4)) runsNil)) (calmOp op_l_cell_at)) (rCon (W.int 5)) opMod)) [0] (rCon (.bl true)) (runN (runsCons (runN (runsCons (rVar 1) (runsCons (run2 (rCon (W.int 6)) (rVar 0) opAdd) runsNil)) (calmOp op_l_cell_at)) runsNil) (calmOp op_l_value_by))) [some (.lst (ns.map W.int)), none, none, none, none, none] st = .ok (.lst (vs.map Va.w)) st := by
    have hsrc : runRng1 (run2 (runN (runsCons (rVar 0) (runsCons (rCon (W.int 4)) runsNil)) (calmOp op_l_cell_at)) (rCon (W.int 5)) opMod) [some (.lst (ns.map W.int)), none, none, none, none, none] st = .ok (rangeW 0 (ns.getD 4 0 % 5).toNat) st := by
      unfold runRng1
      rw [mod_run (cc0 st 4 4 rfl _) (by decide), ev_ok]
      exact if_pos (show inRange (ns.getD 4 0 % 5) from ⟨by omega, by omega⟩)
    unfold runComp
    rw [hsrc, ev_ok, if_pos (by rw [hlen]; exact big100 (by omega))]
    show (compGo _ _ [some (.lst (ns.map W.int))] _ (([] : List Va).map Va.w) st).bind _ = _
    rw [hvs, ev_ok, List.nil_append]
    exact ev_lst _ (by rw [List.length_map]; exact Nat.le_of_lt (big100 (by omega)))
  unfold op_l_facts_by
  rw [ev_op1]
  unfold r_l_facts_by
  show ∃ (f g : Fa) (st' : S), f.vs.length ≤ 100 ∧ g.vs.length ≤ 100 ∧ leave true st (sSeq _ (sSeq _ (sSeq _ (sSeq (sIf _ factsBody sPass) factsRest))) [some (.lst (ns.map W.int)), none, none, none, none, none] st) = .ok (.lst [f.w, g.w]) st'
  rw [set_to [some (.lst (ns.map W.int)), some (.lst (vs.map Va.w)), none, none, none, none] hfirst rfl]
  have hl2 : runN (runsCons (rVar 1) runsNil) (opList true) [some (.lst (ns.map W.int)), some (.lst (vs.map Va.w)), none, none, none, none] st = .ok (.ref st.nxt) (st.new (.lst (vs.map Va.w))) := by
    refine bltN1 (ev_v1 _ _) ?_
    show opNewL (vs.map Va.w) st = _
    exact if_pos (by rw [List.length_map]; exact Nat.le_of_lt (big100 (by omega)))
  rw [set_to [some (.lst (ns.map W.int)), some (.lst (vs.map Va.w)), some (.ref st.nxt), none, none, none] hl2 rfl]
  generalize hs1 : st.new (.lst (vs.map Va.w)) = s1
  have hm1 : s1.mu st.nxt = some (.lst (vs.map Va.w)) := by rw [← hs1]; exact new_mu _ _
  rw [set_to [some (.lst (ns.map W.int)), some (.lst (vs.map Va.w)), some (.ref st.nxt), some (.int (ns.getD 5 0 % 5)), none, none] (mod_run (cc0 s1 5 5 rfl _) (by decide)) rfl]
  have a0 := Int.emod_nonneg (ns.getD 5 0) (show (5 : Int) ≠ 0 by decide)
  generalize ns.getD 5 0 % 5 = ai at *
  have hcond : run2 (rVar 3) (runN (runsCons (rVar 1) runsNil) opLen) opLt [some (.lst (ns.map W.int)), some (.lst (vs.map Va.w)), some (.ref st.nxt), some (.int ai), none, none] s1 = .ok (.bl (decide (ai < (vs.length : Int)))) s1 := by
    refine run2_of rfl (bltN1 (ev_v1 _ _) (ev_lenL _)) ?_
    rw [List.length_map]; rfl
  by_cases hc : ai < (vs.length : Int)
  · rw [if_t (by rw [hcond, decide_eq_true hc])]
    obtain ⟨v, ev⟩ := value_ok (ns.getD 11 0) s1
    have hix : ixN (vs.map Va.w).length ai = some ai.toNat := by
      unfold ixN
      rw [if_pos a0, List.length_map, if_pos hc]
    have hset : sSetIx (rVar 2) (rVar 3) (runN (runsCons (runN (runsCons (rVar 0) (runsCons (rCon (W.int 11)) runsNil)) (calmOp op_l_cell_at)) runsNil) (calmOp op_l_value_by)) [some (.lst (ns.map W.int)), some (.lst (vs.map Va.w)), some (.ref st.nxt), some (.int ai), none, none] s1 = .ok (.nx [some (.lst (ns.map W.int)), some (.lst (vs.map Va.w)), some (.ref st.nxt), some (.int ai), none, none]) (s1.put st.nxt (.lst ((vs.set ai.toNat v).map Va.w))) := by
      unfold sSetIx
      rw [callN1 (cc0 s1 11 11 rfl _) ev, ev_ok, ev_v2, ev_ok, ev_v3, ev_ok]
      show (putAt st.nxt ai v.w s1 (s1.mu st.nxt)).bind _ = _
      rw [hm1]
      show (match ixN (vs.map Va.w).length ai with | some j => R.ok () (s1.put st.nxt (.lst ((vs.map Va.w).set j v.w))) | none => .stuck).bind _ = _
      rw [hix, List.map_set]; rfl
    generalize hs2 : s1.put st.nxt (.lst ((vs.set ai.toNat v).map Va.w)) = s2 at hset
    have hm2 : MO.items (s2.mu st.nxt) = some ((vs.set ai.toNat v).map Va.w) := by rw [← hs2, put_mu]; rfl
    have sec2 : Sec (.ref st.nxt) s2 (vs.set ai.toNat v) := .inr ⟨_, rfl, hm2⟩
    have len2 : (vs.set ai.toNat v).length ≤ 100 := by rw [List.length_set]; omega
    generalize vs.set ai.toNat v = us at sec2 len2
    unfold factsBody
    rw [ev_seq, hset, ev_ok, kSeq_nx]
    -- two cuts that may be
    have cut1 : ∀ (w2 : W) (us : List Va), Sec w2 s2 us → us.length ≤ 100 → ∀ (hi : Run) (i : Int), hi [some (.lst (ns.map W.int)), some (.lst (vs.map Va.w)), some w2, some (.int ai), none, none] s2 = .ok (.int i) s2 → ∃ us' : List Va, us'.length ≤ 100 ∧ runSlNS false (rVar 2) hi [some (.lst (ns.map W.int)), some (.lst (vs.map Va.w)), some w2, some (.int ai), none, none] s2 = .ok (.lst (us'.map Va.w)) s2 := by
      intro w2 us hsec hl hi i hh
      obtain ⟨us', h1, h2⟩ := sec_slice hsec hl i
      refine ⟨us', by omega, ?_⟩
      unfold runSlNS
      rw [ev_v2, ev_ok, hh, ev_ok]; exact h2
    have tst : ∀ (j : Int) (w2 : W), run2 (run2 (run2 (runN (runsCons (rVar 0) (runsCons (rCon (W.int 5)) runsNil)) (calmOp op_l_cell_at)) (rCon (W.int 5)) opDiv) (rCon (W.int 3)) opMod) (rCon (W.int j)) opEq [some (.lst (ns.map W.int)), some (.lst (vs.map Va.w)), some w2, some (.int ai), none, none] s2 = .ok (.bl (ns.getD 5 0 / 5 % 3 == j)) s2 := fun j w2 => eq_run (mod_run (div_run (cc0 s2 5 5 rfl _) (by decide) (by decide)) (by decide))
    -- the second one, and the rest
    have two : ∀ (w2 : W) (us : List Va), Sec w2 s2 us → us.length ≤ 100 → ∃ (f g : Fa) (st' : S), f.vs.length ≤ 100 ∧ g.vs.length ≤ 100 ∧ leave true st ((sSeq (sIf (run2 (run2 (run2 (runN (runsCons (rVar 0) (runsCons (rCon (W.int 5)) runsNil)) (calmOp op_l_cell_at)) (rCon (W.int 5)) opDiv) (rCon (W.int 3)) opMod) (rCon (W.int 2)) opEq) (sSeq (sSet 2 (runSlNS false (rVar 2) (run2 (rVar 3) (rCon (W.int 1)) opAdd))) sPass) sPass) sPass [some (.lst (ns.map W.int)), some (.lst (vs.map Va.w)), some w2, some (.int ai), none, none] s2).bind (kSeq factsRest)) = .ok (.lst [f.w, g.w]) st' := by
      intro w2 us hsec hl
      by_cases h2 : ns.getD 5 0 / 5 % 3 = 2
      · rw [if_t (by rw [tst, beq_t h2])]
        obtain ⟨us', hl', e'⟩ := cut1 w2 us hsec hl (run2 (rVar 3) (rCon (W.int 1)) opAdd) (ai + 1) (add_run rfl rfl)
        rw [set_to [some (.lst (ns.map W.int)), some (.lst (vs.map Va.w)), some (.lst (us'.map Va.w)), some (.int ai), none, none] e' rfl]
        exact facts_rest ns vs us' _ ai st s2 (by omega) hl' (.inl rfl)
      · rw [if_f (by rw [tst, beq_f h2])]
        exact facts_rest ns vs us w2 ai st s2 (by omega) hl hsec
    by_cases h1 : ns.getD 5 0 / 5 % 3 = 1
    · rw [if_t (by rw [tst, beq_t h1])]
      obtain ⟨us', hl', e'⟩ := cut1 _ us sec2 len2 (rVar 3) ai rfl
      rw [set_to [some (.lst (ns.map W.int)), some (.lst (vs.map Va.w)), some (.lst (us'.map Va.w)), some (.int ai), none, none] e' rfl]
      exact two _ us' (.inl rfl) hl'
    · rw [if_f (by rw [tst, beq_f h1])]
      exact two _ us sec2 len2
  · rw [if_f (by rw [hcond, decide_eq_false hc])]
    exact facts_rest ns vs vs _ ai st s1 (by omega) (by omega) (.inr ⟨_, rfl, by rw [hm1]; rfl⟩)
end DL.My
namespace DL.My
open PySem L2
theorem eqD_self (f : Fa) (n : Nat) : eqD (n + 2) f.w f.w = some true := by rw [eqD_fact]; simp
theorem eq_pair (f g : Fa) : eqD 12 (.lst [f.w, g.w]) (.lst [f.w, g.w]) = some true := by
  show (match eqD 11 f.w f.w, (match eqD 11 g.w g.w, some true with | some a, some b => some (a && b) | _, _ => none) with | some a, some b => some (a && b) | _, _ => none) = some true
  rw [eqD_self f 9, eqD_self g 9]; rfl
theorem bools5 (a b c d e : Bool) (st : S) : runN (runsCons (runComp false (runSrc (rVar 3)) [] (rCon (.bl true)) (runN (runsCons (rVar 0) (runsCons (rCon (.ty "bool")) runsNil)) opIsi)) runsNil) opAll [x0, x1, x2, some (.lst [.bl a, .bl b, .bl c, .bl d, .bl e]), x4, x5] st = .ok (.bl true) st := rfl
theorem law_true : ∀ ns : List Int, ns.length ≤ 63 → ∃ st, op_law [.lst (ns.map W.int)] st0 = .ok (.bl true) st := by
  intro ns _
  obtain ⟨w, hw, ew⟩ := thing_ok ns st0
  obtain ⟨a, b, c, k1, k2, k3, k4⟩ := five st0 hw
  obtain ⟨f, g, s, hf, hg, ef⟩ := facts_ok ns st0
  have k5 := is_value_of k2 k4
  have k6 := is_term_of k5 k3
  unfold op_law
  rw [ev_op1]
  unfold r_law
  generalize W.lst (ns.map W.int) = Sc at *
  show ∃ st, leave false st0 (sSeq _ _ [some Sc, none, none, none, none, none] st0) = .ok (.bl true) st
  rw [set_to [some Sc, some w, none, none, none, none] (callN1 (ev_v0 _) ew) rfl]
  rw [set_to [some Sc, some w, some (.lst [.bl a, .bl b, .bl c]), none, none, none] (callN1 (ev_v1 _ _) k1) rfl]
  rw [set_to [some Sc, some w, some (.lst [.bl a, .bl b, .bl c, .bl (a || c), .bl (a || (b || c))]), none, none, none] (w := .lst [.bl a, .bl b, .bl c, .bl (a || c), .bl (a || (b || c))]) (s := st0) (by cases a <;> cases b <;> cases c <;> rfl) rfl]
  have hfound : runN (runsCons (runN (runsCons (rVar 1) runsNil) (calmOp op_is_name)) (runsCons (runN (runsCons (rVar 1) runsNil) (calmOp op_is_free)) (runsCons (runN (runsCons (rVar 1) runsNil) (calmOp op_is_number)) (runsCons (runN (runsCons (rVar 1) runsNil) (calmOp op_is_value)) (runsCons (runN (runsCons (rVar 1) runsNil) (calmOp op_is_term)) runsNil))))) (opL false) [some Sc, some w, some (.lst [.bl a, .bl b, .bl c, .bl (a || c), .bl (a || (b || c))]), none, none, none] st0 = .ok (.lst [.bl a, .bl b, .bl c, .bl (a || c), .bl ((a || c) || b)]) st0 := by
    rw [ev_runN, ev_cons, callN1 (ev_v1 _ _) k2, ev_ok, ev_cons, callN1 (ev_v1 _ _) k3, ev_ok, ev_cons, callN1 (ev_v1 _ _) k4, ev_ok, ev_cons, callN1 (ev_v1 _ _) k5, ev_ok, ev_cons, callN1 (ev_v1 _ _) k6]; rfl
  rw [set_to [some Sc, some w, some (.lst [.bl a, .bl b, .bl c, .bl (a || c), .bl (a || (b || c))]), some (.lst [.bl a, .bl b, .bl c, .bl (a || c), .bl ((a || c) || b)]), none, none] hfound rfl]
  rw [if_f (by
    rw [ev_or, ev_not, bools5, ev_ok, kNot_bl, ev_ok, kIf_bl, if_neg (by decide)]
    cases a <;> cases b <;> cases c <;> rfl)]
  rw [if_f rfl]
  rw [set_to [some Sc, some w, some (.lst [.bl a, .bl b, .bl c, .bl (a || c), .bl (a || (b || c))]), some (.lst [.bl a, .bl b, .bl c, .bl (a || c), .bl ((a || c) || b)]), some (.lst [f.w, g.w]), none] (callN1 (ev_v0 _) ef) rfl]
  generalize hd : W.lst [.bl a, .bl b, .bl c, .bl (a || c), .bl (a || (b || c))] = D1
  generalize hd2 : W.lst [.bl a, .bl b, .bl c, .bl (a || c), .bl ((a || c) || b)] = D2
  have hord : run1 (rVar 4) (opSort op_rank_of) [some Sc, some w, some D1, some D2, some (.lst [f.w, g.w]), none] s = .ok (.lst (if ltF g f = true then [g.w, f.w] else [f.w, g.w])) s := by
    rw [ev_run1, ev_v4, ev_ok]; exact sort_ok f g s hf hg
  have hrev : ∀ o : Option W, run1 (run1 (rVar 4) (opRev false)) (opSort op_rank_of) [some Sc, some w, some D1, some D2, some (.lst [f.w, g.w]), o] s = .ok (.lst (if ltF f g = true then [f.w, g.w] else [g.w, f.w])) s := fun o => by
    rw [ev_run1, ev_run1, ev_v4, ev_ok]
    show (R.ok (W.lst [g.w, f.w]) s).bind _ = _
    rw [ev_ok]; exact sort_ok g f s hg hf
  rw [set_to _ hord rfl]
  -- the first in order comes ahead, and the other way round it is the same
  have hend : ∀ (p q : Fa), (if ltF g f = true then [g.w, f.w] else [f.w, g.w]) = [p.w, q.w] → (if ltF f g = true then [f.w, g.w] else [g.w, f.w]) = [p.w, q.w] → p.vs.length ≤ 100 → befF p q = true →
      ∃ st, leave false st0 (sSeq (sIf (runOr (runNot (runN (runsCons (run2 (rVar 5) (rCon (W.int 0)) opIdx) (runsCons (run2 (rVar 5) (rCon (W.int 1)) opIdx) runsNil)) (calmOp op_l_before))) (run2 (run1 (run1 (rVar 4) (opRev false)) (opSort op_rank_of)) (rVar 5) opNe)) (sSeq (sRet (rCon (W.bl false))) sPass) sPass) (sSeq (sRet (runAnd (runN (runsCons (runN (runsCons (run2 (rVar 4) (rCon (W.int 0)) opIdx) runsNil) (calmOp op_rank_of)) (runsCons (rCon (.ty "tuple")) runsNil)) opIsi) (run2 (run2 (runN (runsCons (run2 (rVar 4) (rCon (W.int 0)) opIdx) runsNil) (calmOp op_rank_of)) (runN (runsCons (run2 (rVar 4) (rCon (W.int 1)) opIdx) runsNil) (calmOp op_rank_of)) opEq) (run2 (run2 (rVar 4) (rCon (W.int 0)) opIdx) (run2 (rVar 4) (rCon (W.int 1)) opIdx) opEq) opEq))) sPass) [some Sc, some w, some D1, some D2, some (.lst [f.w, g.w]), some (.lst (if ltF g f = true then [g.w, f.w] else [f.w, g.w]))] s) = .ok (.bl true) st := by
    intro p q e1 e2 hp hb
    rw [e1]
    have i0 : run2 (rVar 5) (rCon (W.int 0)) opIdx [some Sc, some w, some D1, some D2, some (.lst [f.w, g.w]), some (.lst [p.w, q.w])] s = .ok p.w s := rfl
    have i1 : run2 (rVar 5) (rCon (W.int 1)) opIdx [some Sc, some w, some D1, some D2, some (.lst [f.w, g.w]), some (.lst [p.w, q.w])] s = .ok q.w s := rfl
    have j0 : run2 (rVar 4) (rCon (W.int 0)) opIdx [some Sc, some w, some D1, some D2, some (.lst [f.w, g.w]), some (.lst [p.w, q.w])] s = .ok f.w s := rfl
    have j1 : run2 (rVar 4) (rCon (W.int 1)) opIdx [some Sc, some w, some D1, some D2, some (.lst [f.w, g.w]), some (.lst [p.w, q.w])] s = .ok g.w s := rfl
    have hbf := callN2 i0 i1 (before_ok p q s hp)
    have hne : run2 (run1 (run1 (rVar 4) (opRev false)) (opSort op_rank_of)) (rVar 5) opNe [some Sc, some w, some D1, some D2, some (.lst [f.w, g.w]), some (.lst [p.w, q.w])] s = .ok (.bl false) s := by
      refine run2_of (hrev _) rfl ?_
      rw [e2]
      show (match eqD 12 (.lst [p.w, q.w]) (.lst [p.w, q.w]) with | some r => R.ok (W.bl (!r)) s | none => .stuck) = _
      rw [eq_pair]; rfl
    rw [if_f (by rw [ev_or, ev_not, hbf, hb, ev_ok, kNot_bl, ev_ok, kIf_bl, if_neg (by decide), hne])]
    have r0 := callN1 j0 (rank_ok f s hf)
    have r1 := callN1 j1 (rank_ok g s hg)
    have hi : runN (runsCons (runN (runsCons (run2 (rVar 4) (rCon (W.int 0)) opIdx) runsNil) (calmOp op_rank_of)) (runsCons (rCon (.ty "tuple")) runsNil)) opIsi [some Sc, some w, some D1, some D2, some (.lst [f.w, g.w]), some (.lst [p.w, q.w])] s = .ok (.bl true) s := by
      rw [ev_runN, ev_cons, r0]; rfl
    have q1 : opEq (rankW f) (rankW g) s = .ok (.bl (decide (f = g))) s := by
      show (match eqD 12 (rankW f) (rankW g) with | some r => R.ok (W.bl r) s | none => .stuck) = _
      rw [eqD_rank]
    have q2 : opEq f.w g.w s = .ok (.bl (decide (f = g))) s := by
      show (match eqD 12 f.w g.w with | some r => R.ok (W.bl r) s | none => .stuck) = _
      rw [eqD_fact]
    have hr : runAnd (runN (runsCons (runN (runsCons (run2 (rVar 4) (rCon (W.int 0)) opIdx) runsNil) (calmOp op_rank_of)) (runsCons (rCon (.ty "tuple")) runsNil)) opIsi) (run2 (run2 (runN (runsCons (run2 (rVar 4) (rCon (W.int 0)) opIdx) runsNil) (calmOp op_rank_of)) (runN (runsCons (run2 (rVar 4) (rCon (W.int 1)) opIdx) runsNil) (calmOp op_rank_of)) opEq) (run2 (run2 (rVar 4) (rCon (W.int 0)) opIdx) (run2 (rVar 4) (rCon (W.int 1)) opIdx) opEq) opEq) [some Sc, some w, some D1, some D2, some (.lst [f.w, g.w]), some (.lst [p.w, q.w])] s = .ok (.bl true) s := by
      rw [ev_and, hi, ev_ok, kIf_bl, if_pos rfl]
      refine run2_of (run2_of r0 r1 q1) (run2_of j0 j1 q2) ?_
      rw [ev_eqB]; simp
    rw [ret_ok hr]
    exact ⟨_, rfl⟩
  rcases ltF_total f g with ⟨e, h1, h2, h3, h4⟩ | ⟨_, h1, h2, h3⟩
  · refine hend f g ?_ ?_ hf h3
    · rw [if_neg (by rw [h2]; decide)]
    · rw [if_neg (by rw [h1]; decide), e]
  · cases hl : ltF f g with
    | true =>
      have hl2 : ltF g f = false := by rw [hl] at h1; cases q : ltF g f with | true => rw [q] at h1; cases h1 | false => rfl
      refine hend f g ?_ ?_ hf (by rw [h2, hl])
      · rw [if_neg (by rw [hl2]; decide)]
      · rw [if_pos hl]
    | false =>
      have hl2 : ltF g f = true := by rw [hl] at h1; cases q : ltF g f with | false => rw [q] at h1; cases h1 | true => rfl
      refine hend g f ?_ ?_ hg (by rw [h3, hl2])
      · rw [if_pos hl2]
      · rw [if_neg (by rw [hl]; decide)]
end DL.My
namespace DL.My
open PySem L2
structure Tx (K : PySem.W.Frag) (mg : Str → Option Value) : Prop where
  k_MOST_RULES : ∃ u, mg "MOST_RULES" = some u ∧ ConK K u c_MOST_RULES
  k_MOST_FACTS : ∃ u, mg "MOST_FACTS" = some u ∧ ConK K u c_MOST_FACTS
  k_MOST_FILLS : ∃ u, mg "MOST_FILLS" = some u ∧ ConK K u c_MOST_FILLS
  k_MOST_WIDTH : ∃ u, mg "MOST_WIDTH" = some u ∧ ConK K u c_MOST_WIDTH
  k_MOST_PARTS : ∃ u, mg "MOST_PARTS" = some u ∧ ConK K u c_MOST_PARTS
  k_MOST_SIGNS : ∃ u, mg "MOST_SIGNS" = some u ∧ ConK K u c_MOST_SIGNS
  k_MOST_NUMBER : ∃ u, mg "MOST_NUMBER" = some u ∧ ConK K u c_MOST_NUMBER
  k_SMALL_LETTERS : ∃ u, mg "SMALL_LETTERS" = some u ∧ ConK K u c_SMALL_LETTERS
  k_GREAT_LETTERS : ∃ u, mg "GREAT_LETTERS" = some u ∧ ConK K u c_GREAT_LETTERS
  k_KEPT_WORDS : ∃ u, mg "KEPT_WORDS" = some u ∧ ConK K u c_KEPT_WORDS
  b_abs : mg "abs" = none
  b_all : mg "all" = none
  b_bool : mg "bool" = none
  b_int : mg "int" = none
  b_isinstance : mg "isinstance" = none
  b_len : mg "len" = none
  b_list : mg "list" = none
  b_range : mg "range" = none
  b_sorted : mg "sorted" = none
  b_str : mg "str" = none
  b_tuple : mg "tuple" = none
  d_is_short_text : DefAt K mg "is_short_text" s_is_short_text P_is_short_text
  d_all_small : DefAt K mg "all_small" s_all_small P_all_small
  d_is_name : DefAt K mg "is_name" s_is_name P_is_name
  d_is_free : DefAt K mg "is_free" s_is_free P_is_free
  d_is_number : DefAt K mg "is_number" s_is_number P_is_number
  d_is_value : DefAt K mg "is_value" s_is_value P_is_value
  d_is_term : DefAt K mg "is_term" s_is_term P_is_term
  d_rank_of_value : DefAt K mg "rank_of_value" s_rank_of_value P_rank_of_value
  d_rank_of : DefAt K mg "rank_of" s_rank_of P_rank_of
  d_l_cell_at : DefAt K mg "_law_cell_at" s_l_cell_at P_l_cell_at
  d_l_word_by : DefAt K mg "_law_word_by" s_l_word_by P_l_word_by
  d_l_sign_by : DefAt K mg "_law_sign_by" s_l_sign_by P_l_sign_by
  d_l_thing_by : DefAt K mg "_law_thing_by" s_l_thing_by P_l_thing_by
  d_l_small : DefAt K mg "_law_small" s_l_small P_l_small
  d_l_kinds : DefAt K mg "_law_kinds" s_l_kinds P_l_kinds
  d_l_letter_in : DefAt K mg "_law_letter_in" s_l_letter_in P_l_letter_in
  d_l_value_by : DefAt K mg "_law_value_by" s_l_value_by P_l_value_by
  d_l_facts_by : DefAt K mg "_law_facts_by" s_l_facts_by P_l_facts_by
  d_l_before : DefAt K mg "_law_before" s_l_before P_l_before
  d_law : DefAt K mg "law" s_law P_law
section
variable {P : Program} {w : World} {K : PySem.W.Frag} {mg : Str → Option Value} {base : Heap}
theorem tx0 (t : Tx K mg) : TX P w K mg base gl0 0 := by
  obtain ⟨u_MOST_RULES, m_MOST_RULES, h_MOST_RULES⟩ := t.k_MOST_RULES
  obtain ⟨u_MOST_FACTS, m_MOST_FACTS, h_MOST_FACTS⟩ := t.k_MOST_FACTS
  obtain ⟨u_MOST_FILLS, m_MOST_FILLS, h_MOST_FILLS⟩ := t.k_MOST_FILLS
  obtain ⟨u_MOST_WIDTH, m_MOST_WIDTH, h_MOST_WIDTH⟩ := t.k_MOST_WIDTH
  obtain ⟨u_MOST_PARTS, m_MOST_PARTS, h_MOST_PARTS⟩ := t.k_MOST_PARTS
  obtain ⟨u_MOST_SIGNS, m_MOST_SIGNS, h_MOST_SIGNS⟩ := t.k_MOST_SIGNS
  obtain ⟨u_MOST_NUMBER, m_MOST_NUMBER, h_MOST_NUMBER⟩ := t.k_MOST_NUMBER
  obtain ⟨u_SMALL_LETTERS, m_SMALL_LETTERS, h_SMALL_LETTERS⟩ := t.k_SMALL_LETTERS
  obtain ⟨u_GREAT_LETTERS, m_GREAT_LETTERS, h_GREAT_LETTERS⟩ := t.k_GREAT_LETTERS
  obtain ⟨u_KEPT_WORDS, m_KEPT_WORDS, h_KEPT_WORDS⟩ := t.k_KEPT_WORDS
  exact (TX.con1 (TX.con1 (TX.con1 (TX.con1 (TX.con1 (TX.con1 (TX.con1 (TX.con1 (TX.con1 (TX.con1 (TX.blt1 (TX.blt1 (TX.blt1 (TX.blt1 (TX.blt1 (TX.blt1 (TX.blt1 (TX.blt1 (TX.blt1 (TX.blt1 (TX.blt1 TX.nil t.b_tuple) t.b_str) t.b_sorted) t.b_range) t.b_list) t.b_len) t.b_isinstance) t.b_int) t.b_bool) t.b_all) t.b_abs) m_KEPT_WORDS h_KEPT_WORDS) m_GREAT_LETTERS h_GREAT_LETTERS) m_SMALL_LETTERS h_SMALL_LETTERS) m_MOST_NUMBER h_MOST_NUMBER) m_MOST_SIGNS h_MOST_SIGNS) m_MOST_PARTS h_MOST_PARTS) m_MOST_WIDTH h_MOST_WIDTH) m_MOST_FILLS h_MOST_FILLS) m_MOST_FACTS h_MOST_FACTS) m_MOST_RULES h_MOST_RULES)
theorem tx1 (t : Tx K mg) : TX P w K mg base gl1 3 := by
  have T : TX P w K mg base gl0 0 := tx0 t
  exact (TX.cons (TX.cons (TX.cons (TX.cons (TX.cons (TX.cons (TX.cons (TX.cons (TX.cons (TX.cons (T.mono (by decide)) (TX.fnOf (fz := false) T t.d_is_short_text sc_is_short_text de_is_short_text)) (TX.fnOf (fz := false) T t.d_all_small sc_all_small de_all_small)) (TX.fnOf (fz := false) T t.d_is_number sc_is_number de_is_number)) (TX.fnOf (fz := false) T t.d_rank_of_value sc_rank_of_value de_rank_of_value)) (TX.fnOf (fz := false) T t.d_l_cell_at sc_l_cell_at de_l_cell_at)) (TX.fnOf (fz := false) T t.d_l_word_by sc_l_word_by de_l_word_by)) (TX.fnOf (fz := false) T t.d_l_sign_by sc_l_sign_by de_l_sign_by)) (TX.fnOf (fz := false) T t.d_l_small sc_l_small de_l_small)) (TX.fnOf (fz := false) T t.d_l_letter_in sc_l_letter_in de_l_letter_in)) (TX.fnOf (fz := false) T t.d_l_before sc_l_before de_l_before))
theorem tx2 (t : Tx K mg) : TX P w K mg base gl2 6 := by
  have T : TX P w K mg base gl1 3 := tx1 t
  exact (TX.cons (TX.cons (TX.cons (TX.cons (TX.cons (TX.cons (T.mono (by decide)) (TX.fnOf (fz := false) T t.d_is_name sc_is_name de_is_name)) (TX.fnOf (fz := false) T t.d_is_free sc_is_free de_is_free)) (TX.fnOf (fz := false) T t.d_rank_of sc_rank_of de_rank_of)) (TX.fnOf (fz := false) T t.d_l_thing_by sc_l_thing_by de_l_thing_by)) (TX.fnOf (fz := false) T t.d_l_kinds sc_l_kinds de_l_kinds)) (TX.fnOf (fz := false) T t.d_l_value_by sc_l_value_by de_l_value_by))
theorem tx3 (t : Tx K mg) : TX P w K mg base gl3 9 := by
  have T : TX P w K mg base gl2 6 := tx2 t
  exact (TX.cons (TX.cons (T.mono (by decide)) (TX.fnOf (fz := false) T t.d_is_value sc_is_value de_is_value)) (TX.fnOf (fz := true) T t.d_l_facts_by sc_l_facts_by de_l_facts_by))
theorem tx4 (t : Tx K mg) : TX P w K mg base gl4 12 := by
  have T : TX P w K mg base gl3 9 := tx3 t
  exact (TX.cons (T.mono (by decide)) (TX.fnOf (fz := false) T t.d_is_term sc_is_term de_is_term))
theorem law_ok (t : Tx K mg) {f : Addr} {fd : FuncData} (F : Fun K "law" "law" s_law f fd) : FnOk P w K mg base CX0 15 f fd P_law (SpD K 1 op_law) :=
  def_ok (fz := false) (tx4 t : TX P w K mg base gl4 12) F sc_law de_law
end
theorem all_mk {l : PySem.W.OpenLaw} {w : World} {K : PySem.W.Frag} {h : Heap} {mg : Str → Option Value} {fa : Addr} (X : K.In h) (G : h.Ns mainGlobals mg) (hfa : mg "law" = some (.ref fa))
    {a_KEPT_WORDS f_is_short_text f_all_small f_is_name f_is_free f_is_number f_is_value f_is_term f_rank_of_value f_rank_of f_l_cell_at f_l_word_by f_l_sign_by f_l_thing_by f_l_small f_l_kinds f_l_letter_in f_l_value_by f_l_facts_by f_l_before f_law : Addr} {o_KEPT_WORDS od_is_short_text an_is_short_text od_all_small an_all_small od_is_name an_is_name od_is_free an_is_free od_is_number an_is_number od_is_value an_is_value od_is_term an_is_term od_rank_of_value an_rank_of_value od_rank_of an_rank_of od_l_cell_at an_l_cell_at od_l_word_by an_l_word_by od_l_sign_by an_l_sign_by od_l_thing_by an_l_thing_by od_l_small an_l_small od_l_kinds an_l_kinds od_l_letter_in an_l_letter_in od_l_value_by an_l_value_by od_l_facts_by an_l_facts_by od_l_before an_l_before od_law an_law : Option Addr} {s_lKEPT_WORDS sl_is_short_text sl_all_small sl_is_name sl_is_free sl_is_number sl_is_value sl_is_term sl_rank_of_value sl_rank_of sl_l_cell_at sl_l_word_by sl_l_sign_by sl_l_thing_by sl_l_small sl_l_kinds sl_l_letter_in sl_l_value_by sl_l_facts_by sl_l_before sl_law : Array (Option Value)}
    {t_MOST_RULES : Tok} {t_MOST_FACTS : Tok} {t_MOST_FILLS : Tok} {t_MOST_WIDTH : Tok} {t_MOST_PARTS : Tok} {t_MOST_SIGNS : Tok} {t_MOST_NUMBER : Tok} {t_SMALL_LETTERS : Tok} {t_GREAT_LETTERS : Tok} {t0_KEPT_WORDS t1_KEPT_WORDS t2_KEPT_WORDS t3_KEPT_WORDS t4_KEPT_WORDS t5_KEPT_WORDS t6_KEPT_WORDS t7_KEPT_WORDS t8_KEPT_WORDS t9_KEPT_WORDS t10_KEPT_WORDS t11_KEPT_WORDS t12_KEPT_WORDS : Tok} {n_KEPT_WORDS : Nat} {oc_is_short_text kV_is_short_text dc_is_short_text pm_is_short_text cd_is_short_text ct_is_short_text : Value} {oc_all_small kV_all_small dc_all_small pm_all_small cd_all_small ct_all_small : Value} {oc_is_name kV_is_name dc_is_name pm_is_name cd_is_name ct_is_name : Value} {oc_is_free kV_is_free dc_is_free pm_is_free cd_is_free ct_is_free : Value} {oc_is_number kV_is_number dc_is_number pm_is_number cd_is_number ct_is_number : Value} {oc_is_value kV_is_value dc_is_value pm_is_value cd_is_value ct_is_value : Value} {oc_is_term kV_is_term dc_is_term pm_is_term cd_is_term ct_is_term : Value} {oc_rank_of_value kV_rank_of_value dc_rank_of_value pm_rank_of_value cd_rank_of_value ct_rank_of_value : Value} {oc_rank_of kV_rank_of dc_rank_of pm_rank_of cd_rank_of ct_rank_of : Value} {oc_l_cell_at kV_l_cell_at dc_l_cell_at pm_l_cell_at cd_l_cell_at ct_l_cell_at : Value} {oc_l_word_by kV_l_word_by dc_l_word_by pm_l_word_by cd_l_word_by ct_l_word_by : Value} {oc_l_sign_by kV_l_sign_by dc_l_sign_by pm_l_sign_by cd_l_sign_by ct_l_sign_by : Value} {oc_l_thing_by kV_l_thing_by dc_l_thing_by pm_l_thing_by cd_l_thing_by ct_l_thing_by : Value} {oc_l_small kV_l_small dc_l_small pm_l_small cd_l_small ct_l_small : Value} {oc_l_kinds kV_l_kinds dc_l_kinds pm_l_kinds cd_l_kinds ct_l_kinds : Value} {oc_l_letter_in kV_l_letter_in dc_l_letter_in pm_l_letter_in cd_l_letter_in ct_l_letter_in : Value} {oc_l_value_by kV_l_value_by dc_l_value_by pm_l_value_by cd_l_value_by ct_l_value_by : Value} {oc_l_facts_by kV_l_facts_by dc_l_facts_by pm_l_facts_by cd_l_facts_by ct_l_facts_by : Value} {oc_l_before kV_l_before dc_l_before pm_l_before cd_l_before ct_l_before : Value} {oc_law kV_law dc_law pm_law cd_law ct_law : Value}
    (k1_MOST_RULES : PySem.W.nsIn K mainGlobals "MOST_RULES" = some (some (Value.int 20 t_MOST_RULES)))
    (k1_MOST_FACTS : PySem.W.nsIn K mainGlobals "MOST_FACTS" = some (some (Value.int 200 t_MOST_FACTS)))
    (k1_MOST_FILLS : PySem.W.nsIn K mainGlobals "MOST_FILLS" = some (some (Value.int 2000 t_MOST_FILLS)))
    (k1_MOST_WIDTH : PySem.W.nsIn K mainGlobals "MOST_WIDTH" = some (some (Value.int 4 t_MOST_WIDTH)))
    (k1_MOST_PARTS : PySem.W.nsIn K mainGlobals "MOST_PARTS" = some (some (Value.int 6 t_MOST_PARTS)))
    (k1_MOST_SIGNS : PySem.W.nsIn K mainGlobals "MOST_SIGNS" = some (some (Value.int 8 t_MOST_SIGNS)))
    (k1_MOST_NUMBER : PySem.W.nsIn K mainGlobals "MOST_NUMBER" = some (some (Value.int 999999999 t_MOST_NUMBER)))
    (k1_SMALL_LETTERS : PySem.W.nsIn K mainGlobals "SMALL_LETTERS" = some (some (Value.str "abcdefghijklmnopqrstuvwxyz" t_SMALL_LETTERS)))
    (k1_GREAT_LETTERS : PySem.W.nsIn K mainGlobals "GREAT_LETTERS" = some (some (Value.str "ABCDEFGHIJKLMNOPQRSTUVWXYZ" t_GREAT_LETTERS)))
    (k1_KEPT_WORDS : PySem.W.nsIn K mainGlobals "KEPT_WORDS" = some (some (.ref a_KEPT_WORDS)))
    (k2_KEPT_WORDS : K.lookup a_KEPT_WORDS = some ⟨.type "tuple", o_KEPT_WORDS, .seq (List.toArray [Value.str "has" t0_KEPT_WORDS, Value.str "not" t1_KEPT_WORDS, Value.str "less" t2_KEPT_WORDS, Value.str "same" t3_KEPT_WORDS, Value.str "plus" t4_KEPT_WORDS, Value.str "if" t5_KEPT_WORDS, Value.str "by" t6_KEPT_WORDS, Value.str "is" t7_KEPT_WORDS, Value.str "count" t8_KEPT_WORDS, Value.str "sum" t9_KEPT_WORDS, Value.str "least" t10_KEPT_WORDS, Value.str "most" t11_KEPT_WORDS, Value.str "why" t12_KEPT_WORDS]) n_KEPT_WORDS, s_lKEPT_WORDS⟩)
    (b_abs : PySem.W.nsIn K mainGlobals "abs" = some none)
    (b_all : PySem.W.nsIn K mainGlobals "all" = some none)
    (b_bool : PySem.W.nsIn K mainGlobals "bool" = some none)
    (b_int : PySem.W.nsIn K mainGlobals "int" = some none)
    (b_isinstance : PySem.W.nsIn K mainGlobals "isinstance" = some none)
    (b_len : PySem.W.nsIn K mainGlobals "len" = some none)
    (b_list : PySem.W.nsIn K mainGlobals "list" = some none)
    (b_range : PySem.W.nsIn K mainGlobals "range" = some none)
    (b_sorted : PySem.W.nsIn K mainGlobals "sorted" = some none)
    (b_str : PySem.W.nsIn K mainGlobals "str" = some none)
    (b_tuple : PySem.W.nsIn K mainGlobals "tuple" = some none)
    (a_is_short_text : PySem.W.nsIn K mainGlobals "is_short_text" = some (some (.ref f_is_short_text))) (l_is_short_text : K.lookup f_is_short_text = some ⟨oc_is_short_text, od_is_short_text, .func (PySem.W.fnOf "is_short_text" "is_short_text" (defArgs s_is_short_text) (defBody s_is_short_text) (defScope s_is_short_text) .none kV_is_short_text dc_is_short_text pm_is_short_text an_is_short_text cd_is_short_text ct_is_short_text), sl_is_short_text⟩) (c_is_short_text : PySem.W.codeIn K cd_is_short_text "is_short_text" = true) (p_is_short_text : PySem.W.keepIn K (.ref f_is_short_text) = true)
    (a_all_small : PySem.W.nsIn K mainGlobals "all_small" = some (some (.ref f_all_small))) (l_all_small : K.lookup f_all_small = some ⟨oc_all_small, od_all_small, .func (PySem.W.fnOf "all_small" "all_small" (defArgs s_all_small) (defBody s_all_small) (defScope s_all_small) .none kV_all_small dc_all_small pm_all_small an_all_small cd_all_small ct_all_small), sl_all_small⟩) (c_all_small : PySem.W.codeIn K cd_all_small "all_small" = true) (p_all_small : PySem.W.keepIn K (.ref f_all_small) = true)
    (a_is_name : PySem.W.nsIn K mainGlobals "is_name" = some (some (.ref f_is_name))) (l_is_name : K.lookup f_is_name = some ⟨oc_is_name, od_is_name, .func (PySem.W.fnOf "is_name" "is_name" (defArgs s_is_name) (defBody s_is_name) (defScope s_is_name) .none kV_is_name dc_is_name pm_is_name an_is_name cd_is_name ct_is_name), sl_is_name⟩) (c_is_name : PySem.W.codeIn K cd_is_name "is_name" = true) (p_is_name : PySem.W.keepIn K (.ref f_is_name) = true)
    (a_is_free : PySem.W.nsIn K mainGlobals "is_free" = some (some (.ref f_is_free))) (l_is_free : K.lookup f_is_free = some ⟨oc_is_free, od_is_free, .func (PySem.W.fnOf "is_free" "is_free" (defArgs s_is_free) (defBody s_is_free) (defScope s_is_free) .none kV_is_free dc_is_free pm_is_free an_is_free cd_is_free ct_is_free), sl_is_free⟩) (c_is_free : PySem.W.codeIn K cd_is_free "is_free" = true) (p_is_free : PySem.W.keepIn K (.ref f_is_free) = true)
    (a_is_number : PySem.W.nsIn K mainGlobals "is_number" = some (some (.ref f_is_number))) (l_is_number : K.lookup f_is_number = some ⟨oc_is_number, od_is_number, .func (PySem.W.fnOf "is_number" "is_number" (defArgs s_is_number) (defBody s_is_number) (defScope s_is_number) .none kV_is_number dc_is_number pm_is_number an_is_number cd_is_number ct_is_number), sl_is_number⟩) (c_is_number : PySem.W.codeIn K cd_is_number "is_number" = true) (p_is_number : PySem.W.keepIn K (.ref f_is_number) = true)
    (a_is_value : PySem.W.nsIn K mainGlobals "is_value" = some (some (.ref f_is_value))) (l_is_value : K.lookup f_is_value = some ⟨oc_is_value, od_is_value, .func (PySem.W.fnOf "is_value" "is_value" (defArgs s_is_value) (defBody s_is_value) (defScope s_is_value) .none kV_is_value dc_is_value pm_is_value an_is_value cd_is_value ct_is_value), sl_is_value⟩) (c_is_value : PySem.W.codeIn K cd_is_value "is_value" = true) (p_is_value : PySem.W.keepIn K (.ref f_is_value) = true)
    (a_is_term : PySem.W.nsIn K mainGlobals "is_term" = some (some (.ref f_is_term))) (l_is_term : K.lookup f_is_term = some ⟨oc_is_term, od_is_term, .func (PySem.W.fnOf "is_term" "is_term" (defArgs s_is_term) (defBody s_is_term) (defScope s_is_term) .none kV_is_term dc_is_term pm_is_term an_is_term cd_is_term ct_is_term), sl_is_term⟩) (c_is_term : PySem.W.codeIn K cd_is_term "is_term" = true) (p_is_term : PySem.W.keepIn K (.ref f_is_term) = true)
    (a_rank_of_value : PySem.W.nsIn K mainGlobals "rank_of_value" = some (some (.ref f_rank_of_value))) (l_rank_of_value : K.lookup f_rank_of_value = some ⟨oc_rank_of_value, od_rank_of_value, .func (PySem.W.fnOf "rank_of_value" "rank_of_value" (defArgs s_rank_of_value) (defBody s_rank_of_value) (defScope s_rank_of_value) .none kV_rank_of_value dc_rank_of_value pm_rank_of_value an_rank_of_value cd_rank_of_value ct_rank_of_value), sl_rank_of_value⟩) (c_rank_of_value : PySem.W.codeIn K cd_rank_of_value "rank_of_value" = true) (p_rank_of_value : PySem.W.keepIn K (.ref f_rank_of_value) = true)
    (a_rank_of : PySem.W.nsIn K mainGlobals "rank_of" = some (some (.ref f_rank_of))) (l_rank_of : K.lookup f_rank_of = some ⟨oc_rank_of, od_rank_of, .func (PySem.W.fnOf "rank_of" "rank_of" (defArgs s_rank_of) (defBody s_rank_of) (defScope s_rank_of) .none kV_rank_of dc_rank_of pm_rank_of an_rank_of cd_rank_of ct_rank_of), sl_rank_of⟩) (c_rank_of : PySem.W.codeIn K cd_rank_of "rank_of" = true) (p_rank_of : PySem.W.keepIn K (.ref f_rank_of) = true)
    (a_l_cell_at : PySem.W.nsIn K mainGlobals "_law_cell_at" = some (some (.ref f_l_cell_at))) (l_l_cell_at : K.lookup f_l_cell_at = some ⟨oc_l_cell_at, od_l_cell_at, .func (PySem.W.fnOf "_law_cell_at" "_law_cell_at" (defArgs s_l_cell_at) (defBody s_l_cell_at) (defScope s_l_cell_at) .none kV_l_cell_at dc_l_cell_at pm_l_cell_at an_l_cell_at cd_l_cell_at ct_l_cell_at), sl_l_cell_at⟩) (c_l_cell_at : PySem.W.codeIn K cd_l_cell_at "_law_cell_at" = true) (p_l_cell_at : PySem.W.keepIn K (.ref f_l_cell_at) = true)
    (a_l_word_by : PySem.W.nsIn K mainGlobals "_law_word_by" = some (some (.ref f_l_word_by))) (l_l_word_by : K.lookup f_l_word_by = some ⟨oc_l_word_by, od_l_word_by, .func (PySem.W.fnOf "_law_word_by" "_law_word_by" (defArgs s_l_word_by) (defBody s_l_word_by) (defScope s_l_word_by) .none kV_l_word_by dc_l_word_by pm_l_word_by an_l_word_by cd_l_word_by ct_l_word_by), sl_l_word_by⟩) (c_l_word_by : PySem.W.codeIn K cd_l_word_by "_law_word_by" = true) (p_l_word_by : PySem.W.keepIn K (.ref f_l_word_by) = true)
    (a_l_sign_by : PySem.W.nsIn K mainGlobals "_law_sign_by" = some (some (.ref f_l_sign_by))) (l_l_sign_by : K.lookup f_l_sign_by = some ⟨oc_l_sign_by, od_l_sign_by, .func (PySem.W.fnOf "_law_sign_by" "_law_sign_by" (defArgs s_l_sign_by) (defBody s_l_sign_by) (defScope s_l_sign_by) .none kV_l_sign_by dc_l_sign_by pm_l_sign_by an_l_sign_by cd_l_sign_by ct_l_sign_by), sl_l_sign_by⟩) (c_l_sign_by : PySem.W.codeIn K cd_l_sign_by "_law_sign_by" = true) (p_l_sign_by : PySem.W.keepIn K (.ref f_l_sign_by) = true)
    (a_l_thing_by : PySem.W.nsIn K mainGlobals "_law_thing_by" = some (some (.ref f_l_thing_by))) (l_l_thing_by : K.lookup f_l_thing_by = some ⟨oc_l_thing_by, od_l_thing_by, .func (PySem.W.fnOf "_law_thing_by" "_law_thing_by" (defArgs s_l_thing_by) (defBody s_l_thing_by) (defScope s_l_thing_by) .none kV_l_thing_by dc_l_thing_by pm_l_thing_by an_l_thing_by cd_l_thing_by ct_l_thing_by), sl_l_thing_by⟩) (c_l_thing_by : PySem.W.codeIn K cd_l_thing_by "_law_thing_by" = true) (p_l_thing_by : PySem.W.keepIn K (.ref f_l_thing_by) = true)
    (a_l_small : PySem.W.nsIn K mainGlobals "_law_small" = some (some (.ref f_l_small))) (l_l_small : K.lookup f_l_small = some ⟨oc_l_small, od_l_small, .func (PySem.W.fnOf "_law_small" "_law_small" (defArgs s_l_small) (defBody s_l_small) (defScope s_l_small) .none kV_l_small dc_l_small pm_l_small an_l_small cd_l_small ct_l_small), sl_l_small⟩) (c_l_small : PySem.W.codeIn K cd_l_small "_law_small" = true) (p_l_small : PySem.W.keepIn K (.ref f_l_small) = true)
    (a_l_kinds : PySem.W.nsIn K mainGlobals "_law_kinds" = some (some (.ref f_l_kinds))) (l_l_kinds : K.lookup f_l_kinds = some ⟨oc_l_kinds, od_l_kinds, .func (PySem.W.fnOf "_law_kinds" "_law_kinds" (defArgs s_l_kinds) (defBody s_l_kinds) (defScope s_l_kinds) .none kV_l_kinds dc_l_kinds pm_l_kinds an_l_kinds cd_l_kinds ct_l_kinds), sl_l_kinds⟩) (c_l_kinds : PySem.W.codeIn K cd_l_kinds "_law_kinds" = true) (p_l_kinds : PySem.W.keepIn K (.ref f_l_kinds) = true)
    (a_l_letter_in : PySem.W.nsIn K mainGlobals "_law_letter_in" = some (some (.ref f_l_letter_in))) (l_l_letter_in : K.lookup f_l_letter_in = some ⟨oc_l_letter_in, od_l_letter_in, .func (PySem.W.fnOf "_law_letter_in" "_law_letter_in" (defArgs s_l_letter_in) (defBody s_l_letter_in) (defScope s_l_letter_in) .none kV_l_letter_in dc_l_letter_in pm_l_letter_in an_l_letter_in cd_l_letter_in ct_l_letter_in), sl_l_letter_in⟩) (c_l_letter_in : PySem.W.codeIn K cd_l_letter_in "_law_letter_in" = true) (p_l_letter_in : PySem.W.keepIn K (.ref f_l_letter_in) = true)
    (a_l_value_by : PySem.W.nsIn K mainGlobals "_law_value_by" = some (some (.ref f_l_value_by))) (l_l_value_by : K.lookup f_l_value_by = some ⟨oc_l_value_by, od_l_value_by, .func (PySem.W.fnOf "_law_value_by" "_law_value_by" (defArgs s_l_value_by) (defBody s_l_value_by) (defScope s_l_value_by) .none kV_l_value_by dc_l_value_by pm_l_value_by an_l_value_by cd_l_value_by ct_l_value_by), sl_l_value_by⟩) (c_l_value_by : PySem.W.codeIn K cd_l_value_by "_law_value_by" = true) (p_l_value_by : PySem.W.keepIn K (.ref f_l_value_by) = true)
    (a_l_facts_by : PySem.W.nsIn K mainGlobals "_law_facts_by" = some (some (.ref f_l_facts_by))) (l_l_facts_by : K.lookup f_l_facts_by = some ⟨oc_l_facts_by, od_l_facts_by, .func (PySem.W.fnOf "_law_facts_by" "_law_facts_by" (defArgs s_l_facts_by) (defBody s_l_facts_by) (defScope s_l_facts_by) .none kV_l_facts_by dc_l_facts_by pm_l_facts_by an_l_facts_by cd_l_facts_by ct_l_facts_by), sl_l_facts_by⟩) (c_l_facts_by : PySem.W.codeIn K cd_l_facts_by "_law_facts_by" = true) (p_l_facts_by : PySem.W.keepIn K (.ref f_l_facts_by) = true)
    (a_l_before : PySem.W.nsIn K mainGlobals "_law_before" = some (some (.ref f_l_before))) (l_l_before : K.lookup f_l_before = some ⟨oc_l_before, od_l_before, .func (PySem.W.fnOf "_law_before" "_law_before" (defArgs s_l_before) (defBody s_l_before) (defScope s_l_before) .none kV_l_before dc_l_before pm_l_before an_l_before cd_l_before ct_l_before), sl_l_before⟩) (c_l_before : PySem.W.codeIn K cd_l_before "_law_before" = true) (p_l_before : PySem.W.keepIn K (.ref f_l_before) = true)
    (a_law : PySem.W.nsIn K mainGlobals "law" = some (some (.ref f_law))) (l_law : K.lookup f_law = some ⟨oc_law, od_law, .func (PySem.W.fnOf "law" "law" (defArgs s_law) (defBody s_law) (defScope s_law) .none kV_law dc_law pm_law an_law cd_law ct_law), sl_law⟩) (c_law : PySem.W.codeIn K cd_law "law" = true) (p_law : PySem.W.keepIn K (.ref f_law) = true)
    : ∃ fd : FuncData, (∀ (s : Shared) (v : Value), BindsTo s fd ⟨[v], []⟩ [("_law_script", v)]) ∧ ∀ base : Heap, K.In base → base.Ns mainGlobals mg → FnOk l.prog w K mg base CX0 15 fa fd ["_law_script"] (SpD K 1 op_law) := by
  have e := hfa.symm.trans (PySem.W.mg_of X G a_law)
  cases e
  have kk_MOST_RULES : ∃ u, mg "MOST_RULES" = some u ∧ ConK K u c_MOST_RULES := ⟨_, PySem.W.mg_of X G k1_MOST_RULES, .int _ _⟩
  have kk_MOST_FACTS : ∃ u, mg "MOST_FACTS" = some u ∧ ConK K u c_MOST_FACTS := ⟨_, PySem.W.mg_of X G k1_MOST_FACTS, .int _ _⟩
  have kk_MOST_FILLS : ∃ u, mg "MOST_FILLS" = some u ∧ ConK K u c_MOST_FILLS := ⟨_, PySem.W.mg_of X G k1_MOST_FILLS, .int _ _⟩
  have kk_MOST_WIDTH : ∃ u, mg "MOST_WIDTH" = some u ∧ ConK K u c_MOST_WIDTH := ⟨_, PySem.W.mg_of X G k1_MOST_WIDTH, .int _ _⟩
  have kk_MOST_PARTS : ∃ u, mg "MOST_PARTS" = some u ∧ ConK K u c_MOST_PARTS := ⟨_, PySem.W.mg_of X G k1_MOST_PARTS, .int _ _⟩
  have kk_MOST_SIGNS : ∃ u, mg "MOST_SIGNS" = some u ∧ ConK K u c_MOST_SIGNS := ⟨_, PySem.W.mg_of X G k1_MOST_SIGNS, .int _ _⟩
  have kk_MOST_NUMBER : ∃ u, mg "MOST_NUMBER" = some u ∧ ConK K u c_MOST_NUMBER := ⟨_, PySem.W.mg_of X G k1_MOST_NUMBER, .int _ _⟩
  have kk_SMALL_LETTERS : ∃ u, mg "SMALL_LETTERS" = some u ∧ ConK K u c_SMALL_LETTERS := ⟨_, PySem.W.mg_of X G k1_SMALL_LETTERS, .str _ _⟩
  have kk_GREAT_LETTERS : ∃ u, mg "GREAT_LETTERS" = some u ∧ ConK K u c_GREAT_LETTERS := ⟨_, PySem.W.mg_of X G k1_GREAT_LETTERS, .str _ _⟩
  have kk_KEPT_WORDS : ∃ u, mg "KEPT_WORDS" = some u ∧ ConK K u c_KEPT_WORDS := ⟨_, PySem.W.mg_of X G k1_KEPT_WORDS, .txts k2_KEPT_WORDS (by show 13 ≤ sizeLine; decide) (.cons ⟨_, rfl⟩ (.cons ⟨_, rfl⟩ (.cons ⟨_, rfl⟩ (.cons ⟨_, rfl⟩ (.cons ⟨_, rfl⟩ (.cons ⟨_, rfl⟩ (.cons ⟨_, rfl⟩ (.cons ⟨_, rfl⟩ (.cons ⟨_, rfl⟩ (.cons ⟨_, rfl⟩ (.cons ⟨_, rfl⟩ (.cons ⟨_, rfl⟩ (.cons ⟨_, rfl⟩ (.nil))))))))))))))⟩
  have dd_is_short_text : DefAt K mg "is_short_text" s_is_short_text P_is_short_text := defAt_mk X G a_is_short_text l_is_short_text c_is_short_text p_is_short_text fun _ _ _ _ _ _ us hl => match us, hl with | [_], _ => rfl
  have dd_all_small : DefAt K mg "all_small" s_all_small P_all_small := defAt_mk X G a_all_small l_all_small c_all_small p_all_small fun _ _ _ _ _ _ us hl => match us, hl with | [_], _ => rfl
  have dd_is_name : DefAt K mg "is_name" s_is_name P_is_name := defAt_mk X G a_is_name l_is_name c_is_name p_is_name fun _ _ _ _ _ _ us hl => match us, hl with | [_], _ => rfl
  have dd_is_free : DefAt K mg "is_free" s_is_free P_is_free := defAt_mk X G a_is_free l_is_free c_is_free p_is_free fun _ _ _ _ _ _ us hl => match us, hl with | [_], _ => rfl
  have dd_is_number : DefAt K mg "is_number" s_is_number P_is_number := defAt_mk X G a_is_number l_is_number c_is_number p_is_number fun _ _ _ _ _ _ us hl => match us, hl with | [_], _ => rfl
  have dd_is_value : DefAt K mg "is_value" s_is_value P_is_value := defAt_mk X G a_is_value l_is_value c_is_value p_is_value fun _ _ _ _ _ _ us hl => match us, hl with | [_], _ => rfl
  have dd_is_term : DefAt K mg "is_term" s_is_term P_is_term := defAt_mk X G a_is_term l_is_term c_is_term p_is_term fun _ _ _ _ _ _ us hl => match us, hl with | [_], _ => rfl
  have dd_rank_of_value : DefAt K mg "rank_of_value" s_rank_of_value P_rank_of_value := defAt_mk X G a_rank_of_value l_rank_of_value c_rank_of_value p_rank_of_value fun _ _ _ _ _ _ us hl => match us, hl with | [_], _ => rfl
  have dd_rank_of : DefAt K mg "rank_of" s_rank_of P_rank_of := defAt_mk X G a_rank_of l_rank_of c_rank_of p_rank_of fun _ _ _ _ _ _ us hl => match us, hl with | [_], _ => rfl
  have dd_l_cell_at : DefAt K mg "_law_cell_at" s_l_cell_at P_l_cell_at := defAt_mk X G a_l_cell_at l_l_cell_at c_l_cell_at p_l_cell_at fun _ _ _ _ _ _ us hl => match us, hl with | [_, _], _ => rfl
  have dd_l_word_by : DefAt K mg "_law_word_by" s_l_word_by P_l_word_by := defAt_mk X G a_l_word_by l_l_word_by c_l_word_by p_l_word_by fun _ _ _ _ _ _ us hl => match us, hl with | [_], _ => rfl
  have dd_l_sign_by : DefAt K mg "_law_sign_by" s_l_sign_by P_l_sign_by := defAt_mk X G a_l_sign_by l_l_sign_by c_l_sign_by p_l_sign_by fun _ _ _ _ _ _ us hl => match us, hl with | [_], _ => rfl
  have dd_l_thing_by : DefAt K mg "_law_thing_by" s_l_thing_by P_l_thing_by := defAt_mk X G a_l_thing_by l_l_thing_by c_l_thing_by p_l_thing_by fun _ _ _ _ _ _ us hl => match us, hl with | [_], _ => rfl
  have dd_l_small : DefAt K mg "_law_small" s_l_small P_l_small := defAt_mk X G a_l_small l_l_small c_l_small p_l_small fun _ _ _ _ _ _ us hl => match us, hl with | [_], _ => rfl
  have dd_l_kinds : DefAt K mg "_law_kinds" s_l_kinds P_l_kinds := defAt_mk X G a_l_kinds l_l_kinds c_l_kinds p_l_kinds fun _ _ _ _ _ _ us hl => match us, hl with | [_], _ => rfl
  have dd_l_letter_in : DefAt K mg "_law_letter_in" s_l_letter_in P_l_letter_in := defAt_mk X G a_l_letter_in l_l_letter_in c_l_letter_in p_l_letter_in fun _ _ _ _ _ _ us hl => match us, hl with | [_, _], _ => rfl
  have dd_l_value_by : DefAt K mg "_law_value_by" s_l_value_by P_l_value_by := defAt_mk X G a_l_value_by l_l_value_by c_l_value_by p_l_value_by fun _ _ _ _ _ _ us hl => match us, hl with | [_], _ => rfl
  have dd_l_facts_by : DefAt K mg "_law_facts_by" s_l_facts_by P_l_facts_by := defAt_mk X G a_l_facts_by l_l_facts_by c_l_facts_by p_l_facts_by fun _ _ _ _ _ _ us hl => match us, hl with | [_], _ => rfl
  have dd_l_before : DefAt K mg "_law_before" s_l_before P_l_before := defAt_mk X G a_l_before l_l_before c_l_before p_l_before fun _ _ _ _ _ _ us hl => match us, hl with | [_, _], _ => rfl
  have dd_law : DefAt K mg "law" s_law P_law := defAt_mk X G a_law l_law c_law p_law fun _ _ _ _ _ _ us hl => match us, hl with | [_], _ => rfl
  have t : Tx K mg := ⟨kk_MOST_RULES, kk_MOST_FACTS, kk_MOST_FILLS, kk_MOST_WIDTH, kk_MOST_PARTS, kk_MOST_SIGNS, kk_MOST_NUMBER, kk_SMALL_LETTERS, kk_GREAT_LETTERS, kk_KEPT_WORDS, PySem.W.mg_none_of X G b_abs, PySem.W.mg_none_of X G b_all, PySem.W.mg_none_of X G b_bool, PySem.W.mg_none_of X G b_int, PySem.W.mg_none_of X G b_isinstance, PySem.W.mg_none_of X G b_len, PySem.W.mg_none_of X G b_list, PySem.W.mg_none_of X G b_range, PySem.W.mg_none_of X G b_sorted, PySem.W.mg_none_of X G b_str, PySem.W.mg_none_of X G b_tuple, dd_is_short_text, dd_all_small, dd_is_name, dd_is_free, dd_is_number, dd_is_value, dd_is_term, dd_rank_of_value, dd_rank_of, dd_l_cell_at, dd_l_word_by, dd_l_sign_by, dd_l_thing_by, dd_l_small, dd_l_kinds, dd_l_letter_in, dd_l_value_by, dd_l_facts_by, dd_l_before, dd_law⟩
  have F := fun_mk (st := s_law) l_law c_law p_law
  exact ⟨PySem.W.fnOf "law" "law" (defArgs s_law) (defBody s_law) (defScope s_law) .none kV_law dc_law pm_law an_law cd_law ct_law, fun s v => .of_eq rfl, fun base _ _ => law_ok t F⟩
end DL.My
open PySem PySem.W PyProof.Rows
set_option maxRecDepth 100000 in
set_option maxHeartbeats 0 in
theorem PySem.Challenge.cw_whyfacts_k01_words_and_order_holds : PySem.Challenge.rw_whyfacts_k01_words_and_order.Holds := by
  w_on; o_law; k_head; (case hw => w_witness2)
  k_fill
  refine DL.walkD (l := PySem.Challenge.rw_whyfacts_k01_words_and_order) (op := DL.My.op_law) (k := 15) (x := "_law_script") rfl rfl ⟨rfl, by decide, by decide⟩ (fun w h Y => PySem.W.kIn_of Y) DL.My.law_true ?F
  case F =>
    intro w mg fa h KX G hmg
    refine' DL.My.all_mk KX G hmg ?k1_MOST_RULES ?k1_MOST_FACTS ?k1_MOST_FILLS ?k1_MOST_WIDTH ?k1_MOST_PARTS ?k1_MOST_SIGNS ?k1_MOST_NUMBER ?k1_SMALL_LETTERS ?k1_GREAT_LETTERS ?k1_KEPT_WORDS ?k2_KEPT_WORDS ?b_abs ?b_all ?b_bool ?b_int ?b_isinstance ?b_len ?b_list ?b_range ?b_sorted ?b_str ?b_tuple ?a_is_short_text ?l_is_short_text ?c_is_short_text ?p_is_short_text ?a_all_small ?l_all_small ?c_all_small ?p_all_small ?a_is_name ?l_is_name ?c_is_name ?p_is_name ?a_is_free ?l_is_free ?c_is_free ?p_is_free ?a_is_number ?l_is_number ?c_is_number ?p_is_number ?a_is_value ?l_is_value ?c_is_value ?p_is_value ?a_is_term ?l_is_term ?c_is_term ?p_is_term ?a_rank_of_value ?l_rank_of_value ?c_rank_of_value ?p_rank_of_value ?a_rank_of ?l_rank_of ?c_rank_of ?p_rank_of ?a_l_cell_at ?l_l_cell_at ?c_l_cell_at ?p_l_cell_at ?a_l_word_by ?l_l_word_by ?c_l_word_by ?p_l_word_by ?a_l_sign_by ?l_l_sign_by ?c_l_sign_by ?p_l_sign_by ?a_l_thing_by ?l_l_thing_by ?c_l_thing_by ?p_l_thing_by ?a_l_small ?l_l_small ?c_l_small ?p_l_small ?a_l_kinds ?l_l_kinds ?c_l_kinds ?p_l_kinds ?a_l_letter_in ?l_l_letter_in ?c_l_letter_in ?p_l_letter_in ?a_l_value_by ?l_l_value_by ?c_l_value_by ?p_l_value_by ?a_l_facts_by ?l_l_facts_by ?c_l_facts_by ?p_l_facts_by ?a_l_before ?l_l_before ?c_l_before ?p_l_before ?a_law ?l_law ?c_law ?p_law
    (case k1_MOST_RULES => k_is)
    (case k1_MOST_FACTS => k_is)
    (case k1_MOST_FILLS => k_is)
    (case k1_MOST_WIDTH => k_is)
    (case k1_MOST_PARTS => k_is)
    (case k1_MOST_SIGNS => k_is)
    (case k1_MOST_NUMBER => k_is)
    (case k1_SMALL_LETTERS => k_is)
    (case k1_GREAT_LETTERS => k_is)
    (case k1_KEPT_WORDS => k_is)
    (case k2_KEPT_WORDS => k_is)
    (case b_abs => k_is)
    (case b_all => k_is)
    (case b_bool => k_is)
    (case b_int => k_is)
    (case b_isinstance => k_is)
    (case b_len => k_is)
    (case b_list => k_is)
    (case b_range => k_is)
    (case b_sorted => k_is)
    (case b_str => k_is)
    (case b_tuple => k_is)
    (case a_is_short_text => k_is)
    (case l_is_short_text => k_is)
    (case c_is_short_text => k_is)
    (case p_is_short_text => k_is)
    (case a_all_small => k_is)
    (case l_all_small => k_is)
    (case c_all_small => k_is)
    (case p_all_small => k_is)
    (case a_is_name => k_is)
    (case l_is_name => k_is)
    (case c_is_name => k_is)
    (case p_is_name => k_is)
    (case a_is_free => k_is)
    (case l_is_free => k_is)
    (case c_is_free => k_is)
    (case p_is_free => k_is)
    (case a_is_number => k_is)
    (case l_is_number => k_is)
    (case c_is_number => k_is)
    (case p_is_number => k_is)
    (case a_is_value => k_is)
    (case l_is_value => k_is)
    (case c_is_value => k_is)
    (case p_is_value => k_is)
    (case a_is_term => k_is)
    (case l_is_term => k_is)
    (case c_is_term => k_is)
    (case p_is_term => k_is)
    (case a_rank_of_value => k_is)
    (case l_rank_of_value => k_is)
    (case c_rank_of_value => k_is)
    (case p_rank_of_value => k_is)
    (case a_rank_of => k_is)
    (case l_rank_of => k_is)
    (case c_rank_of => k_is)
    (case p_rank_of => k_is)
    (case a_l_cell_at => k_is)
    (case l_l_cell_at => k_is)
    (case c_l_cell_at => k_is)
    (case p_l_cell_at => k_is)
    (case a_l_word_by => k_is)
    (case l_l_word_by => k_is)
    (case c_l_word_by => k_is)
    (case p_l_word_by => k_is)
    (case a_l_sign_by => k_is)
    (case l_l_sign_by => k_is)
    (case c_l_sign_by => k_is)
    (case p_l_sign_by => k_is)
    (case a_l_thing_by => k_is)
    (case l_l_thing_by => k_is)
    (case c_l_thing_by => k_is)
    (case p_l_thing_by => k_is)
    (case a_l_small => k_is)
    (case l_l_small => k_is)
    (case c_l_small => k_is)
    (case p_l_small => k_is)
    (case a_l_kinds => k_is)
    (case l_l_kinds => k_is)
    (case c_l_kinds => k_is)
    (case p_l_kinds => k_is)
    (case a_l_letter_in => k_is)
    (case l_l_letter_in => k_is)
    (case c_l_letter_in => k_is)
    (case p_l_letter_in => k_is)
    (case a_l_value_by => k_is)
    (case l_l_value_by => k_is)
    (case c_l_value_by => k_is)
    (case p_l_value_by => k_is)
    (case a_l_facts_by => k_is)
    (case l_l_facts_by => k_is)
    (case c_l_facts_by => k_is)
    (case p_l_facts_by => k_is)
    (case a_l_before => k_is)
    (case l_l_before => k_is)
    (case c_l_before => k_is)
    (case p_l_before => k_is)
    (case a_law => k_is)
    (case l_law => k_is)
    (case c_law => k_is)
    (case p_law => k_is)
