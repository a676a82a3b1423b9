import PyProof.Rows.All
import Wide.All
import OpenK.AllK
import Wide.FinOn
import Lean
import PyProof.EqAt
import PyProof.EqKinds
import PyProof.TupleCall
import PyProof.CodeObjX
import PyProof.NeKinds
import PyProof.ZipIter
import PyProof.EnumStmt
import PyProof.EnumMake
import KE.KDictOf
import PyProof.AttrMissHeap
import PyProof.Rows.SeqMore2
import PyProof.Rows.MinMaxN
import PyProof.DefMake
import PyProof.DefStmt
import PyProof.SeqRoads
import PySem.Challenge.RW_setsays_k46_tree_reduced_is_least_and_on
set_option Elab.async false
set_option linter.all false
set_option maxRecDepth 100000
/-! THE HAND LAYER, for ints, bools, texts, own classes, LISTS and tuples (index, slices, in, append, pop ..), calls, loops. Paste it whole ahead of your own text; what your proof does not reach may be deleted. -/
namespace L2
open PySem PySem.Spec PyProof.Rows

/-- a key: an int or a str -/
abbrev Key := Sum Int Str
/-- a truth as the number that it is -/
def blI (b : Bool) : Int := if b = true then 1 else 0
def isBl (k : Int) : Value → Bool
  | .bool b => k == blI b
  | _ => false
def keyIs : Key → Value → Bool
  | .inl k, v => Value.isInt k v || isBl k v
  | .inr x, v => Value.isStrOf x v
def keyH (w : World) : Key → Int
  | .inl k => hashInt k
  | .inr x => hashStr w x
theorem isBl_shape {k : Int} : ∀ {v : Value}, isBl k v = true → ∃ b, k = blI b ∧ v = Value.bool b := by
  intro v h
  cases v
  case bool b => exact ⟨b, eq_of_beq h, rfl⟩
  all_goals exact absurd h Bool.false_ne_true
theorem keyIs_shape : ∀ {k : Key} {v : Value}, keyIs k v = true → (∃ i t, k = Sum.inl i ∧ v = Value.int i t) ∨ (∃ x t, k = Sum.inr x ∧ v = Value.str x t) ∨ ∃ b, k = Sum.inl (blI b) ∧ v = Value.bool b
  | .inl i, v, h => by
    rcases (Bool.or_eq_true _ _).mp (show (Value.isInt i v || isBl i v) = true from h) with h | h
    · obtain ⟨t, e⟩ := Value.isInt_shape (k := i) (v := v) h
      exact .inl ⟨i, t, rfl, e⟩
    · obtain ⟨b, e, e'⟩ := isBl_shape h
      exact .inr (.inr ⟨b, by rw [e], e'⟩)
  | .inr x, v, h => by
    obtain ⟨t, e⟩ := Value.isStrOf_shape (x := x) (v := v) h
    exact .inr (.inl ⟨x, t, rfl, e⟩)
theorem keyIs_int (i : Int) (t : Tok) : keyIs (.inl i) (.int i t) = true := by simp [keyIs, Value.isInt]
theorem keyIs_bl (b : Bool) : keyIs (.inl (blI b)) (.bool b) = true := by simp [keyIs, isBl]
theorem blI_inj {a b : Bool} (e : blI a = blI b) : a = b := by
  cases a <;> cases b <;> first | rfl | exact absurd e (by decide)
theorem hash_bl {prog : Program} {w : World} {A : Around} {E : Value → Shared → Prop} {s : Shared} {b : Bool} {Q : Int → Shared → Prop} (h : Q (hashInt (blI b)) { s with toks := s.toks + 1 }) : wpAny (model prog w) A (pyHash (.bool b)) Q E s := by
  have hT : s.TypeIs (.bool b) "bool" := rfl
  have hr := rawHash_range (blI b)
  unfold pyHash
  refine wpAny_bind ?_
  rw [cRoomFor, if_neg (show ¬ [Value.bool b].any Value.onHeap = true from Bool.false_ne_true)]
  refine wpAny_pure (wpAny_bind (wpAny_specialOf hT PySem.F.slot_bool_hash.lookup ?_))
  show wpAny _ _ (if (some (Value.builtin "int.__hash__") == some Value.none) = true then _ else _) Q E s
  rw [if_neg (show ¬ (some (Value.builtin "int.__hash__") == some Value.none) = true from Bool.false_ne_true)]
  refine wpAny_bind (wpAny_specialOf hT PySem.F.slot_bool_hash.lookup ?_)
  show wpAny _ _ (callSpecialIfBoundUnlessNone? (.bool b) "__hash__" _ >>= _) Q E s
  refine wpAny_bind (wpAny_callSpecialIfBoundUnlessNone?_slot hT PySem.F.slot_bool_hash (wpAny_call_entry PySem.F.slot_bool_hash hT PySem.F.entry_int_hash ?_ (PySem.F.args_int_hash_1 _)))
  refine (show wpAny _ _ (do ret (← mkInt (rawHash (blI b)))) _ _ s from wpAny_ret_mkInt ?_)
  show wpAny _ _ (if (decide (-(2 : Int) ^ 63 ≤ rawHash (blI b)) && decide (rawHash (blI b) < 2 ^ 63)) = true then _ else _) Q E _
  rw [if_pos (by rw [decide_eq_true hr.1, decide_eq_true hr.2]; rfl)]
  exact wpAny_pure h
theorem keyIs_str (x : Str) (t : Tok) : keyIs (.inr x) (.str x t) = true := by simp [keyIs, Value.isStrOf]
theorem key_ll (a b : Int) : decide ((Sum.inl a : Key) = Sum.inl b) = (a == b) := by
  by_cases e : a = b
  · subst e; simp
  · have h : ¬ (Sum.inl a : Key) = Sum.inl b := fun q => e (Sum.inl.inj q)
    rw [decide_eq_false h]
    exact (beq_eq_false_iff_ne.mpr e).symm
theorem key_rr (a b : Str) : decide ((Sum.inr a : Key) = Sum.inr b) = decide (a = b) := by
  by_cases e : a = b
  · subst e; simp
  · have h : ¬ (Sum.inr a : Key) = Sum.inr b := fun q => e (Sum.inr.inj q)
    rw [decide_eq_false h, decide_eq_false e]
theorem key_lr (a : Int) (b : Str) : decide ((Sum.inl a : Key) = Sum.inr b) = false := decide_eq_false (fun q => nomatch q)
theorem key_rl (a : Str) (b : Int) : decide ((Sum.inr a : Key) = Sum.inl b) = false := decide_eq_false (fun q => nomatch q)

def mixKind (prog : Program) (w : World) : PySem.KeyKind prog w Key where
  is := keyIs
  hash := keyH w
  inj := fun v a b ha hb => by
    rcases keyIs_shape ha with ⟨i, t, rfl, rfl⟩ | ⟨x, t, rfl, rfl⟩ | ⟨c, rfl, rfl⟩
    · rcases keyIs_shape hb with ⟨j, u, rfl, e⟩ | ⟨y, u, rfl, e⟩ | ⟨d, rfl, e⟩
      · injection e with e1 _; rw [e1]
      · exact nomatch e
      · exact nomatch e
    · rcases keyIs_shape hb with ⟨j, u, rfl, e⟩ | ⟨y, u, rfl, e⟩ | ⟨d, rfl, e⟩
      · exact nomatch e
      · injection e with e1 _; rw [e1]
      · exact nomatch e
    · rcases keyIs_shape hb with ⟨j, u, rfl, e⟩ | ⟨y, u, rfl, e⟩ | ⟨d, rfl, e⟩
      · exact nomatch e
      · exact nomatch e
      · injection e with e1; rw [e1]
  byValue := fun k v h => by
    rcases keyIs_shape h with ⟨i, t, rfl, rfl⟩ | ⟨x, t, rfl, rfl⟩ | ⟨c, rfl, rfl⟩ <;> rfl
  pyHash := fun hv h => by
    rcases keyIs_shape hv with ⟨i, t, rfl, rfl⟩ | ⟨x, t, rfl, rfl⟩ | ⟨c, rfl, rfl⟩
    · exact wpAny_pyHash_int h
    · exact wpAny_pyHash_str h
    · exact hash_bl h
  eqBool := fun hu hv h => by
    rcases keyIs_shape hu with ⟨i, t, rfl, rfl⟩ | ⟨x, t, rfl, rfl⟩ | ⟨c, rfl, rfl⟩
    · rcases keyIs_shape hv with ⟨j, u, rfl, rfl⟩ | ⟨y, u, rfl, rfl⟩ | ⟨d, rfl, rfl⟩
      · rw [key_ll] at h; exact wpAny_eqBool_int h
      · rw [key_lr] at h; exact SeqAt.EqAt.int_str i t y u _ _ _ _ h
      · rw [key_ll] at h; exact SeqAt.EqAt.int_bool i t d _ _ _ _ h
    · rcases keyIs_shape hv with ⟨j, u, rfl, rfl⟩ | ⟨y, u, rfl, rfl⟩ | ⟨d, rfl, rfl⟩
      · rw [key_rl] at h; exact SeqAt.EqAt.str_int x t j u _ _ _ _ h
      · rw [key_rr] at h; exact wpAny_eqBool_str h
      · rw [key_rl] at h; exact SeqAt.EqAt.str_bool x t d _ _ _ _ h
    · rcases keyIs_shape hv with ⟨j, u, rfl, rfl⟩ | ⟨y, u, rfl, rfl⟩ | ⟨d, rfl, rfl⟩
      · rw [key_ll] at h; exact SeqAt.EqAt.bool_int c j u _ _ _ _ h
      · rw [key_lr] at h; exact SeqAt.EqAt.bool_str c y u _ _ _ _ h
      · rw [key_ll, show (blI c == blI d) = (c == d) by cases c <;> cases d <;> rfl] at h
        exact SeqAt.EqAt.bool_bool c d _ _ _ _ h
  «strs» := fun k x t v h => by
    rcases keyIs_shape h with ⟨i, u, rfl, e⟩ | ⟨y, u, rfl, e⟩ | ⟨d, rfl, e⟩
    · exact nomatch e
    · injection e with e1 _
      subst e1
      cases v <;> rfl
    · exact nomatch e

theorem mixKind_int (prog : Program) (w : World) (i : Int) (t : Tok) : (mixKind prog w).is (.inl i) (.int i t) = true := keyIs_int i t
theorem mixKind_str (prog : Program) (w : World) (x : Str) (t : Tok) : (mixKind prog w).is (.inr x) (.str x t) = true := keyIs_str x t
end L2

namespace L2
open PySem PySem.Spec PyProof.Rows

/-- a value, without the heap -/
inductive V where
  | non | bl (b : Bool) | int (i : Int) | str (x : Str) | byt (b : Array UInt8) | flt (b : UInt64) | ref (a : Addr) | ty (n : String)
  deriving DecidableEq

def RelV : V → Value → Prop
  | .non, u => u = Value.none
  | .bl b, u => u = Value.bool b
  | .int i, u => ∃ t, u = Value.int i t
  | .str x, u => ∃ t, u = Value.str x t
  | .byt b, u => ∃ t, u = Value.bytes b t
  | .flt b, u => ∃ t, u = Value.float b t
  | .ref a, u => u = Value.ref a
  | .ty n, u => u = Value.type n

abbrev Vals : List V → List Value → Prop := Paired RelV
theorem Vals.length {xs : List V} {us : List Value} (r : Vals xs us) : xs.length = us.length := Paired.length r
theorem Vals.get : ∀ {xs : List V} {us : List Value} {i : Nat} {x : V}, Vals xs us → xs[i]? = some x → ∃ u, us[i]? = some u ∧ RelV x u
  | _, _, _, _, .nil, e => by simp at e
  | _, _, 0, _, .cons r _, e => by simp at e; subst e; exact ⟨_, rfl, r⟩
  | _, _, i + 1, x, .cons _ t, e => by
    obtain ⟨u, h1, h2⟩ := Vals.get (i := i) (x := x) t (by simpa using e)
    exact ⟨u, by simpa using h1, h2⟩
theorem Vals.set {x : V} {u : Value} (r : RelV x u) : ∀ {xs : List V} {us : List Value} (i : Nat), Vals xs us → Vals (xs.set i x) (us.set i u)
  | _, _, _, .nil => .nil
  | _, _, 0, .cons _ t => .cons r t
  | _, _, i + 1, .cons q t => .cons q (Vals.set r i t)
theorem Vals.append : ∀ {xs ys : List V} {us ws : List Value}, Vals xs us → Vals ys ws → Vals (xs ++ ys) (us ++ ws)
  | _, _, _, _, .nil, s => s
  | _, _, _, _, .cons r t, s => .cons r (Vals.append t s)
theorem Vals.take : ∀ {xs : List V} {us : List Value} (n : Nat), Vals xs us → Vals (xs.take n) (us.take n)
  | _, _, 0, _ => .nil
  | _, _, _ + 1, .nil => .nil
  | _, _, n + 1, .cons r t => .cons r (Vals.take n t)
theorem Vals.drop : ∀ {xs : List V} {us : List Value} (n : Nat), Vals xs us → Vals (xs.drop n) (us.drop n)
  | _, _, 0, r => r
  | _, _, _ + 1, .nil => .nil
  | _, _, n + 1, .cons _ t => Vals.drop n t
theorem Vals.none_of : ∀ {xs : List V} {us : List Value} {i : Nat}, Vals xs us → xs[i]? = none → us[i]? = none := fun {xs us i} r e => by
  have h1 := r.length
  have h2 : xs.length ≤ i := List.getElem?_eq_none_iff.mp e
  exact List.getElem?_eq_none_iff.mpr (by omega)

def RelO : Option V → Option Value → Prop
  | some v, some u => RelV v u
  | none, none => True
  | _, _ => False
def KV {κ : Type} : List (κ × V) → List (κ × Value) → Prop := Paired fun (p : κ × V) (q : κ × Value) => p.1 = q.1 ∧ RelV p.2 q.2

/-- a key of a dict (00_mix): an int or a text -/
def kV : Key → V
  | .inl i => .int i
  | .inr x => .str x

/-- what stands at a tracked address -/
inductive HO where
  /-- a list -/
  | lst (xs : List V)
  /-- a tuple (never changes) -/
  | tup (xs : List V)
  /-- a dict whose keys are ints and texts; one whose keys are tuples of ints and texts (the empty one is both) -/
  | dK (kvs : List (Key × V)) | dT (kvs : List (List Key × V))
  /-- a set of ints: its members, its size -/
  | set (S : Int → Bool) (n : Nat)
  /-- an instance of the class at C, its dict at dx, its attributes -/
  | ins (C dx : Addr) (fs : List (Str × V))
  /-- the dict of the instance at x -/
  | own (x : Addr)
  /-- the dict of an exception -/
  | xd (fs : List (Str × V))
  /-- a bound method, f of x -/
  | met (f x : Addr)
  /-- a range object lo, lo + 1, .. below hi -/
  | rng (lo hi : Int)
  /-- a thing that is known to the object (the script; a dict while a loop walks it): read, never written while it is so -/
  | frz (o : Obj) (u : HO)
  /-- a code object's table -/
  | tbl (qs : List (Pos × Str)) (ps : Array Value)
  /-- any other thing, by what is true of its one object (a def of one's own: SetO a S n := HO.ext fun h => ..) -/
  | ext (φ : Heap → Prop)

abbrev Hp := Addr → Option HO
def upd (H : Hp) (a : Addr) (o : HO) : Hp := fun b => if b = a then some o else H b
theorem upd_same {H : Hp} {a : Addr} {o : HO} : upd H a o a = some o := by unfold upd; rw [if_pos rfl]
theorem upd_ne {H : Hp} {a b : Addr} {o : HO} (h : b ≠ a) : upd H a o b = H b := by unfold upd; rw [if_neg h]
/-- two objects of different content stand apart -/
theorem ne_of {H : Hp} {a b : Addr} {o u : HO} (h : H a = some o) (h' : H b = some u) (d : o ≠ u) : a ≠ b := by
  intro e; subst e; rw [h] at h'; exact d (Option.some.inj h')
theorem ne_of_none {H : Hp} {a b : Addr} {o : HO} (h : H a = some o) (h' : H b = none) : a ≠ b := by
  intro e; subst e; rw [h] at h'; cases h'

section
variable (P : Program) (w : World)
def CodeObj (o : Obj) (q : Str) : Prop := ∃ vs t, o.data = .fields vs ∧ vs[1]? = some (.str q t)
def ObjOk (H : Hp) (h : Heap) (a : Addr) : HO → Prop
  | .lst xs => xs.length ≤ sizeLine ∧ ∃ (its : List Value) (n : Nat), Vals xs its ∧ h.get? a = some { cls := .type "list", data := .seq its.toArray n }
  | .tup xs => xs.length ≤ sizeLine ∧ ∃ its : List Value, Vals xs its ∧ IsTup h a its.toArray
  | .dK kvs => kvs.length ≤ sizeLine ∧ (a == sysModules) = false ∧ ∃ vs, KV kvs vs ∧ h.DictOf (mixKind P w) a vs
  | .dT kvs => kvs.length ≤ sizeLine ∧ (a == sysModules) = false ∧ ∃ xs : List (List Key × Addr × Value),
      Paired (fun (p : List Key × V) (q : List Key × Addr × Value) => p.1 = q.1 ∧ H q.2.1 = some (.tup (p.1.map kV)) ∧ RelV p.2 q.2.2) kvs xs ∧
      ∃ o es ep, h.get? a = some o ∧ o.ExactDict ∧ o.data = .dict es ep ∧ es.toList = xs.map (entryOfKey (tupleKind (mixKind P w))) ∧ (xs.map (·.1)).Nodup
  | .set S n => h.SetOf (intKind P w) a S n
  | .ins C dx fs => H dx = some (.own a) ∧ fs.length ≤ 1000 ∧ dx ≠ a ∧ h.get? a = some (PySem.W.instObj C dx) ∧
      ∃ mA, h.Ns1 dx mA ∧ (∀ f, RelO (fs.lookup f) (mA f)) ∧ PySem.Within mA (fs.map (·.1))
  | .own _ => ∃ o, h.get? a = some o
  | .xd fs => ∃ mA, h.Ns1 a mA ∧ ∀ f, RelO (fs.lookup f) (mA f)
  | .rng lo hi => ∃ t u v, h.get? a = some { cls := .type "range", data := .fields #[.int lo t, .int hi u, .int 1 v] }
  | .frz o u => h.get? a = some o ∧ ObjOk H h a u
  | .tbl qs ps => ∃ more : Array Value, h.get? a = some { cls := .none, data := .fields (ps ++ more) } ∧ TriplesOk (ps ++ more).toList ∧ ∀ p ∈ qs, ∀ v, codeAmong p.1 (ps ++ more).toList = some v → ∃ c o, v = .ref c ∧ H c = some (.frz o (.own c)) ∧ CodeObj o p.2
  | .met f x => h.get? a = some (PySem.W.methodObj (.ref f) (.ref x))
  | .ext φ => φ h ∧ (∃ o, h.get? a = some o) ∧ ∀ h1 h2 : Heap, φ h1 → (∀ o, h1.get? a = some o → h2.get? a = some o) → φ h2
/-- the abstract heap is held -/
def HOk (H : Hp) (h : Heap) : Prop := ∀ a o, H a = some o → ObjOk P w H h a o
end

section
variable {P : Program} {w : World} {H H' : Hp} {h h' : Heap} {a : Addr} {o : HO}
theorem ObjOk.lt (x : ObjOk P w H h a o) : a < h.objs.size := by
  cases o with
  | lst xs => obtain ⟨_, _, _, _, e⟩ := x; exact Heap.lt_size e
  | tup xs => obtain ⟨_, _, _, p⟩ := x; exact p.lt
  | dK kvs => obtain ⟨_, _, _, _, o, _, _, e, _⟩ := x; exact Heap.lt_size e
  | dT kvs => obtain ⟨_, _, _, _, o, _, _, e, _⟩ := x; exact Heap.lt_size e
  | set S n => obtain ⟨o, _, _, _, e, _⟩ := x; exact Heap.lt_size e
  | ins C dx fs => obtain ⟨_, _, _, e, _⟩ := x; exact Heap.lt_size e
  | own y => obtain ⟨_, e⟩ := x; exact Heap.lt_size e
  | xd fs => obtain ⟨_, ⟨_, _, _, e, _⟩, _⟩ := x; exact Heap.lt_size e
  | rng lo hi => obtain ⟨_, _, _, e⟩ := x; exact Heap.lt_size e
  | frz ob u => obtain ⟨e, _⟩ := x; exact Heap.lt_size e
  | tbl qs ps => obtain ⟨_, e, _⟩ := x; exact Heap.lt_size e
  | met f y => exact Heap.lt_size (show h.get? a = some _ from x)
  | ext φ => obtain ⟨_, ⟨_, e⟩, _⟩ := x; exact Heap.lt_size e
theorem Paired.mapP {α β : Type} {F G : α → β → Prop} : ∀ {l₁ : List α} {l₂ : List β}, Paired F l₁ l₂ → (∀ a b, F a b → G a b) → Paired G l₁ l₂
  | _, _, .nil, _ => .nil
  | _, _, .cons r t, f => .cons (f _ _ r) (Paired.mapP t f)
/-- what an object's description leans on: its own object, its own dict, the tuples -/
theorem ObjOk.stay (x : ObjOk P w H h a o) (k : ∀ b u, (b = a ∨ H b = some (.own a)) → h.get? b = some u → h'.get? b = some u)
    (ho : ∀ b, H b = some (.own a) → H' b = some (.own a)) (hf : ∀ b o u q, CodeObj o q → H b = some (.frz o u) → H' b = some (.frz o u)) (ht : ∀ b xs, H b = some (.tup xs) → H' b = some (.tup xs)) : ObjOk P w H' h' a o := by
  induction o with
  | lst xs => obtain ⟨z, its, n, r, e⟩ := x; exact ⟨z, its, n, r, k _ _ (.inl rfl) e⟩
  | tup xs => obtain ⟨z, its, r, ob, e, c⟩ := x; exact ⟨z, its, r, ob, k _ _ (.inl rfl) e, c⟩
  | dK kvs => obtain ⟨z, y, vs, r, ob, es, ep, e, c⟩ := x; exact ⟨z, y, vs, r, ob, es, ep, k _ _ (.inl rfl) e, c⟩
  | dT kvs =>
    obtain ⟨z, y, xs, r, ob, es, ep, e, c⟩ := x
    exact ⟨z, y, xs, Paired.mapP r fun p q z => ⟨z.1, ht _ _ z.2.1, z.2.2⟩, ob, es, ep, k _ _ (.inl rfl) e, c⟩
  | set S n => obtain ⟨ob, es, ep, t, e, c⟩ := x; exact ⟨ob, es, ep, t, k _ _ (.inl rfl) e, c⟩
  | ins C dx fs =>
    obtain ⟨d, z, ne, e, mA, ⟨od, es, ep, e2, c⟩, r⟩ := x
    exact ⟨ho _ d, z, ne, k _ _ (.inl rfl) e, mA, ⟨od, es, ep, k _ _ (.inr d) e2, c⟩, r⟩
  | own y => obtain ⟨ob, e⟩ := x; exact ⟨ob, k _ _ (.inl rfl) e⟩
  | xd fs => obtain ⟨mA, ⟨od, es, ep, e, c⟩, r⟩ := x; exact ⟨mA, ⟨od, es, ep, k _ _ (.inl rfl) e, c⟩, r⟩
  | rng lo hi => obtain ⟨t, u, v, e⟩ := x; exact ⟨t, u, v, k _ _ (.inl rfl) e⟩
  | frz ob u ih => obtain ⟨e, q⟩ := x; exact ⟨k _ _ (.inl rfl) e, ih q⟩
  | tbl qs ps => obtain ⟨more, e, t, c⟩ := x; exact ⟨more, k _ _ (.inl rfl) e, t, fun p hp v q => let ⟨c1, o, r, z, co⟩ := c p hp v q; ⟨c1, o, r, hf _ _ _ _ co z, co⟩⟩
  | met f y =>
    have e : h.get? a = some (PySem.W.methodObj (.ref f) (.ref y)) := x
    show h'.get? a = some (PySem.W.methodObj (.ref f) (.ref y))
    exact k a _ (.inl rfl) e
  | ext φ => obtain ⟨p, ⟨o, e⟩, st⟩ := x; exact ⟨st _ _ p fun o q => k _ _ (.inl rfl) q, ⟨o, k _ _ (.inl rfl) e⟩, st⟩
theorem HOk.lt (x : HOk P w H h) (e : H a = some o) : a < h.objs.size := (x a o e).lt
theorem HOk.fresh (x : HOk P w H h) (e : h.objs.size ≤ a) : H a = none := by
  cases q : H a with
  | none => rfl
  | some u => exact absurd (Nat.lt_of_lt_of_le (x.lt q) e) (Nat.lt_irrefl _)
/-- every object of the heap is kept -/
theorem HOk.kept (x : HOk P w H h) (k : ∀ b u, h.get? b = some u → h'.get? b = some u) : HOk P w H h' := fun a o e =>
  (x a o e).stay (fun b u _ q => k b u q) (fun _ q => q) (fun _ _ _ _ _ q => q) fun _ _ q => q
/-- a new object is laid and tracked -/
theorem HOk.laid (x : HOk P w H h) (k : ∀ b u, h.get? b = some u → h'.get? b = some u) (hp : h.objs.size ≤ a) (new : ObjOk P w (upd H a o) h' a o) : HOk P w (upd H a o) h' := fun b u e => by
  have hn := x.fresh hp
  by_cases hb : b = a
  · subst hb; rw [upd_same] at e; cases e; exact new
  · rw [upd_ne hb] at e
    exact (x b u e).stay (fun c v _ q => k c v q) (fun c q => by rw [upd_ne (ne_of_none q hn)]; exact q) (fun c _ _ _ _ q => by rw [upd_ne (ne_of_none q hn)]; exact q) fun c xs q => by rw [upd_ne (ne_of_none q hn)]; exact q
end

/-- what may be read as u: it is u, or a known u -/
def Rd (H : Hp) (a : Addr) (u : HO) : Prop := H a = some u ∨ ∃ o, H a = some (.frz o u)
theorem Rd.of {H : Hp} {a : Addr} {u : HO} (h : H a = some u) : Rd H a u := .inl h
theorem Rd.ok {P : Program} {w : World} {H : Hp} {h : Heap} {a : Addr} {u : HO} (r : Rd H a u) (x : HOk P w H h) : ObjOk P w H h a u := by
  rcases r with r | ⟨o, r⟩
  · exact x a u r
  · obtain ⟨_, q⟩ := x a _ r
    exact q
/-- what may be written -/
def Mut : Option HO → Prop
  | some (.lst _) => True
  | some (.dK _) => True
  | some (.dT _) => True
  | some (.set _ _) => True
  | some (.ins _ _ _) => True
  | some (.ext _) => True
  | _ => False
section
variable {P : Program} {w : World} {H : Hp} {h h' : Heap} {x e : Addr} {o' : HO}
/-- the object at e is changed: x itself, or the dict of the instance x -/
theorem HOk.write (ok : HOk P w H h) (mu : Mut (H x)) (he : e = x ∨ H e = some (.own x)) (k : ∀ b u, b ≠ e → h.get? b = some u → h'.get? b = some u) (heo : ∃ u, h'.get? e = some u)
    (new : ObjOk P w (upd H x o') h' x o') : HOk P w (upd H x o') h' := fun b u q => by
  have nown : ∀ c y, H c = some (.own y) → c ≠ x := fun c y r z => by subst z; rw [r] at mu; exact mu
  have ntup : ∀ c xs, H c = some (.tup xs) → c ≠ x := fun c xs r z => by subst z; rw [r] at mu; exact mu
  have nfrz : ∀ c o y, H c = some (.frz o y) → c ≠ x := fun c o y r z => by subst z; rw [r] at mu; exact mu
  by_cases hb : b = x
  · subst hb; rw [upd_same] at q; cases q; exact new
  · rw [upd_ne hb] at q
    by_cases hbe : b = e
    · have q' : H b = some (.own x) := by
        rcases he with z | z
        · exact absurd (hbe.trans z) hb
        · rw [hbe]; exact z
      rw [q] at q'; cases q'
      obtain ⟨v, hv⟩ := heo
      exact ⟨v, by rw [hbe]; exact hv⟩
    · refine (ok b u q).stay (fun c v hc r => k c v ?_ r) (fun c r => by rw [upd_ne (nown c b r)]; exact r) (fun c o y _ _ r => by rw [upd_ne (nfrz c o y r)]; exact r) fun c xs r => by rw [upd_ne (ntup c xs r)]; exact r
      rcases hc with rfl | hc
      · exact hbe
      · rintro rfl
        rcases he with z | z
        · exact nown c b hc z
        · rw [hc] at z; cases z; exact hb rfl
end

/-! ### kept unless tracked; of the frames at fs (the callers') the slots may change (an exception that passes writes there); of the records at ex (iterators) nothing is said -/
structure Un (fs ex : List Addr) (H H' : Hp) (h h' : Heap) : Prop where
  keep : ∀ b o, h.get? b = some o → H b = none → b ∉ fs → b ∉ ex → h'.get? b = some o
  slot : ∀ b o, h.get? b = some o → H b = none → b ∈ fs → b ∉ ex → ∃ sl, h'.get? b = some { o with slots := sl }
  free : ∀ b o, h.get? b = some o → H b = none → b ∉ ex → H' b = none
  there : ∀ b o, h.get? b = some o → b ∉ ex → ∃ o', h'.get? b = some o'
  tups : ∀ b xs, H b = some (.tup xs) → H' b = some (.tup xs)
  frzs : ∀ b o u, H b = some (.frz o u) → H' b = some (.frz o u)
  tbls : ∀ b qs ps, H b = some (.tbl qs ps) → H' b = some (.tbl qs ps)
section
variable {fs fs' ex ex' : List Addr} {H H1 H2 : Hp} {h h1 h2 h' : Heap} {a x e : Addr} {o : HO}
theorem Un.any (u : Un fs ex H H1 h h1) {b : Addr} {ob : Obj} (q : h.get? b = some ob) (n : H b = none) (hx : b ∉ ex) : ∃ sl, h1.get? b = some { ob with slots := sl } := by
  by_cases hb : b ∈ fs
  · exact u.slot b ob q n hb hx
  · exact ⟨ob.slots, u.keep b ob q n hb hx⟩
theorem Un.trans (a : Un fs ex H H1 h h1) (b : Un fs ex H1 H2 h1 h2) : Un fs ex H H2 h h2 where
  keep := fun c ob q n hc hx => b.keep c ob (a.keep c ob q n hc hx) (a.free c ob q n hx) hc hx
  slot := fun c ob q n hc hx => by
    obtain ⟨sl, e1⟩ := a.slot c ob q n hc hx
    obtain ⟨sl', e2⟩ := b.slot c _ e1 (a.free c ob q n hx) hc hx
    exact ⟨sl', e2⟩
  free := fun c ob q n hx => by
    obtain ⟨o', e1⟩ := a.there c ob q hx
    exact b.free c o' e1 (a.free c ob q n hx) hx
  there := fun c ob q hx => by
    obtain ⟨o', e1⟩ := a.there c ob q hx
    exact b.there c o' e1 hx
  tups := fun c xs q => b.tups c xs (a.tups c xs q)
  frzs := fun c ob xs q => b.frzs c ob xs (a.frzs c ob xs q)
  tbls := fun c qs ps q => b.tbls c qs ps (a.tbls c qs ps q)
theorem Un.kept (k : ∀ b u, h.get? b = some u → h'.get? b = some u) : Un fs ex H H h h' :=
  ⟨fun b ob q _ _ _ => k b ob q, fun b ob q _ _ _ => ⟨ob.slots, k b ob q⟩, fun _ _ _ n _ => n, fun b ob q _ => ⟨ob, k b ob q⟩, fun _ _ q => q, fun _ _ _ q => q, fun _ _ _ q => q⟩
theorem Un.refl : Un fs ex H H h h := Un.kept fun _ _ q => q
theorem Un.laid (k : ∀ b u, h.get? b = some u → h'.get? b = some u) (hp : h.objs.size ≤ a) (hn : H a = none) : Un fs ex H (upd H a o) h h' where
  keep := fun b u q _ _ _ => k b u q
  slot := fun b u q _ _ _ => ⟨u.slots, k b u q⟩
  free := fun b u q n _ => by rw [upd_ne (Nat.ne_of_lt (Nat.lt_of_lt_of_le (Heap.lt_size q) hp))]; exact n
  there := fun b u q _ => ⟨u, k b u q⟩
  tups := fun b xs q => by rw [upd_ne (ne_of_none q hn)]; exact q
  frzs := fun b u xs q => by rw [upd_ne (ne_of_none q hn)]; exact q
  tbls := fun b qs ps q => by rw [upd_ne (ne_of_none q hn)]; exact q
theorem Un.write (mu : Mut (H x)) (he : e = x ∨ H e = some (.own x)) (k : ∀ b u, b ≠ e → h.get? b = some u → h'.get? b = some u) (heo : ∃ u, h'.get? e = some u) : Un fs ex H (upd H x o) h h' := by
  have hx : ∀ b, H b = none → b ≠ x := fun b n z => by subst z; rw [n] at mu; exact mu
  have hb : ∀ b, H b = none → b ≠ e := fun b n z => by
    subst z
    rcases he with r | r
    · exact hx b n r
    · rw [n] at r; cases r
  have hm : ∀ b u, H b = some u → ¬ Mut (some u) → b ≠ x := fun b u q nm z => by subst z; rw [q] at mu; exact nm mu
  refine ⟨fun b u q n _ _ => k b u (hb b n) q, fun b u q n _ _ => ⟨u.slots, k b u (hb b n) q⟩, fun b u q n _ => by rw [upd_ne (hx b n)]; exact n, fun b u q _ => ?_,
    fun b xs q => by rw [upd_ne (hm b _ q fun z => z)]; exact q, fun b u xs q => by rw [upd_ne (hm b _ q fun z => z)]; exact q, fun b qs ps q => by rw [upd_ne (hm b _ q fun z => z)]; exact q⟩
  by_cases hbe : b = e
  · subst hbe; exact heo
  · exact ⟨u, k b u hbe q⟩
theorem Un.mono (u : Un fs ex H H1 h h1) (hs : ∀ b ∈ fs, b ∈ fs') (hx : ∀ b ∈ ex, b ∈ ex') : Un fs' ex' H H1 h h1 :=
  ⟨fun b ob q n hb he => u.keep b ob q n (fun z => hb (hs b z)) fun z => he (hx b z), fun _ _ q n _ he => u.any q n fun z => he (hx _ z), fun b ob q n he => u.free b ob q n fun z => he (hx b z), fun b ob q he => u.there b ob q fun z => he (hx b z), u.tups, u.frzs, u.tbls⟩
end

/-! ### the heap without what is tracked -/
def trk (h : Heap) (H : Hp) : List Addr := (List.range h.objs.size).filter fun a => (H a).isSome
def hidT (h : Heap) (H : Hp) : Heap := PySem.W.hideAll h (trk h H)
theorem hidT_size (h : Heap) (H : Hp) : (hidT h H).objs.size = h.objs.size := PySem.W.hideAll_size _ _
theorem hidT_get {h : Heap} {H : Hp} {b : Addr} {o : Obj} (e : h.get? b = some o) (n : H b = none) : (hidT h H).get? b = some o :=
  PySem.W.hideAll_get _ e fun hm => by
    have q : (H b).isSome = true := (List.mem_filter.mp hm).2
    rw [n] at q; simp at q
theorem of_hidT {h : Heap} {H : Hp} {b : Addr} {o : Obj} (e : (hidT h H).get? b = some o) : h.get? b = some o ∧ H b = none := by
  have e' : h.get? b = some o := PySem.W.of_hideAll (trk h H) e
  refine ⟨e', ?_⟩
  cases q : H b with
  | none => rfl
  | some x =>
    have hm : b ∈ trk h H := List.mem_filter.mpr ⟨List.mem_range.mpr (Heap.lt_size e'), by simp [q]⟩
    have z : (hidT h H).get? b = none := PySem.W.hideAll_none (trk h H) hm
    rw [z] at e; cases e

/-! ### OpenK's ledger, filled with every new object but one -/
def allNews (g h : Heap) (L : Addr) : List (Addr × Obj) := (List.range h.objs.size).filterMap fun a => if a = L ∨ (g.get? a).isSome = true then none else (h.get? a).map fun o => (a, o)
def rest (g h : Heap) (L d : Addr) : List (Addr × Obj) := (allNews g h L).filter fun p => decide (p.1 ≠ d)
end L2

namespace L2
open PySem PySem.Spec PyProof.Rows

/-- the module's facts, over the base: the heap at the law's entry without what is tracked there -/
structure Mod (K : PySem.W.Frag) (mg : Str → Option Value) (base : Heap) : Prop where
  kin : K.In base
  glob : base.Ns mainGlobals mg
  blt : ∃ mb, base.Ns builtinsNs mb ∧ ∀ x : Str, x ≠ "__name__" → mb x = bootBuiltins x
  nolimit : base.NoLimit

/-- the context: a def's body (or a comprehension's block) running. base: fixed through the whole law; s₀, H₀: the entry; outer: the frames whose slots others may change (a def's callers); stack: all frames that run;
   ex: iterators that were made ahead of the entry and are walked here (a comprehension's); fn: the names whose cells were made at the entry (a def: all; a comprehension's block: its own); calm: not within an except suite; pn: pins that every state bears; xe: what is wanted of an exception that leaves the code -/
structure Cx where
  prog : Program
  w : World
  K : PySem.W.Frag
  mg : Str → Option Value
  base : Heap
  A : Around
  N : List Str
  s₀ : Shared
  H₀ : Hp
  env : Env
  outer : List Env
  stack : List Env
  ex : List Addr
  fn : Str → Bool
  calm : Bool
  pn : List (Addr × Obj)
  xe : Value → Shared → Prop
/-- the callers' frames -/
def frs (l : List Env) : List Addr := l.filterMap (·.frame)
abbrev Cx.fs (X : Cx) : List Addr := frs X.outer

def Vis (sc : Scope) (x : Str) : Prop := sc.names.lookup x = some .local ∨ sc.names.lookup x = some .cell ∨ sc.names.lookup x = some .free
def Loc (sc : Scope) (x : Str) : Prop := sc.names.lookup x = some .local ∨ sc.names.lookup x = some .cell
def Look (env : Env) (h : Heap) (m : Str → Option Value) (x : Str) (u : Value) : Prop :=
  (env.kindOf x = some .local ∧ m x = some u) ∨ ((env.kindOf x = some .cell ∨ env.kindOf x = some .free) ∧ ∃ c, env.cells.lookup x = some c ∧ h.IsCell c (some u))

structure Cx.Ok (X : Cx) : Prop where
  mod : Mod X.K X.mg X.base
  kind : X.env.scope.kind = .function
  glob : X.env.globals = mainGlobals
  blt : X.env.builtins = builtinsNs
  above : X.s₀.heap.objs.size ≤ X.env.locals
  inj : ∀ x y c, X.env.cells.lookup x = some c → X.env.cells.lookup y = some c → x = y
  has : ∀ x, (X.env.kindOf x = some .cell ∨ X.env.kindOf x = some .free) → ∃ c, X.env.cells.lookup x = some c
  cab : ∀ x c, X.fn x = true → X.env.cells.lookup x = some c → X.s₀.heap.objs.size ≤ c
  hd : X.calm = true → X.A.handled = none
  frames : X.A.frames = some X.stack
  stk : X.stack = X.outer ∨ (X.stack = X.env :: X.outer ∧ X.env.frame = some X.env.locals)
  exf : ∀ b ∈ X.ex, b ≠ X.env.locals ∧ ∀ x c, X.env.cells.lookup x = some c → c ≠ b
  bs : ∀ b o, X.base.get? b = some o → X.s₀.heap.get? b = some o ∧ X.H₀ b = none
  bsz : X.base.objs.size ≤ X.s₀.heap.objs.size
  noex : ∀ b o, X.base.get? b = some o → b ∉ X.ex
  exfs : ∀ b ∈ X.ex, b ∉ X.fs
  funs : X.s₀.heap.FunFrames X.base X.outer
  frf : ∀ b ∈ X.fs, X.H₀ b = none

structure Inv (X : Cx) (pins : List (Addr × Obj)) (σ : List (Option V)) (H : Hp) (s : Shared) : Prop where
  ok : X.Ok
  os : s.os = X.s₀.os
  bare : AllBare s.gens
  base : Un X.fs X.ex X.H₀ H X.s₀.heap s.heap
  loc : ∃ m, s.heap.Ns X.env.locals m ∧ ∀ (i : Nat) (x : Str) (v : V), X.N[i]? = some x → σ[i]? = some (some v) → Vis X.env.scope x → ∃ u, RelV v u ∧ Look X.env s.heap m x u
  cell : ∀ x c, X.env.cells.lookup x = some c → ∃ v, s.heap.IsCell c v
  free : H X.env.locals = none
  freeC : ∀ x c, X.env.cells.lookup x = some c → H c = none
  pin : ∀ p ∈ X.pn ++ pins, s.heap.get? p.1 = some p.2 ∧ H p.1 = none ∧ p.1 ≠ X.env.locals ∧ p.1 ∉ X.fs ∧ ∀ v, p.2.data ≠ .cell v
  hok : HOk X.prog X.w H s.heap
  len : σ.length = X.N.length

section
variable {X : Cx} {pins : List (Addr × Obj)} {σ : List (Option V)} {H H' : Hp} {s : Shared} {h' : Heap}

theorem Cx.Ok.nofr (ok : X.Ok) {b : Addr} {o : Obj} (e : X.base.get? b = some o) : b ∉ X.fs := fun hb => by
  have := (ok.funs.mem hb).1
  rw [e] at this; cases this
theorem Inv.bs (I : Inv X pins σ H s) : ∀ b o, X.base.get? b = some o → s.heap.get? b = some o ∧ H b = none := fun b o e =>
  ⟨I.base.keep b o (I.ok.bs b o e).1 (I.ok.bs b o e).2 (I.ok.nofr e) (I.ok.noex b o e), I.base.free b o (I.ok.bs b o e).1 (I.ok.bs b o e).2 (I.ok.noex b o e)⟩
theorem Inv.bk (I : Inv X pins σ H s) : ∀ b o, X.base.get? b = some o → s.heap.get? b = some o := fun b o e => (I.bs b o e).1
theorem Inv.mod (I : Inv X pins σ H s) : Mod X.K X.mg X.base := I.ok.mod
theorem Inv.kIn (I : Inv X pins σ H s) : X.K.In s.heap := I.ok.mod.kin.keeps I.bk
theorem Inv.nolimit (I : Inv X pins σ H s) : s.heap.NoLimit := I.ok.mod.nolimit.keeps I.bk
/-- the frame over the base: for OpenK's rules (K.In X.base is I.mod.kin) -/
theorem Inv.fr (I : Inv X pins σ H s) : ∃ m, Fr X.base X.env.locals s.heap m :=
  let ⟨m, hn, _⟩ := I.loc
  ⟨m, hn, I.bk, Nat.le_trans I.ok.bsz I.ok.above⟩
theorem Inv.lt (I : Inv X pins σ H s) : X.env.locals < s.heap.objs.size := let ⟨_, hn, _⟩ := I.loc; hn.lt
theorem Inv.sz (I : Inv X pins σ H s) : X.s₀.heap.objs.size ≤ s.heap.objs.size := Nat.le_trans I.ok.above (Nat.le_of_lt I.lt)
theorem Inv.nofs (I : Inv X pins σ H s) {a : Addr} (h : s.heap.objs.size ≤ a) : a ∉ X.fs := fun hb => by
  obtain ⟨_, o, ho, _⟩ := I.ok.funs.mem hb
  exact absurd (Nat.lt_of_lt_of_le (Heap.lt_size ho) (Nat.le_trans I.sz h)) (Nat.lt_irrefl _)
theorem Inv.cne (I : Inv X pins σ H s) : ∀ x c, X.env.cells.lookup x = some c → c ≠ X.env.locals := fun x c e z => by
  obtain ⟨v, o, ho, hd⟩ := I.cell x c e
  obtain ⟨m, ⟨o', es, ep, ho', hd', _⟩, _⟩ := I.loc
  rw [z, ho'] at ho; cases ho; rw [hd'] at hd; cases hd
theorem Inv.funs (I : Inv X pins σ H s) : s.heap.FunFrames X.base X.outer := by
  have all : ∀ (l : List Env), (∀ b ∈ frs l, b ∈ X.fs) → X.s₀.heap.FunFrames X.base l → s.heap.FunFrames X.base l := by
    intro l
    induction l with
    | nil => intro _ _; trivial
    | cons env r ih =>
      intro hs hl
      obtain ⟨hk, ⟨L, o, hf, hn, ho, hd⟩, hr⟩ := hl
      have hL : L ∈ X.fs := hs L (by unfold frs; rw [List.filterMap_cons, hf]; exact List.mem_cons_self)
      obtain ⟨sl, e⟩ := I.base.slot L o ho (I.ok.frf L hL) hL fun z => I.ok.exfs L z hL
      exact ⟨hk, ⟨L, _, hf, hn, e, hd⟩, ih (fun b hb => hs b (by unfold frs; rw [List.filterMap_cons, hf]; exact List.mem_cons_of_mem _ hb)) hr⟩
  exact all X.outer (fun _ hb => hb) I.ok.funs

/-- the frames that run, for a call -/
theorem Inv.stack (I : Inv X pins σ H s) : s.heap.FunFrames X.base X.stack := by
  rcases I.ok.stk with e | ⟨e, hf⟩
  · rw [e]; exact I.funs
  · rw [e]
    obtain ⟨m, hn, _⟩ := I.loc
    refine .cons (by rw [I.ok.kind]; decide) hf hn ?_ I.funs
    exact Heap.get?_none_of_le (Nat.le_trans I.ok.bsz I.ok.above)
theorem Inv.stkSub (I : Inv X pins σ H s) : ∀ b ∈ frs X.stack, b ∈ X.env.locals :: X.fs := fun b hb => by
  rcases I.ok.stk with e | ⟨e, hf⟩
  · rw [e] at hb; exact List.mem_cons_of_mem _ hb
  · rw [e] at hb
    unfold frs at hb
    rw [List.filterMap_cons, hf] at hb
    exact hb
theorem Inv.stkFree (I : Inv X pins σ H s) : ∀ b ∈ frs X.stack, H b = none := fun b hb => by
  rcases List.mem_cons.mp (I.stkSub b hb) with e | hb
  · rw [e]; exact I.free
  · obtain ⟨_, o, ho, _⟩ := I.ok.funs.mem hb
    exact I.base.free b o ho (I.ok.frf b hb) fun z => I.ok.exfs b z hb

/-- THE STEP: the untracked objects but the frame and the records at ch are kept (the callers' frames up to slots), the frame's map is kept, the new abstract heap is held -/
theorem Inv.step {g' : Array GenState} {t' : Nat} {d' : Drawn} {ch : List Addr} (I : Inv X pins σ H s)
    (hch : ∀ b ∈ ch, (b ∈ X.ex ∨ X.s₀.heap.objs.size ≤ b) ∧ b ≠ X.env.locals ∧ (∀ x c, X.env.cells.lookup x = some c → c ≠ b) ∧ ∀ p ∈ X.pn ++ pins, p.1 ≠ b)
    (keep : ∀ b o, b ≠ X.env.locals → b ∉ X.fs → b ∉ ch → s.heap.get? b = some o → H b = none → h'.get? b = some o)
    (slot : ∀ b o, b ≠ X.env.locals → b ∈ X.fs → b ∉ ch → s.heap.get? b = some o → H b = none → ∃ sl, h'.get? b = some { o with slots := sl }) (free : ∀ b o, b ∉ ch → s.heap.get? b = some o → H b = none → H' b = none)
    (there : ∀ b o, b ∉ ch → s.heap.get? b = some o → ∃ o', h'.get? b = some o')
    (tups : ∀ b xs, H b = some (.tup xs) → H' b = some (.tup xs)) (frzs : ∀ b o u, H b = some (.frz o u) → H' b = some (.frz o u)) (tbls : ∀ b qs ps, H b = some (.tbl qs ps) → H' b = some (.tbl qs ps))
    (ns : ∀ m, s.heap.Ns X.env.locals m → h'.Ns X.env.locals m) (hok : HOk X.prog X.w H' h') (hg : AllBare g') :
    Inv X pins σ H' { s with heap := h', gens := g', drawn := d', toks := t' } := by
  have neL : ∀ b o, X.s₀.heap.get? b = some o → b ≠ X.env.locals := fun b o e => Nat.ne_of_lt (Nat.lt_of_lt_of_le (Heap.lt_size e) I.ok.above)
  have neC : ∀ b o, X.s₀.heap.get? b = some o → b ∉ X.ex → b ∉ ch := fun b o e hx hb => by
    rcases (hch b hb).1 with z | z
    · exact hx z
    · exact absurd (Nat.lt_of_lt_of_le (Heap.lt_size e) z) (Nat.lt_irrefl _)
  have cellK : ∀ x c, X.env.cells.lookup x = some c → ∀ v, s.heap.IsCell c v → h'.IsCell c v := fun x c e v ⟨o, ho, hd⟩ => by
    have nch : c ∉ ch := fun z => (hch c z).2.2.1 x c e rfl
    by_cases hc : c ∈ X.fs
    · obtain ⟨sl, q⟩ := slot c o (I.cne x c e) hc nch ho (I.freeC x c e)
      exact ⟨_, q, hd⟩
    · exact ⟨o, keep c o (I.cne x c e) hc nch ho (I.freeC x c e), hd⟩
  refine ⟨I.ok, I.os, hg, ⟨fun b o e n hb hx => ?_, fun b o e n hb hx => ?_, fun b o e n hx => ?_, fun b o e hx => ?_, fun b xs e => tups b xs (I.base.tups b xs e), fun b o xs e => frzs b o xs (I.base.frzs b o xs e), fun b qs ps e => tbls b qs ps (I.base.tbls b qs ps e)⟩, ?_, fun x c e => ?_, ?_, fun x c e => ?_, fun p hp => ?_, hok, I.len⟩
  · exact keep b o (neL b o e) hb (neC b o e hx) (I.base.keep b o e n hb hx) (I.base.free b o e n hx)
  · obtain ⟨sl, e1⟩ := I.base.slot b o e n hb hx
    obtain ⟨sl', e2⟩ := slot b _ (neL b o e) hb (neC b o e hx) e1 (I.base.free b o e n hx)
    exact ⟨sl', e2⟩
  · obtain ⟨o', e1⟩ := I.base.there b o e hx
    exact free b o' (neC b o e hx) e1 (I.base.free b o e n hx)
  · obtain ⟨o', e1⟩ := I.base.there b o e hx
    exact there b o' (neC b o e hx) e1
  · obtain ⟨m, hn, hl⟩ := I.loc
    refine ⟨m, ns m hn, fun i x v e1 e2 e3 => ?_⟩
    obtain ⟨u, r, l⟩ := hl i x v e1 e2 e3
    refine ⟨u, r, ?_⟩
    rcases l with l | ⟨k, c, e, z⟩
    · exact .inl l
    · exact .inr ⟨k, c, e, cellK x c e _ z⟩
  · obtain ⟨v, z⟩ := I.cell x c e
    exact ⟨v, cellK x c e v z⟩
  · obtain ⟨m, ⟨o, _, _, ho, _⟩, _⟩ := I.loc
    exact free _ o (fun z => (hch _ z).2.1 rfl) ho I.free
  · obtain ⟨v, o, ho, hd⟩ := I.cell x c e
    exact free c o (fun z => (hch c z).2.2.1 x c e rfl) ho (I.freeC x c e)
  · obtain ⟨e, n, ne, nf, d⟩ := I.pin p hp
    have nch : p.1 ∉ ch := fun z => (hch p.1 z).2.2.2 p hp rfl
    exact ⟨keep p.1 p.2 ne nf nch e n, free p.1 p.2 nch e n, ne, nf, d⟩
/-- .. where the frame's own object is kept too -/
theorem Inv.un {t' : Nat} (I : Inv X pins σ H s) (u : Un X.fs [] H H' s.heap h') (hok : HOk X.prog X.w H' h') : Inv X pins σ H' { s with heap := h', toks := t' } := by
  obtain ⟨m, ⟨o, es, ep, ho, r⟩, _⟩ := id I.loc
  obtain ⟨sl, hL⟩ := u.any ho I.free (by simp)
  exact I.step (g' := s.gens) (d' := s.drawn) (ch := []) (fun _ z => nomatch z) (fun b o _ hb _ e n => u.keep b o e n hb (by simp)) (fun b o _ hb _ e n => u.slot b o e n hb (by simp)) (fun b o _ e n => u.free b o e n (by simp)) (fun b o _ e => u.there b o e (by simp)) u.tups u.frzs u.tbls (fun m' hm => by
    obtain ⟨o', es', ep', ho', r'⟩ := hm
    rw [ho] at ho'; cases ho'
    exact ⟨_, es', ep', hL, r'⟩) hok I.bare
/-- behind a call (or a comprehension's block): the slots of this frame may have changed too, the records at ch may have turned -/
theorem Inv.call {g' : Array GenState} {t' : Nat} {d' : Drawn} {ch : List Addr} (I : Inv X pins σ H s) (u : Un (frs X.stack) ch H H' s.heap h') (hok : HOk X.prog X.w H' h') (hg : AllBare g')
    (hch : ∀ b ∈ ch, (b ∈ X.ex ∨ X.s₀.heap.objs.size ≤ b) ∧ b ≠ X.env.locals ∧ (∀ x c, X.env.cells.lookup x = some c → c ≠ b) ∧ ∀ p ∈ X.pn ++ pins, p.1 ≠ b) :
    Inv X pins σ H' { s with heap := h', gens := g', drawn := d', toks := t' } := by
  obtain ⟨m, ⟨o, es, ep, ho, r⟩, _⟩ := id I.loc
  obtain ⟨sl, hL⟩ := u.any ho I.free fun z => (hch _ z).2.1 rfl
  exact I.step (ch := ch) hch (fun b o hL hb hc e n => u.keep b o e n (fun z => (List.mem_cons.mp (I.stkSub b z)).elim hL hb) hc) (fun b o _ _ hc e n => u.any e n hc) (fun b o hc e n => u.free b o e n hc) (fun b o hc e => u.there b o e hc) u.tups u.frzs u.tbls (fun m' hm => by
    obtain ⟨o', es', ep', ho', r'⟩ := hm
    rw [ho] at ho'; cases ho'
    exact ⟨_, es', ep', hL, r'⟩) hok hg
/-- an untracked record of ours (an iterator) has turned -/
theorem Inv.turned {t' : Nat} {it : Addr} (I : Inv X pins σ H s) (k : ∀ b o, b ≠ it → s.heap.get? b = some o → h'.get? b = some o) (hn : H it = none) (hL : it ≠ X.env.locals)
    (h1 : it ∈ X.ex ∨ X.s₀.heap.objs.size ≤ it) (h2 : ∀ x c, X.env.cells.lookup x = some c → c ≠ it) (h3 : ∀ p ∈ X.pn ++ pins, p.1 ≠ it) : Inv X pins σ H { s with heap := h', toks := t' } := by
  have nit : ∀ b u, H b = some u → b ≠ it := fun b u e z => by rw [z, hn] at e; cases e
  refine I.step (g' := s.gens) (d' := s.drawn) (ch := [it]) (fun b hb => ?_) (fun b o _ _ hc e _ => k b o (fun z => hc (by simp [z])) e) (fun b o _ _ hc e _ => ⟨o.slots, k b o (fun z => hc (by simp [z])) e⟩) (fun _ _ _ _ n => n)
    (fun b o hc e => ⟨o, k b o (fun z => hc (by simp [z])) e⟩) (fun _ _ e => e) (fun _ _ _ e => e) (fun _ _ _ e => e) (fun m hm => ?_) (fun b u e => ?_) I.bare
  · have e : b = it := by simpa using hb
    subst e
    exact ⟨h1, hL, h2, h3⟩
  · obtain ⟨o, es, ep, ho, r⟩ := hm
    exact ⟨o, es, ep, k _ o (Ne.symm hL) ho, r⟩
  · refine (I.hok b u e).stay (fun c v hc q => k c v ?_ q) (fun _ q => q) (fun _ _ _ _ _ q => q) fun _ _ q => q
    rcases hc with z | z
    · rw [z]; exact nit b u e
    · exact nit c _ z
theorem Inv.tok (I : Inv X pins σ H s) (t : Nat) : Inv X pins σ H { s with toks := t } := I.un (h' := s.heap) (t' := t) Un.refl I.hok
/-- all objects kept -/
theorem Inv.kept {t' : Nat} (I : Inv X pins σ H s) (k : ∀ b u, s.heap.get? b = some u → h'.get? b = some u) : Inv X pins σ H { s with heap := h', toks := t' } := I.un (Un.kept k) (I.hok.kept k)
/-- a new object laid and tracked -/
theorem Inv.laid {a : Addr} {o : HO} {t' : Nat} (I : Inv X pins σ H s) (k : ∀ b u, s.heap.get? b = some u → h'.get? b = some u) (hp : s.heap.objs.size ≤ a) (new : ObjOk X.prog X.w (upd H a o) h' a o) :
    Inv X pins σ (upd H a o) { s with heap := h', toks := t' } := I.un (Un.laid k hp (I.hok.fresh hp)) (I.hok.laid k hp new)
/-- an object written -/
theorem Inv.write {x e : Addr} {o : HO} {t' : Nat} (I : Inv X pins σ H s) (mu : Mut (H x)) (he : e = x ∨ H e = some (.own x)) (k : ∀ b u, b ≠ e → s.heap.get? b = some u → h'.get? b = some u) (heo : ∃ u, h'.get? e = some u)
    (new : ObjOk X.prog X.w (upd H x o) h' x o) : Inv X pins σ (upd H x o) { s with heap := h', toks := t' } := I.un (Un.write mu he k heo) (I.hok.write mu he k heo new)
theorem Inv.pins_of {pins' : List (Addr × Obj)} (I : Inv X pins σ H s) (h : ∀ p ∈ pins', s.heap.get? p.1 = some p.2 ∧ H p.1 = none ∧ p.1 ≠ X.env.locals ∧ p.1 ∉ X.fs ∧ ∀ v, p.2.data ≠ .cell v) : Inv X pins' σ H s :=
  ⟨I.ok, I.os, I.bare, I.base, I.loc, I.cell, I.free, I.freeC, fun p hp => (List.mem_append.mp hp).elim (fun z => I.pin p (List.mem_append_left _ z)) (h p), I.hok, I.len⟩

theorem nodup_ix {N : List Str} (hN : N.Nodup) {i j : Nat} {x : Str} (a : N[i]? = some x) (b : N[j]? = some x) : i = j := by
  obtain ⟨h1, e1⟩ := List.getElem?_eq_some_iff.mp a
  obtain ⟨h2, e2⟩ := List.getElem?_eq_some_iff.mp b
  exact (List.getElem_inj hN).mp (e1.trans e2.symm)

/-- a name is stored; what changed -/
theorem store_ok2 {M : Model} {A : Around} {E : Value → Shared → Prop} {i : Nat} {x : Str} {v : V} {u : Value} {Q : Unit → Shared → Prop} (I : Inv X pins σ H s) (hN : X.N.Nodup) (hi : X.N[i]? = some x) (hx : Loc X.env.scope x) (r : RelV v u)
    (h : ∀ s', Inv X pins (σ.set i (some v)) H s' → (∃ a, Heap.SameBut a s.heap s'.heap ∧ (a = X.env.locals ∨ X.env.cells.lookup x = some a)) → Q () s') (hf : X.fn x = true ∨ X.env.scope.names.lookup x = some .local := by first | exact .inl rfl | exact .inr rfl | assumption) : wpAny M A (storeName X.env x u) Q E s := by
  obtain ⟨m, hn, hl⟩ := id I.loc
  have hcls : (X.env.scope.kind == .class || (X.env.scope.kind == .module && X.env.locals != X.env.globals)) = false := by rw [I.ok.kind]; rfl
  have hiσ : i < σ.length := by rw [I.len]; exact (List.getElem?_eq_some_iff.mp hi).1
  have cne := I.cne
  have tracked : ∀ {a : Addr} {h' : Heap}, (∃ o, s.heap.get? a = some o ∧ H a = none) → Heap.SameBut a s.heap h' → HOk X.prog X.w H h' := fun {a h'} ha hs b ob e => by
    obtain ⟨_, _, hfree⟩ := ha
    refine (I.hok b ob e).stay (fun c w' hc q => (hs.2 c ?_).trans q) (fun _ q => q) (fun _ _ _ _ _ q => q) fun _ _ q => q
    rintro rfl
    rcases hc with rfl | hc
    · rw [hfree] at e; cases e
    · rw [hfree] at hc; cases hc
  rcases hx with hk | hk
  · refine wpAny_storeName_local hk hn (fun h' hn' hs => ?_) hcls
    obtain ⟨oL, _, _, hoL, _⟩ := id hn
    refine h _ ⟨I.ok, I.os, I.bare, ⟨fun b o e n hb hx => ?_, fun b o e n hb hx => ?_, I.base.free, fun b o e hx => ?_, I.base.tups, I.base.frzs, I.base.tbls⟩, ⟨_, hn', fun j y v' e1 e2 e3 => ?_⟩, fun y c e => ?_, I.free, I.freeC, fun p hp => ?_, tracked ⟨oL, hoL, I.free⟩ hs, by simpa using I.len⟩ ⟨_, hs, .inl rfl⟩
    · exact (hs.2 b (Nat.ne_of_lt (Nat.lt_of_lt_of_le (Heap.lt_size e) I.ok.above))).trans (I.base.keep b o e n hb hx)
    · obtain ⟨sl, e1⟩ := I.base.slot b o e n hb hx
      exact ⟨sl, (hs.2 b (Nat.ne_of_lt (Nat.lt_of_lt_of_le (Heap.lt_size e) I.ok.above))).trans e1⟩
    · obtain ⟨o', e1⟩ := I.base.there b o e hx
      exact ⟨o', (hs.2 b (Nat.ne_of_lt (Nat.lt_of_lt_of_le (Heap.lt_size e) I.ok.above))).trans e1⟩
    · by_cases hj : j = i
      · subst hj
        rw [hi] at e1; cases e1
        rw [List.getElem?_set_self hiσ] at e2
        cases e2
        exact ⟨u, r, .inl ⟨hk, by simp⟩⟩
      · rw [List.getElem?_set_ne (Ne.symm hj)] at e2
        obtain ⟨u', r', q⟩ := hl j y v' e1 e2 e3
        refine ⟨u', r', ?_⟩
        rcases q with ⟨k, e⟩ | ⟨k, c, e, z⟩
        · refine .inl ⟨k, ?_⟩
          have : y ≠ x := fun e => hj (nodup_ix hN e1 (e ▸ hi))
          simp [this, e]
        · exact .inr ⟨k, c, e, z.sameBut hs (cne y c e)⟩
    · obtain ⟨w', z⟩ := I.cell y c e
      exact ⟨w', z.sameBut hs (cne y c e)⟩
    · obtain ⟨e, n, ne, nf, d⟩ := I.pin p hp
      exact ⟨(hs.2 p.1 ne).trans e, n, ne, nf, d⟩
  · have hfn : X.fn x = true := by
      rcases hf with z | z
      · exact z
      · rw [z] at hk; cases hk
    obtain ⟨c, hc⟩ := I.ok.has x (.inl hk)
    obtain ⟨w', z⟩ := I.cell x c hc
    refine wpAny_storeName_cell I.ok.kind hk hc z (fun h' hc' hs => ?_)
    obtain ⟨oc, hoc, hocd⟩ := id z
    refine h { s with heap := h' } ⟨I.ok, I.os, I.bare, ⟨fun b o e n hb hx => ?_, fun b o e n hb hx => ?_, I.base.free, fun b o e hx => ?_, I.base.tups, I.base.frzs, I.base.tbls⟩, ⟨m, hn.sameBut hs (Ne.symm (cne x c hc)), fun j y v' e1 e2 e3 => ?_⟩, fun y c' e => ?_, I.free, I.freeC, fun p hp => ?_, tracked ⟨oc, hoc, I.freeC x c hc⟩ hs, by simpa using I.len⟩ ⟨c, hs, .inr hc⟩
    · exact (hs.2 b (Nat.ne_of_lt (Nat.lt_of_lt_of_le (Heap.lt_size e) (I.ok.cab x c hfn hc)))).trans (I.base.keep b o e n hb hx)
    · obtain ⟨sl, e1⟩ := I.base.slot b o e n hb hx
      exact ⟨sl, (hs.2 b (Nat.ne_of_lt (Nat.lt_of_lt_of_le (Heap.lt_size e) (I.ok.cab x c hfn hc)))).trans e1⟩
    · obtain ⟨o', e1⟩ := I.base.there b o e hx
      exact ⟨o', (hs.2 b (Nat.ne_of_lt (Nat.lt_of_lt_of_le (Heap.lt_size e) (I.ok.cab x c hfn hc)))).trans e1⟩
    · by_cases hj : j = i
      · subst hj
        rw [hi] at e1; cases e1
        rw [List.getElem?_set_self hiσ] at e2
        cases e2
        exact ⟨u, r, .inr ⟨.inl hk, c, hc, hc'⟩⟩
      · rw [List.getElem?_set_ne (Ne.symm hj)] at e2
        obtain ⟨u', r', q⟩ := hl j y v' e1 e2 e3
        refine ⟨u', r', ?_⟩
        rcases q with q | ⟨k, c', e, z'⟩
        · exact .inl q
        · refine .inr ⟨k, c', e, z'.sameBut hs ?_⟩
          rintro rfl
          exact hj (nodup_ix hN e1 (I.ok.inj _ _ _ e hc ▸ hi))
    · by_cases hcc : c' = c
      · subst hcc; exact ⟨_, hc'⟩
      · obtain ⟨w2, z2⟩ := I.cell y c' e
        exact ⟨w2, z2.sameBut hs hcc⟩
    · obtain ⟨e, n, ne, nf, d⟩ := I.pin p hp
      refine ⟨(hs.2 p.1 ?_).trans e, n, ne, nf, d⟩
      intro q
      rw [q, hoc] at e
      have q' : oc = p.2 := Option.some.inj e
      exact d w' (by rw [← q']; exact hocd)
theorem store_ok {M : Model} {A : Around} {E : Value → Shared → Prop} {i : Nat} {x : Str} {v : V} {u : Value} {Q : Unit → Shared → Prop} (I : Inv X pins σ H s) (hN : X.N.Nodup) (hi : X.N[i]? = some x) (hx : Loc X.env.scope x) (r : RelV v u)
    (h : ∀ s', Inv X pins (σ.set i (some v)) H s' → Q () s') (hf : X.fn x = true ∨ X.env.scope.names.lookup x = some .local := by first | exact .inl rfl | exact .inr rfl | assumption) : wpAny M A (storeName X.env x u) Q E s :=
  store_ok2 I hN hi hx r (fun s' I' _ => h s' I') hf
/-- behind a call or a block, the state as it is -/
theorem Inv.call' {s' : Shared} {ch : List Addr} (I : Inv X pins σ H s) (ho : s'.os = s.os) (u : Un (frs X.stack) ch H H' s.heap s'.heap) (hok : HOk X.prog X.w H' s'.heap) (hg : AllBare s'.gens)
    (hch : ∀ b ∈ ch, (b ∈ X.ex ∨ X.s₀.heap.objs.size ≤ b) ∧ b ≠ X.env.locals ∧ (∀ x c, X.env.cells.lookup x = some c → c ≠ b) ∧ ∀ p ∈ X.pn ++ pins, p.1 ≠ b) : Inv X pins σ H' s' := by
  obtain ⟨h', g', d', t', o'⟩ := s'
  have e : o' = s.os := ho
  subst e
  exact I.call (g' := g') (t' := t') (d' := d') u hok hg hch
end

/-! ### the judgements -/
/-- an exception: its class, its own dict's address (where it has one), the abstract heap behind it -/
abbrev XK := Value → Option Addr → Hp → Prop
abbrev St := List (Option V)
abbrev VK := V → Hp → Prop
/-- an expression's reading; a test's; an argument list's -/
abbrev TE := St → Hp → VK → Prop
abbrev TT := St → Hp → (Bool → Hp → Prop) → Prop
abbrev TA := St → Hp → (List V → Hp → Prop) → Prop
/-- what is wanted behind a statement -/
structure Ends where
  nx : St → Hp → Prop
  rt : VK
  bk : St → Hp → Prop := fun _ _ => False
  ct : St → Hp → Prop := fun _ _ => False
abbrev TS := Ends → St → Hp → Prop

def EP (X : Cx) (pins : List (Addr × Obj)) (σ : St) (Q : VK) (u : Value) (s' : Shared) : Prop := ∃ v H', Inv X pins σ H' s' ∧ RelV v u ∧ Q v H'
def TP (X : Cx) (pins : List (Addr × Obj)) (σ : St) (Q : Bool → Hp → Prop) (b : Bool) (s' : Shared) : Prop := ∃ H', Inv X pins σ H' s' ∧ Q b H'
def AP (X : Cx) (pins : List (Addr × Obj)) (σ : St) (Q : List V → Hp → Prop) (us : List Value) (s' : Shared) : Prop := ∃ vs H', Inv X pins σ H' s' ∧ Vals vs us ∧ Q vs H'
def SP (X : Cx) (pins : List (Addr × Obj)) (D : Ends) (f : Flow) (s' : Shared) : Prop :=
  match f with
  | .next => ∃ σ' H', Inv X pins σ' H' s' ∧ D.nx σ' H'
  | .brk => ∃ σ' H', Inv X pins σ' H' s' ∧ D.bk σ' H'
  | .cont => ∃ σ' H', Inv X pins σ' H' s' ∧ D.ct σ' H'
  | .ret u => ∃ v σ' H', Inv X pins σ' H' s' ∧ RelV v u ∧ D.rt v H'

def PE (X : Cx) (e : Expr) (t : TE) : Prop :=
  ∀ (pins : List (Addr × Obj)) (s : Shared) (σ : St) (H : Hp) (Q : VK), Inv X pins σ H s → t σ H Q → wpAny (model X.prog X.w) X.A (eval e X.env) (EP X pins σ Q) X.xe s
def PT (X : Cx) (e : Expr) (t : TT) : Prop :=
  ∀ (pins : List (Addr × Obj)) (s : Shared) (σ : St) (H : Hp) (Q : Bool → Hp → Prop), Inv X pins σ H s → t σ H Q → wpAny (model X.prog X.w) X.A (isTrue e X.env (eval e X.env)) (TP X pins σ Q) X.xe s
/-- a test whatever its 'whole' is (and, or) -/
def PW (X : Cx) (e : Expr) (t : TT) : Prop :=
  ∀ (whole : Sem Value) (pins : List (Addr × Obj)) (s : Shared) (σ : St) (H : Hp) (Q : Bool → Hp → Prop), Inv X pins σ H s → t σ H Q → wpAny (model X.prog X.w) X.A (isTrue e X.env whole) (TP X pins σ Q) X.xe s
theorem PW.pt {X : Cx} {e : Expr} {t : TT} (h : PW X e t) : PT X e t := h _
/-- an argument list (no star), from the left -/
def PA (X : Cx) (es : List Expr) (t : TA) : Prop :=
  ∀ (pos : Pos) (pins : List (Addr × Obj)) (s : Shared) (σ : St) (H : Hp) (Q : List V → Hp → Prop), Inv X pins σ H s → t σ H Q → wpAny (model X.prog X.w) X.A (spliced (backTo pos (starEach es X.env))) (AP X pins σ Q) X.xe s
def PS (X : Cx) (st : Stmt) (t : TS) : Prop :=
  ∀ (pins : List (Addr × Obj)) (s : Shared) (σ : St) (H : Hp) (D : Ends), Inv X pins σ H s → t D σ H → wpAny (model X.prog X.w) X.A (exec st X.env) (SP X pins D) X.xe s
def PSs (X : Cx) (st : List Stmt) (t : TS) : Prop :=
  ∀ (pins : List (Addr × Obj)) (s : Shared) (σ : St) (H : Hp) (D : Ends), Inv X pins σ H s → t D σ H → wpAny (model X.prog X.w) X.A (execs st X.env) (SP X pins D) X.xe s
/-- weaken the end -/
theorem thn {α : Type} {t : Sem α} {Q Q' : α → Shared → Prop} {M : Model} {A : Around} {E : Value → Shared → Prop} {s : Shared} (h : wpAny M A t Q E s) (hQ : ∀ a s, Q a s → Q' a s) : wpAny M A t Q' E s := wpAny_mono h hQ fun _ _ x => x
end L2

namespace L2
open PySem PySem.Spec PyProof.Rows
section
variable {X : Cx}

/-! ### names and constants -/
def tVar (i : Nat) : TE := fun σ H Q => ∃ v, σ[i]? = some (some v) ∧ Q v H
def tC (v : V) : TE := fun _ H Q => Q v H
theorem pe_var {i : Nat} {x : Str} {pos : Pos} (hN : X.N[i]? = some x) (hv : Vis X.env.scope x) (hd : (x == ("__debug__" : Str)) = false := by decide) (hcd : (x == ("__classdict__" : Str)) = false := by decide) : PE X (.Name x pos) (tVar i) := by
  intro pins s σ H Q I h
  obtain ⟨v, e, h⟩ := h
  obtain ⟨m, hn, hl⟩ := I.loc
  obtain ⟨u, r, l⟩ := hl i x v hN e hv
  have fin : EP X pins σ Q u s := ⟨v, H, I, r, h⟩
  rcases l with ⟨hk, hm⟩ | ⟨hk, c, hc, hcell⟩
  · exact wpAny_Name (wpAny_loadName_local I.ok.kind hk hn hm fin) hd
  · rcases hk with hk | hk
    · exact wpAny_Name (wpAny_loadName_cell I.ok.kind hk hc hcell fin) hd
    · exact wpAny_Name (wpAny_loadName_free I.ok.kind hk hc hcell fin hcd) hd
theorem pe_int {i j pos} : PE X (.Constant (.int i) j pos) (tC (.int i)) := fun _ _ _ H _ I h => wpAny_Constant_int ⟨.int i, H, I.tok _, ⟨_, rfl⟩, h⟩
theorem pe_bl {b j pos} : PE X (.Constant (.bool b) j pos) (tC (.bl b)) := fun _ _ _ H _ I h => Constant_bool ⟨.bl b, H, I, rfl, h⟩
/-- a global name of the def -/
def Gl (X : Cx) (x : Str) : Prop := X.env.kindOf x = some .globalImplicit
theorem ld_glob {E : Value → Shared → Prop} {pins : List (Addr × Obj)} {s : Shared} {σ : St} {H : Hp} {x : Str} {u : Value} {pos : Pos} {Q : Value → Shared → Prop} (I : Inv X pins σ H s) (hg : Gl X x) (hm : X.mg x = some u) (h : Q u s)
    (hd : (x == ("__debug__" : Str)) = false := by decide) : wpAny (model X.prog X.w) X.A (eval (.Name x pos) X.env) Q E s :=
  Calls.Name_function_global I.ok.kind hg (Calls.loadGlobal_global (by rw [I.ok.glob]; exact I.mod.glob.keeps I.bk) hm h) hd
theorem ld_blt {E : Value → Shared → Prop} {pins : List (Addr × Obj)} {s : Shared} {σ : St} {H : Hp} {x : Str} {u : Value} {pos : Pos} {Q : Value → Shared → Prop} (I : Inv X pins σ H s) (hg : Gl X x) (hm : X.mg x = none) (hv : bootBuiltins x = some u) (h : Q u s)
    (hn : x ≠ "__name__" := by decide) (hd : (x == ("__debug__" : Str)) = false := by decide) : wpAny (model X.prog X.w) X.A (eval (.Name x pos) X.env) Q E s := by
  obtain ⟨mb, h1, h2⟩ := I.mod.blt
  exact Calls.Name_function_global I.ok.kind hg (Calls.loadGlobal_builtin (by rw [I.ok.glob]; exact I.mod.glob.keeps I.bk) hm (by rw [I.ok.blt]; exact h1.keeps I.bk) ((h2 x hn).trans hv) h) hd
/-! ### arithmetic -/
variable {a b : Expr} {ta tb : TE} {pos : Pos}
/-! ### comparisons -/
/-- a comparison as a value, as a test -/
def tB (t : TE) : TT := fun σ H Q => t σ H fun x H1 => ∃ c, x = .bl c ∧ Q c H1
/-- an expression whose value is a bool, as a test -/
theorem pt_val {e : Expr} {t : TE} (h : PE X e t) (he : ∀ whole, isTrue e X.env whole = (do let v ← whole; standAt e.pos; holding [v] (truthy v)) := by intro _; rfl) : PT X e (tB t) := by
  intro pins s σ H Q I hw
  refine isTrue_plain (thn (h pins s σ H _ I hw) fun v s1 ⟨x, H1, I1, r1, q1⟩ => ?_) (he _)
  obtain ⟨d, rfl, q⟩ := q1
  cases r1
  exact wpAny_truthy_bool ⟨H1, I1, q⟩

/-! ### and, or, not -/
variable {tA tB' : TT} {rest : List Expr}
def tAnd (t u : TT) : TT := fun σ H Q => t σ H fun c H1 => if c = true then u σ H1 Q else Q false H1
def tOr (t u : TT) : TT := fun σ H Q => t σ H fun c H1 => if c = true then Q true H1 else u σ H1 Q
def tNot (t : TT) : TT := fun σ H Q => t σ H fun c H1 => Q (!c) H1
theorem pw_or1 (ha : PT X a tA) : PW X (.BoolOp .Or [a] pos) tA := by
  intro wh pins s σ H Q I h
  refine isTrue_or (thn (ha pins s σ H Q I h) fun c s1 e => ?_)
  cases c with
  | false => exact isTrue_or_nil e
  | true => exact e
theorem pw_or (ha : PT X a tA) (hb : PW X (.BoolOp .Or (b :: rest) pos) tB') : PW X (.BoolOp .Or (a :: b :: rest) pos) (tOr tA tB') := by
  intro wh pins s σ H Q I h
  refine isTrue_or (thn (ha pins s σ H _ I h) fun c s1 ⟨H1, I1, q1⟩ => ?_)
  cases c with
  | true => exact ⟨H1, I1, q1⟩
  | false => exact hb wh pins s1 σ H1 Q I1 q1
theorem pt_not (ha : PT X a tA) : PT X (.UnaryOp .Not a pos) (tNot tA) := by
  intro pins s σ H Q I h
  exact isTrue_not (ha pins s σ H (fun c H1 => Q (!c) H1) I h)
/-- .. as values (bools) -/
def tAndV (ta tb : TE) : TE := fun σ H Q => ta σ H fun x H1 => ∃ c, x = .bl c ∧ if c = true then tb σ H1 Q else Q (.bl false) H1
def tOrV (ta tb : TE) : TE := fun σ H Q => ta σ H fun x H1 => ∃ c, x = .bl c ∧ if c = true then Q (.bl true) H1 else tb σ H1 Q
def tNotV (ta : TE) : TE := fun σ H Q => ta σ H fun x H1 => ∃ c, x = .bl c ∧ Q (.bl (!c)) H1
/-- a if t else b -/
def tIf (t : TT) (ta tb : TE) : TE := fun σ H Q => t σ H fun c H1 => if c = true then ta σ H1 Q else tb σ H1 Q
end
end L2

namespace L2
open PySem PySem.Spec PyProof.Rows

/-! ### a list, a tuple that is read: tracked, frozen, or an object of the module -/
def SqL (K : PySem.W.Frag) (H : Hp) (a : Addr) (xs : List V) : Prop :=
  Rd H a (.lst xs) ∨
    ∃ (o : Obj) (its : Array Value) (n : Nat), K.lookup a = some o ∧ o.cls = .type "list" ∧ o.dict = none ∧ o.data = .seq its n ∧ its.size ≤ sizeLine ∧ Vals xs its.toList
def SqT (K : PySem.W.Frag) (H : Hp) (a : Addr) (xs : List V) : Prop :=
  Rd H a (.tup xs) ∨
    ∃ (o : Obj) (its : Array Value) (n : Nat), K.lookup a = some o ∧ o.cls = .type "tuple" ∧ o.data = .seq its n ∧ its.size ≤ sizeLine ∧ Vals xs its.toList
def absV : Value → Option V
  | .none => some .non
  | .bool b => some (.bl b)
  | .int i _ => some (.int i)
  | .str x _ => some (.str x)
  | .bytes b _ => some (.byt b)
  | .float b _ => some (.flt b)
  | .ref a => some (.ref a)
  | .type n => some (.ty n)
  | _ => none
theorem RelV.abs {x : V} {u : Value} (r : RelV x u) : absV u = some x := by
  cases x with
  | non => cases r; rfl
  | bl _ => cases r; rfl
  | int _ => obtain ⟨t, rfl⟩ := r; rfl
  | str _ => obtain ⟨t, rfl⟩ := r; rfl
  | byt _ => obtain ⟨t, rfl⟩ := r; rfl
  | flt _ => obtain ⟨t, rfl⟩ := r; rfl
  | ref _ => cases r; rfl
  | ty _ => cases r; rfl
theorem RelV.inj {x y : V} {u : Value} (r : RelV x u) (q : RelV y u) : x = y := Option.some.inj (r.abs.symm.trans q.abs)
theorem Vals.inj : ∀ {xs ys : List V} {us : List Value}, Vals xs us → Vals ys us → xs = ys
  | _, _, _, .nil, .nil => rfl
  | _, _, _, .cons r t, .cons r' t' => by rw [r.inj r', Vals.inj t t']
section
variable {X : Cx} {pins : List (Addr × Obj)} {σ : St} {H : Hp} {s : Shared} {a : Addr} {xs ys : List V}
theorem SqL.of {K : PySem.W.Frag} (h : H a = some (.lst xs)) : SqL K H a xs := .inl (.inl h)
theorem SqT.of {K : PySem.W.Frag} (h : H a = some (.tup xs)) : SqT K H a xs := .inl (.inl h)
theorem Inv.list (I : Inv X pins σ H s) (h : SqL X.K H a xs) : ∃ its : List Value, Vals xs its ∧ PlainL s.heap a its.toArray ∧ xs.length ≤ sizeLine := by
  rcases h with h | ⟨o, its, n, hk, hc, hd, hs, hz, r⟩
  · obtain ⟨z, its, n, r, e⟩ := h.ok I.hok
    exact ⟨its, r, ⟨_, n, e, rfl, rfl, rfl⟩, z⟩
  · refine ⟨its.toList, r, ⟨o, n, I.kIn a o hk, hc, hd, by simpa using hs⟩, ?_⟩
    have e := r.length
    simp only [Array.length_toList] at e
    omega
theorem Inv.tuple (I : Inv X pins σ H s) (h : SqT X.K H a xs) : ∃ its : List Value, Vals xs its ∧ IsTup s.heap a its.toArray ∧ xs.length ≤ sizeLine := by
  rcases h with h | ⟨o, its, n, hk, hc, hs, hz, r⟩
  · obtain ⟨z, its, r, p⟩ := h.ok I.hok
    exact ⟨its, r, p, z⟩
  · refine ⟨its.toList, r, ⟨o, I.kIn a o hk, hc, n, by simpa using hs⟩, ?_⟩
    have e := r.length
    simp only [Array.length_toList] at e
    omega
theorem Inv.list_inj (I : Inv X pins σ H s) (h : SqL X.K H a xs) (h' : SqL X.K H a ys) : xs = ys := by
  obtain ⟨its, r, ⟨o, n, e, _, _, d⟩, _⟩ := I.list h
  obtain ⟨its', r', ⟨o', n', e', _, _, d'⟩, _⟩ := I.list h'
  rw [e] at e'; cases e'
  rw [d] at d'
  injection d' with d1 _
  have : its = its' := by simpa using congrArg Array.toList d1
  subst this
  exact r.inj r'
theorem Inv.tuple_inj (I : Inv X pins σ H s) (h : SqT X.K H a xs) (h' : SqT X.K H a ys) : xs = ys := by
  obtain ⟨its, r, ⟨o, e, _, n, d⟩, _⟩ := I.tuple h
  obtain ⟨its', r', ⟨o', e', _, n', d'⟩, _⟩ := I.tuple h'
  rw [e] at e'; cases e'
  rw [d] at d'
  injection d' with d1 _
  have : its = its' := by simpa using congrArg Array.toList d1
  subst this
  exact r.inj r'
end

/-! ### another wish about exceptions -/
abbrev Cx.wish (X : Cx) (E : Value → Shared → Prop) : Cx := { X with xe := E }
/-- no exception leaves -/
abbrev Cx.nox (X : Cx) : Cx := X.wish fun _ _ => False
theorem Cx.Ok.wish {X : Cx} (ok : X.Ok) (E : Value → Shared → Prop) : (X.wish E).Ok :=
  ⟨ok.mod, ok.kind, ok.glob, ok.blt, ok.above, ok.inj, ok.has, ok.cab, ok.hd, ok.frames, ok.stk, ok.exf, ok.bs, ok.bsz, ok.noex, ok.exfs, ok.funs, ok.frf⟩
theorem Cx.Ok.unwish {X : Cx} {E : Value → Shared → Prop} (ok : (X.wish E).Ok) : X.Ok :=
  ⟨ok.mod, ok.kind, ok.glob, ok.blt, ok.above, ok.inj, ok.has, ok.cab, ok.hd, ok.frames, ok.stk, ok.exf, ok.bs, ok.bsz, ok.noex, ok.exfs, ok.funs, ok.frf⟩
section
variable {X : Cx} {pins : List (Addr × Obj)} {σ : St} {H : Hp} {s : Shared} {E : Value → Shared → Prop}
theorem Inv.wish (I : Inv X pins σ H s) (E : Value → Shared → Prop) : Inv (X.wish E) pins σ H s := ⟨I.ok.wish E, I.os, I.bare, I.base, I.loc, I.cell, I.free, I.freeC, I.pin, I.hok, I.len⟩
theorem Inv.unwish (I : Inv (X.wish E) pins σ H s) : Inv X pins σ H s := ⟨I.ok.unwish, I.os, I.bare, I.base, I.loc, I.cell, I.free, I.freeC, I.pin, I.hok, I.len⟩
theorem SP.unwish {D : Ends} {f : Flow} {s' : Shared} (h : SP (X.wish E) pins D f s') : SP X pins D f s' := by
  cases f with
  | next => obtain ⟨σ', H', I, q⟩ := h; exact ⟨σ', H', I.unwish, q⟩
  | brk => obtain ⟨σ', H', I, q⟩ := h; exact ⟨σ', H', I.unwish, q⟩
  | cont => obtain ⟨σ', H', I, q⟩ := h; exact ⟨σ', H', I.unwish, q⟩
  | ret u => obtain ⟨v, σ', H', I, r, q⟩ := h; exact ⟨v, σ', H', I.unwish, r, q⟩
theorem PE.nox {e : Expr} {t : TE} (h : PE X.nox e t) : PE X e t := fun pins s σ H Q I hw =>
  wpAny_mono (h pins s σ H Q (I.wish _) hw) (fun _ _ ⟨v, H', I', r, q⟩ => ⟨v, H', I'.unwish, r, q⟩) fun _ _ z => False.elim z
theorem PT.nox {e : Expr} {t : TT} (h : PT X.nox e t) : PT X e t := fun pins s σ H Q I hw =>
  wpAny_mono (h pins s σ H Q (I.wish _) hw) (fun _ _ ⟨H', I', q⟩ => ⟨H', I'.unwish, q⟩) fun _ _ z => False.elim z
theorem PSs.nox {st : List Stmt} {t : TS} (h : PSs X.nox st t) : PSs X st t := fun pins s σ H D I hw =>
  wpAny_mono (h pins s σ H D (I.wish _) hw) (fun _ _ q => q.unwish) fun _ _ z => False.elim z
end

/-! ### blocks and small statements -/
section
variable {X : Cx} {st : Stmt} {rest : List Stmt} {t u : TS} {e : Expr} {te : TE} {pos : Pos}
def tNext : TS := fun D σ H => D.nx σ H
def tSeq (t u : TS) : TS := fun D σ H => t { D with nx := u D } σ H
theorem pss_nil : PSs X [] tNext := fun _ _ σ H _ I h => wpAny_execs_nil ⟨σ, H, I, h⟩
theorem pss_cons (h1 : PS X st t) (h2 : PSs X rest u) : PSs X (st :: rest) (tSeq t u) := by
  intro pins s σ H D I h
  refine wpAny_execs_cons (thn (h1 pins s σ H { D with nx := u D } I h) fun f s1 q => ?_)
  cases f with
  | next =>
    obtain ⟨σ', H', I', q⟩ := q
    exact h2 pins s1 σ' H' D I' q
  | ret v => exact q
  | brk => exact q
  | cont => exact q
theorem pss_one (h1 : PS X st t) : PSs X [st] t := by
  intro pins s σ H D I h
  refine wpAny_execs_cons (thn (h1 pins s σ H D I h) fun f s1 q => ?_)
  cases f with
  | next => exact wpAny_execs_nil q
  | ret v => exact q
  | brk => exact q
  | cont => exact q
def tBreak : TS := fun D σ H => D.bk σ H
def tCont : TS := fun D σ H => D.ct σ H
/-- in a def's body nothing is shown -/
theorem Inv.quiet {pins : List (Addr × Obj)} {σ : St} {H : Hp} {s : Shared} (I : Inv X pins σ H s) : interactive X.env = false := by simp [interactive, I.ok.kind]
/-- an expression whose value is dropped -/
def tDrop (te : TE) : TS := fun D σ H => te σ H fun _ H1 => D.nx σ H1
theorem ps_expr (he : PE X e te) (hs : swapsWith e none pos.line X.env = pure false := by rfl) : PS X (.Expr e pos) (tDrop te) := by
  intro pins s σ H D I h
  exact wpAny_Expr_any (thn (he pins s σ H _ I h) fun v s1 ⟨x, H1, I1, r1, q1⟩ => ⟨σ, H1, I1, q1⟩) I.quiet hs
def tRet (te : TE) : TS := fun D σ H => te σ H D.rt
theorem ps_ret (he : PE X e te) : PS X (.Return (some e) pos) (tRet te) := by
  intro pins s σ H D I h
  exact wpAny_Return_some (thn (he pins s σ H _ I h) fun v s1 ⟨x, H1, I1, r1, q1⟩ => ⟨x, σ, H1, I1, r1, q1⟩)
def tRetN : TS := fun D _ H => D.rt .non H
def tIfS (c : TT) (t u : TS) : TS := fun D σ H => c σ H fun b H1 => if b = true then t D σ H1 else u D σ H1
theorem ps_if {c : Expr} {a b : List Stmt} {tc : TT} (hc : PT X c tc) (ha : PSs X a t) (hb : PSs X b u) : PS X (.If c a b pos) (tIfS tc t u) := by
  intro pins s σ H D I h
  refine wpAny_If (thn (hc pins s σ H _ I h) fun d s1 ⟨H1, I1, q1⟩ => ?_)
  cases d with
  | true => exact ha pins s1 σ H1 D I1 q1
  | false => exact hb pins s1 σ H1 D I1 q1
/-- code that the proof never comes to -/
def tNever : TS := fun _ _ _ => False
theorem ps_never : PS X st tNever := fun _ _ _ _ _ _ h => h.elim
end

/-! ### targets -/
abbrev TG := V → St → Hp → (St → Hp → Prop) → Prop
abbrev TGs := List V → St → Hp → (St → Hp → Prop) → Prop
def PG (X : Cx) (target : Expr) (t : TG) : Prop :=
  ∀ (pins : List (Addr × Obj)) (s : Shared) (σ : St) (H : Hp) (v : V) (u : Value) (Q : St → Hp → Prop), Inv X pins σ H s → RelV v u → t v σ H Q →
    wpAny (model X.prog X.w) X.A (assign target X.env u) (fun _ s' => ∃ σ' H', Inv X pins σ' H' s' ∧ Q σ' H') X.xe s
/-- several targets, one after another -/
def PGs (X : Cx) (ts : List Expr) (t : TGs) : Prop :=
  ∀ (pins : List (Addr × Obj)) (s : Shared) (σ : St) (H : Hp) (vs : List V) (us : List Value) (Q : St → Hp → Prop), Inv X pins σ H s → Vals vs us → t vs σ H Q →
    wpAny (model X.prog X.w) X.A (assignInOrder ((assignEach ts X.env).map (·.2)) us) (fun _ s' => ∃ σ' H', Inv X pins σ' H' s' ∧ Q σ' H') X.xe s
/-- o[i] = v, by values -/
abbrev TSet := V → V → V → Hp → (Hp → Prop) → Prop
/-- a op= b, by values -/
abbrev TIp := V → V → Hp → VK → Prop
def PIp (X : Cx) (op : Operator) (t : TIp) : Prop :=
  ∀ (pins : List (Addr × Obj)) (s : Shared) (σ : St) (H : Hp) (x y : V) (v u : Value) (Q : VK), Inv X pins σ H s → RelV x v → RelV y u → t x y H Q →
    wpAny (model X.prog X.w) X.A (inplaceOp op v u) (EP X pins σ Q) X.xe s
section
variable {X : Cx} {pos : Pos}
def gName (i : Nat) : TG := fun v σ H Q => Q (σ.set i (some v)) H
theorem pg_name {i : Nat} {x : Str} (hN : X.N.Nodup) (hi : X.N[i]? = some x) (hx : Loc X.env.scope x) (hf : X.fn x = true ∨ X.env.scope.names.lookup x = some .local := by first | exact .inl rfl | exact .inr rfl | assumption) : PG X (.Name x pos) (gName i) := by
  intro pins s σ H v u Q I r h
  exact wpAny_assign_Name (store_ok I hN hi hx r (fun s' I' => ⟨_, H, I', h⟩) hf)
def gNil : TGs := fun vs σ H Q => vs = [] ∧ Q σ H
def gCons (t : TG) (u : TGs) : TGs := fun vs σ H Q => ∃ v r, vs = v :: r ∧ t v σ H fun σ' H' => u r σ' H' Q
theorem pgs_nil : PGs X [] gNil := by
  intro pins s σ H vs us Q I r h
  obtain ⟨e, h⟩ := h
  subst e
  cases r
  exact assignInOrder_nil ⟨σ, H, I, h⟩
theorem pgs_cons {e : Expr} {es : List Expr} {t : TG} {u : TGs} (h1 : PG X e t) (h2 : PGs X es u)
    (hs : (assignEach (e :: es) X.env).map (·.2) = assign e X.env :: (assignEach es X.env).map (·.2) := by rfl) : PGs X (e :: es) (gCons t u) := by
  intro pins s σ H vs us Q I r h
  obtain ⟨v, vr, e1, h⟩ := h
  subst e1
  cases r with
  | cons r rr =>
    rw [hs]
    refine assignInOrder_cons (thn (h1 pins s σ H _ _ _ I r h) fun _ s1 ⟨σ1, H1, I1, q1⟩ => ?_)
    exact h2 pins s1 σ1 H1 _ _ Q I1 rr q1
/-- (a, b, ..) = a tuple of that length -/
def gTup (K : PySem.W.Frag) (n : Nat) (t : TGs) : TG := fun v σ H Q => ∃ a xs, v = .ref a ∧ SqT K H a xs ∧ xs.length = n ∧ t xs σ H Q
theorem pg_tup {es : List Expr} {k : Nat} {t : TGs} {n : Nat} (hc : X.calm = true) (h : PGs X es t)
    (hn : (assignEach es X.env).length = n := by rfl) (hst : (assignEach es X.env).findIdx? (·.1) = none := by rfl) : PG X (.Tuple es k pos) (gTup X.K n t) := by
  intro pins s σ H v u Q I r hw
  obtain ⟨a, xs, e1, hq, hl, hw⟩ := hw
  subst e1
  cases r
  obtain ⟨its, rv, ht, hz⟩ := I.tuple hq
  refine assign_Tuple_tuple (I.ok.hd hc) ht (by simp [hn, ← hl, rv.length]) hst fun h' hx => ?_
  have I1 : Inv X pins σ H { s with heap := h' } := I.kept (t' := s.toks) fun b o e => hx b o (Nat.ne_of_lt (Heap.lt_size e)) e
  exact h pins _ σ H xs _ Q I1 (by simpa using rv) hw
/-- o[i] = .. -/
def gSub (to ti : TE) (t : TSet) : TG := fun v σ H Q => to σ H fun o H1 => ti σ H1 fun i H2 => t o i v H2 fun H3 => Q σ H3
/-- target = value -/
def tAsg (te : TE) (g : TG) : TS := fun D σ H => te σ H fun x H1 => g x σ H1 D.nx
theorem ps_asg {tg e : Expr} {te : TE} {g : TG} (he : PE X e te) (hg : PG X tg g) (hs : swapsWithSole [tg] e pos.line X.env = pure false := by rfl) (hw : swappedStores [tg] e X.env = pure none := by rfl)
    (h1 : (assignEach [tg] X.env).map (·.2) = [assign tg X.env] := by rfl) : PS X (.Assign [tg] e pos) (tAsg te g) := by
  intro pins s σ H D I h
  refine wpAny_Assign_stores (thn (he pins s σ H _ I h) fun v s1 ⟨x, H1, I1, r1, q1⟩ => ?_) hs hw
  rw [h1]
  exact thn (hg pins s1 σ H1 x v _ I1 r1 q1) fun _ s2 q => q
/-- name = value -/
theorem ps_set {i : Nat} {x : Str} {e : Expr} {te : TE} {pos' : Pos} (hN : X.N.Nodup) (hi : X.N[i]? = some x) (hx : Loc X.env.scope x) (he : PE X e te) (hs : swapsWith e (some (.Name x pos')) pos.line X.env = pure false := by rfl) (hf : X.fn x = true ∨ X.env.scope.names.lookup x = some .local := by first | exact .inl rfl | exact .inr rfl | assumption) :
    PS X (.Assign [.Name x pos'] e pos) (tAsg te (gName i)) := by
  intro pins s σ H D I h
  refine wpAny_Assign_Name (thn (he pins s σ H _ I h) fun v s1 ⟨y, H1, I1, r1, q1⟩ => ?_) hs
  exact store_ok I1 hN hi hx r1 (fun s2 I2 => ⟨_, H1, I2, q1⟩) hf
/-- a, b = x, y with plain local names: stored from the right; the pair itself is not tracked (the opening rows as in PyProof/Rows/TupAssign.lean:23) -/
def tPar (i j : Nat) (ta : TA) : TS := fun D σ H => ta σ H fun vs H1 => ∃ v w, vs = [v, w] ∧ D.nx ((σ.set i (some v)).set j (some w)) H1
/-- name op= e -/
def tAug (i : Nat) (te : TE) (ti : TIp) : TS := fun D σ H => ∃ x, σ[i]? = some (some x) ∧ te σ H fun y H1 => ti x y H1 fun z H2 => D.nx (σ.set i (some z)) H2
theorem ps_aug {i : Nat} {x : Str} {e : Expr} {te : TE} {op : Operator} {ti : TIp} {pos' : Pos} (hN : X.N.Nodup) (hi : X.N[i]? = some x) (hx : Loc X.env.scope x) (he : PE X e te) (ho : PIp X op ti) (hf : X.fn x = true ∨ X.env.scope.names.lookup x = some .local := by first | exact .inl rfl | exact .inr rfl | assumption) :
    PS X (.AugAssign (.Name x pos') op e pos) (tAug i te ti) := by
  intro pins s σ H D I h
  obtain ⟨v, e1, h⟩ := h
  obtain ⟨m, hn, hl⟩ := I.loc
  have vis : Vis X.env.scope x := by rcases hx with k | k; exact .inl k; exact .inr (.inl k)
  obtain ⟨u, r, l⟩ := hl i x v hi e1 vis
  refine wpAny_AugAssign_Name ?_
  have go : wpAny (model X.prog X.w) X.A (eval e X.env) (fun w s₂ => wpAny (model X.prog X.w) X.A (inplaceOp op u w) (fun r s₃ => wpAny (model X.prog X.w) X.A (storeName X.env x r) (fun _ => SP X pins D .next) X.xe s₃) X.xe s₂) X.xe s := by
    refine thn (he pins s σ H _ I h) fun w s1 ⟨y, H1, I1, r1, q1⟩ => ?_
    refine thn (ho pins s1 σ H1 v y u w _ I1 r r1 q1) fun z s2 ⟨zv, H2, I2, r2, q2⟩ => ?_
    exact store_ok I2 hN hi hx r2 (fun s3 I3 => ⟨_, H2, I3, q2⟩) hf
  rcases l with ⟨hk, hm⟩ | ⟨hk, c, hc, hcell⟩
  · exact wpAny_loadName_local I.ok.kind hk hn hm go
  · rcases hk with hk | hk
    · exact wpAny_loadName_cell I.ok.kind hk hc hcell go
    · rcases hx with k | k
      · have : X.env.scope.names.lookup x = some .free := hk
        rw [k] at this; cases this
      · have : X.env.scope.names.lookup x = some .free := hk
        rw [k] at this; cases this
/-- ints -/
def ipI (f : Int → Int → Int) : TIp := fun x y H Q => ∃ i j, x = .int i ∧ y = .int j ∧ Q (.int (f i j)) H
theorem ip_add : PIp X .Add (ipI fun i j => i + j) := by
  intro pins s σ H x y v u Q I r1 r2 h
  obtain ⟨i, j, e1, e2, q⟩ := h
  subst e1; subst e2
  obtain ⟨t, rfl⟩ := r1
  obtain ⟨t', rfl⟩ := r2
  exact iadd_int ⟨.int _, H, I.tok _, ⟨_, rfl⟩, q⟩
end

/-! ### while -/
section
variable {X : Cx} {pos : Pos}
/-- the invariant W with its measure -/
def tWhile (c : TT) (tb : TS) : TS := fun D σ H => ∃ W : Nat → St → Hp → Prop, (∃ m, W m σ H) ∧ ∀ m σ H, W m σ H →
  c σ H fun b H1 => if b = true then ∃ N : St → Hp → Prop, (∀ σ' H', N σ' H' → ∃ m', m' < m ∧ W m' σ' H') ∧ tb { D with nx := N, ct := N, bk := D.nx } σ H1 else D.nx σ H1
theorem ps_while {c : Expr} {body : List Stmt} {tc : TT} {tb : TS} (hp : PassesOwn (model X.prog X.w) X.A X.env X.xe) (hc : PT X c tc) (hb : PSs X body tb) : PS X (.While c body [] pos) (tWhile tc tb) := by
  intro pins s σ H D I h
  obtain ⟨W, ⟨m0, w0⟩, turn⟩ := h
  refine wpAny_While (codeAny_whileLoop (fun n s' => ∃ σ' H', Inv X pins σ' H' s' ∧ W n σ' H') ?_ m0 ⟨σ, H, I, w0⟩)
  rintro n s1 ⟨σ1, H1, I1, w1⟩
  refine wpAny_passesOwn hp (thn (hc pins s1 σ1 H1 _ I1 (turn n σ1 H1 w1)) fun b s2 ⟨H2, I2, q2⟩ => ?_)
  cases b with
  | true =>
    obtain ⟨N, hN, q2⟩ := q2
    rw [if_pos rfl]
    refine wpAny_passesOwn hp (thn (hb pins s2 σ1 H2 _ I2 q2) fun f s3 q3 => ?_)
    cases f with
    | next =>
      obtain ⟨σ3, H3, I3, n3⟩ := q3
      obtain ⟨m', hm, w3⟩ := hN σ3 H3 n3
      exact ⟨m', hm, σ3, H3, I3, w3⟩
    | cont =>
      obtain ⟨σ3, H3, I3, n3⟩ := q3
      obtain ⟨m', hm, w3⟩ := hN σ3 H3 n3
      exact ⟨m', hm, σ3, H3, I3, w3⟩
    | brk => exact q3
    | ret v => exact q3
  | false =>
    rw [if_neg Bool.false_ne_true]
    exact wpAny_execs_nil ⟨σ1, H2, I2, q2⟩
end

/-! ### what a loop or a comprehension walks -/
/-- at turn i: it yields x (the heap may grow), or it stops -/
structure It where
  go : Nat → Hp → Prop
  yld : Nat → Hp → V → Hp → Prop
  stop : Nat → Hp → Prop
/-- the iterator's own objects may turn: they are not the frame's, not pinned, younger than the entry (or a comprehension's own) -/
def FpOk (X : Cx) (pins : List (Addr × Obj)) (H : Hp) (b : Addr) : Prop :=
  H b = none ∧ b ≠ X.env.locals ∧ b ∉ X.fs ∧ (b ∈ X.ex ∨ X.s₀.heap.objs.size ≤ b) ∧ (∀ x c, X.env.cells.lookup x = some c → c ≠ b) ∧ ∀ p ∈ X.pn ++ pins, p.1 ≠ b
theorem Inv.fpOk {X : Cx} {pins : List (Addr × Obj)} {σ : St} {H H' : Hp} {s : Shared} {b : Addr} (I : Inv X pins σ H s) (hb : s.heap.objs.size ≤ b) (hn : H' b = none) : FpOk X pins H' b := by
  refine ⟨hn, Nat.ne_of_gt (Nat.lt_of_lt_of_le I.lt hb), I.nofs hb, .inr (Nat.le_trans I.sz hb), fun x c e z => ?_, fun p hp z => ?_⟩
  · obtain ⟨v, q⟩ := I.cell x c e
    exact absurd (Nat.lt_of_lt_of_le q.lt (by rw [z]; exact hb)) (Nat.lt_irrefl _)
  · exact absurd (Nat.lt_of_lt_of_le (Heap.lt_size (I.pin p hp).1) (by rw [z]; exact hb)) (Nat.lt_irrefl _)
structure Turn (P : Program) (w : World) (K : PySem.W.Frag) (tg : Expr) (J : It) (fp : List Addr) (it : Addr) (tn : Nat → Heap → Prop) : Prop where
  mem : it ∈ fp
  obj : ∀ i h, tn i h → ∀ b ∈ fp, ∃ o, h.get? b = some o ∧ ∀ v, o.data ≠ .cell v
  keep : ∀ i h h', tn i h → (∀ b ∈ fp, ∀ o, h.get? b = some o → h'.get? b = some o) → tn i h'
  item : ∀ (X : Cx), X.prog = P → X.w = w → X.K = K → X.calm = true → ∀ (i : Nat) (pins : List (Addr × Obj)) (s : Shared) (σ : St) (H : Hp) (E : Value → Shared → Prop), Inv X pins σ H s → (∀ b ∈ fp, FpOk X pins H b) → tn i s.heap → J.go i H →
    wpAny (model P w) X.A (pyNext (.ref it)) (fun r s1 => ∃ u, r = some u ∧
      wpAny (model P w) X.A (letOwnedTupleGo tg (.ref it) u) (fun _ s2 => ∃ x H', Inv X pins σ H' s2 ∧ RelV x u ∧ J.yld i H x H' ∧ tn (i + 1) s2.heap ∧ ∀ b ∈ fp, H' b = none) E s1) E s
  done : ∀ (X : Cx), X.prog = P → X.w = w → X.K = K → X.calm = true → ∀ (i : Nat) (pins : List (Addr × Obj)) (s : Shared) (σ : St) (H : Hp) (E : Value → Shared → Prop), Inv X pins σ H s → (∀ b ∈ fp, FpOk X pins H b) → tn i s.heap → J.stop i H →
    wpAny (model P w) X.A (pyNext (.ref it)) (fun r s1 => r = none ∧ Inv X pins σ H s1) E s
  self : ∀ (A : Around) (i : Nat) (s : Shared) (Q : Value → Shared → Prop) (E : Value → Shared → Prop), tn i s.heap → Q (.ref it) s → wpAny (model P w) A (pyIter (.ref it)) Q E s
abbrev TI := St → Hp → (It → Hp → Prop) → Prop
/-- an iterator has come -/
def PIE (X : Cx) (pins : List (Addr × Obj)) (σ : St) (tg : Expr) (R : It → Hp → Prop) (itv : Value) (s2 : Shared) : Prop :=
  ∃ (it : Addr) (fp : List Addr) (tn : Nat → Heap → Prop) (J : It) (H' : Hp), itv = .ref it ∧ Inv X pins σ H' s2 ∧ Turn X.prog X.w X.K tg J fp it tn ∧ tn 0 s2.heap ∧ (∀ b ∈ fp, FpOk X pins H' b) ∧ R J H'
def PI (X : Cx) (tg iter : Expr) (wi : TI) : Prop :=
  ∀ (pins : List (Addr × Obj)) (s : Shared) (σ : St) (H : Hp) (R : It → Hp → Prop), Inv X pins σ H s → wi σ H R →
    wpAny (model X.prog X.w) X.A (eval iter X.env) (fun v s1 => wpAny (model X.prog X.w) X.A (pyIter v) (PIE X pins σ tg R) X.xe s1) X.xe s

/-- the step ahead of the store is nothing for an iterator that keeps no tuple -/
theorem go_of {M : Model} {A : Around} {E : Value → Shared → Prop} {s : Shared} {tg : Expr} {it : Addr} {u : Value} {o : Obj} {n : String} {vs : Array Value} {Q : Unit → Shared → Prop} (ho : s.heap.get? it = some o) (hc : o.cls = .type n) (hd : o.data = .fields vs)
    (hn : ["enumerate", "zip", "dict_itemiterator", "dict_reverseitemiterator", "odict_iterator", "itertools.zip_longest", "itertools.pairwise"].contains n = false) (hQ : Q () s) : wpAny M A (letOwnedTupleGo tg (.ref it) u) Q E s := by
  unfold letOwnedTupleGo
  cases tg <;> first
    | exact wpAny_pure hQ
    | (cases u <;> first
        | exact wpAny_pure hQ
        | (refine wpAny_bind (wpAny_load ho ?_)
           rw [hc, hd]
           show wpAny M A (if (["enumerate", "zip", "dict_itemiterator", "dict_reverseitemiterator", "odict_iterator", "itertools.zip_longest", "itertools.pairwise"].contains n && vs[0]? == some (rawInt _)) = true then _ else _) Q E s
           rw [if_neg (by intro h; rw [hn, Bool.false_and] at h; cases h)]
           exact wpAny_pure hQ))

/-- the list at a, as it stands at each turn (a loop may append to it) -/
def Itl (K : PySem.W.Frag) (a : Addr) : It :=
  ⟨fun i H => ∃ xs x, SqL K H a xs ∧ xs[i]? = some x, fun i H x H' => H' = H ∧ ∀ xs, SqL K H a xs → xs[i]? = some x, fun i H => ∃ xs, SqL K H a xs ∧ xs.length ≤ i⟩
def Itt (K : PySem.W.Frag) (a : Addr) : It :=
  ⟨fun i H => ∃ xs x, SqT K H a xs ∧ xs[i]? = some x, fun i H x H' => H' = H ∧ ∀ xs, SqT K H a xs → xs[i]? = some x, fun i H => ∃ xs, SqT K H a xs ∧ xs.length ≤ i⟩
/-- lo, lo + 1, .. (n of them) -/
def Itr (lo : Int) (n : Nat) : It := ⟨fun i _ => i < n, fun i H x H' => H' = H ∧ x = .int (lo + i), fun i _ => n ≤ i⟩
theorem turn_list {P : Program} {w : World} {K : PySem.W.Frag} {tg : Expr} (a it : Addr) : Turn P w K tg (Itl K a) [it] it (fun i h => h.IsListIter it a i) where
  mem := by simp
  obj := fun i h st b hb => by
    have e : b = it := by simpa using hb
    subst e
    obtain ⟨o, e, c, d⟩ := st
    exact ⟨o, e, fun v z => by rw [d] at z; cases z⟩
  keep := fun i h h' st k => st.at fun o e => k it (by simp) o e
  item := by
    intro X hP hw hK hc i pins s σ H E I hf st hg
    subst hP hw hK
    obtain ⟨xs, x, hq, hx⟩ := hg
    obtain ⟨its, rv, p, hz⟩ := I.list hq
    obtain ⟨u, hu, ru⟩ := rv.get hx
    obtain ⟨f0, f1, f2, f3, f4, f5⟩ := hf it (by simp)
    refine wpAny_pyNext_list_item st p.isList (x := u) (by simpa using hu) fun h' st' sb => ?_
    have I1 : Inv X pins σ H { s with heap := h' } := I.turned (t' := s.toks) (fun b o hb e => (sb.2 b hb).trans e) f0 f1 f3 f4 f5
    obtain ⟨o, e, c, d⟩ := id st'
    exact ⟨u, rfl, go_of (s := { s with heap := h' }) e c d (by decide) ⟨x, H, I1, ru, ⟨rfl, fun ys hy => by rw [I.list_inj hy hq]; exact hx⟩, st', fun b hb => (hf b hb).1⟩⟩
  done := by
    intro X hP hw hK hc i pins s σ H E I hf st hg
    subst hP hw hK
    obtain ⟨xs, hq, hx⟩ := hg
    obtain ⟨its, rv, p, hz⟩ := I.list hq
    obtain ⟨f0, f1, f2, f3, f4, f5⟩ := hf it (by simp)
    have hl := rv.length
    exact wpAny_pyNext_list_end (I.ok.hd hc) st p.isList (by simp; omega) fun h' eb => ⟨rfl, I.turned (t' := s.toks) (fun b o hb e => eb b o hb e) f0 f1 f3 f4 f5⟩
  self := fun _ _ _ _ _ st h => wpAny_pyIter_listiter st h
theorem turn_tuple {P : Program} {w : World} {K : PySem.W.Frag} {tg : Expr} (a it : Addr) : Turn P w K tg (Itt K a) [it] it (fun i h => h.IsTupleIter it a i) where
  mem := by simp
  obj := fun i h st b hb => by
    have e : b = it := by simpa using hb
    subst e
    obtain ⟨o, e, c, d⟩ := st
    exact ⟨o, e, fun v z => by rw [d] at z; cases z⟩
  keep := fun i h h' st k => st.at fun o e => k it (by simp) o e
  item := by
    intro X hP hw hK hc i pins s σ H E I hf st hg
    subst hP hw hK
    obtain ⟨xs, x, hq, hx⟩ := hg
    obtain ⟨its, rv, p, hz⟩ := I.tuple hq
    obtain ⟨u, hu, ru⟩ := rv.get hx
    obtain ⟨f0, f1, f2, f3, f4, f5⟩ := hf it (by simp)
    refine wpAny_pyNext_tuple_item st (show s.heap.IsTuple a its.toArray from p) (x := u) (by simpa using hu) fun h' st' sb => ?_
    have I1 : Inv X pins σ H { s with heap := h' } := I.turned (t' := s.toks) (fun b o hb e => (sb.2 b hb).trans e) f0 f1 f3 f4 f5
    obtain ⟨o, e, c, d⟩ := id st'
    exact ⟨u, rfl, go_of (s := { s with heap := h' }) e c d (by decide) ⟨x, H, I1, ru, ⟨rfl, fun ys hy => by rw [I.tuple_inj hy hq]; exact hx⟩, st', fun b hb => (hf b hb).1⟩⟩
  done := by
    intro X hP hw hK hc i pins s σ H E I hf st hg
    subst hP hw hK
    obtain ⟨xs, hq, hx⟩ := hg
    obtain ⟨its, rv, p, hz⟩ := I.tuple hq
    obtain ⟨f0, f1, f2, f3, f4, f5⟩ := hf it (by simp)
    have hl := rv.length
    exact wpAny_pyNext_tuple_end (I.ok.hd hc) st (show s.heap.IsTuple a its.toArray from p) (by simp; omega) fun h' eb => ⟨rfl, I.turned (t' := s.toks) (fun b o hb e => eb b o hb e) f0 f1 f3 f4 f5⟩
  self := fun _ _ _ _ _ st h => wpAny_pyIter_tupleiter st h
theorem turn_range {P : Program} {w : World} {K : PySem.W.Frag} {tg : Expr} (it : Addr) (lo : Int) (n : Nat) : Turn P w K tg (Itr lo n) [it] it (fun i h => IsRangeIter h it (lo + (i : Nat) * 1) ((n : Int) - (i : Nat)) 1) where
  mem := by simp
  obj := fun i h st b hb => by
    have e : b = it := by simpa using hb
    subst e
    exact ⟨_, st, fun v z => by
      have z' : Data.fields _ = Data.cell v := z
      cases z'⟩
  keep := fun i h h' st k => k it (by simp) _ st
  item := by
    intro X hP hw hK hc i pins s σ H E I hf st hg
    subst hP hw hK
    obtain ⟨f0, f1, f2, f3, f4, f5⟩ := hf it (by simp)
    have W := Walks.range (prog := X.prog) (w := X.w) (I.ok.hd hc) it lo 1 n
    refine W.item i s _ _ hg st fun v h' tk hv st' kk => ?_
    obtain ⟨t, rfl⟩ := hv
    have I1 : Inv X pins σ H { s with heap := h', toks := tk } := I.turned (fun b o hb e => kk b o (by simpa using hb) e) f0 f1 f3 f4 f5
    refine ⟨_, rfl, go_of (s := { s with heap := h', toks := tk }) (n := "range_iterator") st' rfl rfl (by decide) ⟨.int (lo + i), H, I1, ⟨t, ?_⟩, ⟨rfl, rfl⟩, st', fun b hb => (hf b hb).1⟩⟩
    rw [Int.mul_one]
  done := by
    intro X hP hw hK hc i pins s σ H E I hf st hg
    subst hP hw hK
    obtain ⟨f0, f1, f2, f3, f4, f5⟩ := hf it (by simp)
    exact wpAny_pyNext_range_end (I.ok.hd hc) st (by have : n ≤ i := hg; omega) fun h' eb => ⟨rfl, I.turned (t' := s.toks) (fun b o hb e => eb b o hb e) f0 f1 f3 f4 f5⟩
  self := fun _ _ _ _ _ st h => wpAny_pyIter_rangeiter st h
end L2

namespace L2
open PySem PySem.Spec PyProof.Rows
section
variable {X : Cx} {tg : Expr}
def iList (K : PySem.W.Frag) (tl : TE) : TI := fun σ H R => tl σ H fun x H1 => ∃ a, x = .ref a ∧ (∃ xs, SqL K H1 a xs) ∧ R (Itl K a) H1
def iTup (K : PySem.W.Frag) (tl : TE) : TI := fun σ H R => tl σ H fun x H1 => ∃ a, x = .ref a ∧ (∃ xs, SqT K H1 a xs) ∧ R (Itt K a) H1
theorem pi_list {l : Expr} {tl : TE} (hl : PE X l tl) : PI X tg l (iList X.K tl) := by
  intro pins s σ H R I h
  refine thn (hl pins s σ H _ I h) fun v s1 ⟨x, H1, I1, r1, q1⟩ => ?_
  obtain ⟨a, e, ⟨xs, hq⟩, q⟩ := q1
  subst e
  cases r1
  obtain ⟨its, rv, p, hz⟩ := I1.list hq
  refine wpAny_pyIter_list p.isList ?_
  refine ⟨s1.heap.objs.size, [s1.heap.objs.size], _, _, H1, rfl, I1.kept (t' := s1.toks) fun b o e => Heap.get?_push_of_some _ e, turn_list a _, ⟨_, Heap.get?_push_size _ rfl, rfl, rfl⟩, fun b hb => ?_, q⟩
  have e : b = s1.heap.objs.size := by simpa using hb
  subst e
  exact I1.fpOk (Nat.le_refl _) (I1.hok.fresh (Nat.le_refl _))
theorem pi_tup {l : Expr} {tl : TE} (hl : PE X l tl) : PI X tg l (iTup X.K tl) := by
  intro pins s σ H R I h
  refine thn (hl pins s σ H _ I h) fun v s1 ⟨x, H1, I1, r1, q1⟩ => ?_
  obtain ⟨a, e, ⟨xs, hq⟩, q⟩ := q1
  subst e
  cases r1
  obtain ⟨its, rv, p, hz⟩ := I1.tuple hq
  refine wpAny_pyIter_tuple (show s1.heap.IsTuple a its.toArray from p) ?_
  refine ⟨s1.heap.objs.size, [s1.heap.objs.size], _, _, H1, rfl, I1.kept (t' := s1.toks) fun b o e => Heap.get?_push_of_some _ e, turn_tuple a _, ⟨_, Heap.get?_push_size _ rfl, rfl, rfl⟩, fun b hb => ?_, q⟩
  have e : b = s1.heap.objs.size := by simpa using hb
  subst e
  exact I1.fpOk (Nat.le_refl _) (I1.hok.fresh (Nat.le_refl _))
/-- a range object just made, walked -/
theorem range_it {pins : List (Addr × Obj)} {σ : St} {H : Hp} {s : Shared} {R : It → Hp → Prop} {E : Value → Shared → Prop} {lo hi : Int} {t u v : Tok} {tk : Nat} (I : Inv X pins σ H s) (h1 : -(2 ^ 62) ≤ lo) (h2 : lo < 2 ^ 62) (h3 : -(2 ^ 62) ≤ hi) (h4 : hi < 2 ^ 62)
    (q : R (Itr lo (hi - lo).toNat) H) : wpAny (model X.prog X.w) X.A (pyIter (.ref s.heap.objs.size)) (PIE X pins σ tg R) E { s with heap := s.heap.push { cls := .type "range", data := .fields #[.int lo t, .int hi u, .int 1 v] }, toks := tk } := by
  refine wpAny_pyIter_range (IsRange.new ..) (small_one h1 h2 h3 h4) ?_
  have I1 : Inv X pins σ H { s with heap := s.heap.push { cls := .type "range", data := .fields #[.int lo t, .int hi u, .int 1 v] }, toks := tk } := I.kept fun b o e => Heap.get?_push_of_some _ e
  refine ⟨(s.heap.push { cls := .type "range", data := .fields #[.int lo t, .int hi u, .int 1 v] }).objs.size, [(s.heap.push { cls := .type "range", data := .fields #[.int lo t, .int hi u, .int 1 v] }).objs.size], _, _, H, rfl,
    I1.kept (t' := tk) fun b o e => Heap.get?_push_of_some _ e, turn_range _ lo (hi - lo).toNat, ?_, fun b hb => ?_, q⟩
  · have e1 : lo + ((0 : Nat) : Int) * 1 = lo := by simp
    have e2 : (((hi - lo).toNat : Nat) : Int) - ((0 : Nat) : Int) = Builtin.Range.rangeSize lo hi 1 := by rw [rangeSize_one]; split <;> omega
    show IsRangeIter _ _ (lo + ((0 : Nat) : Int) * 1) ((((hi - lo).toNat : Nat) : Int) - ((0 : Nat) : Int)) 1
    rw [e1, e2]
    exact Heap.get?_push_size _ rfl
  · have e : b = (s.heap.push { cls := .type "range", data := .fields #[.int lo t, .int hi u, .int 1 v] }).objs.size := by simpa using hb
    subst e
    exact I1.fpOk (Nat.le_refl _) (I1.hok.fresh (Nat.le_refl _))
def iRng1 (ta : TA) : TI := fun σ H R => ta σ H fun vs H1 => ∃ j : Int, vs = [.int j] ∧ -(2 ^ 62) ≤ j ∧ j < 2 ^ 62 ∧ R (Itr 0 j.toNat) H1
def iRng2 (ta : TA) : TI := fun σ H R => ta σ H fun vs H1 => ∃ i j : Int, vs = [.int i, .int j] ∧ (-(2 ^ 62) ≤ i ∧ i < 2 ^ 62 ∧ -(2 ^ 62) ≤ j ∧ j < 2 ^ 62) ∧ R (Itr i (j - i).toNat) H1
theorem pi_range1 {a : Expr} {ta : TA} {p pos : Pos} (hg : Gl X "range") (hm : X.mg "range" = none) (ha : PA X [a] ta) (hs : starEach [a] X.env = [(false, eval a X.env)] := by rfl) : PI X tg (.Call (.Name "range" p) [a] [] pos) (iRng1 ta) := by
  intro pins s σ H R I h
  refine Call_ (ld_blt I hg hm boot_range (PyProof.Rows.callWith_type1 (thn (ha pos pins s σ H _ I h) fun us s1 ⟨vs, H1, I1, r1, q1⟩ => ?_) hs rfl))
  obtain ⟨j, e, q1, q2, q⟩ := q1
  subst e
  cases r1 with
  | cons r rr =>
    cases rr
    obtain ⟨t, rfl⟩ := r
    exact call_range_1 (range_it I1 (by omega) (by omega) q1 q2 (by simpa using q))
/-! ### for -/
/-- W: the invariant by the turn and a measure; N: what the body is to reach -/
def tFor (wi : TI) (g : TG) (tb : TS) : TS := fun D σ H => wi σ H fun J H1 => ∃ W : Nat → Nat → St → Hp → Prop, (∃ m, W 0 m σ H1) ∧ ∀ i m σ H, W i m σ H →
  (J.stop i H ∧ D.nx σ H) ∨ (J.go i H ∧ ∃ N : St → Hp → Prop, (∀ σ' H', N σ' H' → ∃ m', m' < m ∧ W (i + 1) m' σ' H') ∧ ∀ x H', J.yld i H x H' → g x σ H' fun σ2 H2 => tb { D with nx := N, ct := N, bk := D.nx } σ2 H2)
/-- the records at fp as they stand -/
def pinsAt (fp : List Addr) (h : Heap) : List (Addr × Obj) := fp.filterMap fun b => (h.get? b).map fun o => (b, o)
theorem mem_pinsAt {fp : List Addr} {h : Heap} {b : Addr} {o : Obj} (hb : b ∈ fp) (e : h.get? b = some o) : (b, o) ∈ pinsAt fp h := List.mem_filterMap.mpr ⟨b, hb, by rw [e]; rfl⟩
theorem of_pinsAt {fp : List Addr} {h : Heap} {p : Addr × Obj} (hp : p ∈ pinsAt fp h) : p.1 ∈ fp ∧ h.get? p.1 = some p.2 := by
  obtain ⟨b, hb, e⟩ := List.mem_filterMap.mp hp
  cases q : h.get? b with
  | none => rw [q] at e; cases e
  | some o =>
    rw [q] at e
    have e' : (b, o) = p := Option.some.inj e
    subst e'
    exact ⟨hb, q⟩
theorem Inv.pinned {pins : List (Addr × Obj)} {σ : St} {H : Hp} {s : Shared} {fp : List Addr} (I : Inv X pins σ H s) (hf : ∀ b ∈ fp, FpOk X pins H b) (ho : ∀ b ∈ fp, ∃ o, s.heap.get? b = some o ∧ ∀ v, o.data ≠ .cell v) : Inv X (pins ++ pinsAt fp s.heap) σ H s :=
  I.pins_of fun p hp => (List.mem_append.mp hp).elim (fun z => I.pin p (List.mem_append_right _ z)) fun z => by
    obtain ⟨hb, e⟩ := of_pinsAt z
    obtain ⟨f0, f1, f2, _⟩ := hf p.1 hb
    obtain ⟨o, e', d⟩ := ho p.1 hb
    rw [e] at e'; cases e'
    exact ⟨e, f0, f1, f2, d⟩
theorem Inv.unpinned {pins pl : List (Addr × Obj)} {σ : St} {H : Hp} {s : Shared} (I : Inv X (pins ++ pl) σ H s) : Inv X pins σ H s := I.pins_of fun p hp => I.pin p (List.mem_append_right _ (List.mem_append_left _ hp))
theorem ps_for {iter : Expr} {body : List Stmt} {wi : TI} {g : TG} {tb : TS} {pos : Pos} (hp : PassesOwn (model X.prog X.w) X.A X.env X.xe) (hc : X.calm = true) (hi : PI X tg iter wi) (hg : PG X tg g) (hb : PSs X body tb)
    (hs : ∀ x, foldedSetIterable iter X.env x = pure x := by intro _; rfl) : PS X (.For tg iter body [] pos) (tFor wi g tb) := by
  intro pins s σ H D I h
  refine wpAny_For (thn (hi pins s σ H _ I h) fun v s1 h1 => thn h1 fun itv s2 h2 => ?_) hs
  obtain ⟨it, fp, tn, J, H2, e, I2, T, st2, f2, W, ⟨m0, w0⟩, turn⟩ := h2
  subst e
  -- what stays true of the iterator's objects through the loop
  have stat : ∀ {H' : Hp}, (∀ b ∈ fp, H' b = none) → ∀ b ∈ fp, FpOk X pins H' b := fun hn b hb => ⟨hn b hb, (f2 b hb).2⟩
  refine codeAny_forLoop_any (fun n s' => ∃ i σ' H', Inv X pins σ' H' s' ∧ tn i s'.heap ∧ (∀ b ∈ fp, H' b = none) ∧ W i n σ' H') ?_ m0 ⟨0, σ, H2, I2, st2, fun b hb => (f2 b hb).1, w0⟩
  rintro n s3 ⟨i, σ3, H3, I3, st3, fr3, w3⟩
  rcases turn i n σ3 H3 w3 with ⟨stop, qn⟩ | ⟨go, N, hN, step⟩
  · refine wpAny_passesOwn hp (thn (T.done X rfl rfl rfl hc i pins s3 σ3 H3 X.xe I3 (stat fr3) st3 stop) fun r s4 ⟨hr, I4⟩ => ?_)
    subst hr
    exact wpAny_execs_nil ⟨σ3, H3, I4, qn⟩
  · refine wpAny_passesOwn hp (thn (T.item X rfl rfl rfl hc i pins s3 σ3 H3 X.xe I3 (stat fr3) st3 go) fun r s4 ⟨u, hr, h4⟩ => ?_)
    subst hr
    refine wpAny_passesOwn hp (thn h4 fun _ s5 ⟨x, H5, I5, r5, y5, st5, fr5⟩ => ?_)
    have I5' := I5.pinned (stat fr5) (T.obj _ _ st5)
    refine wpAny_passesOwn hp (thn (hg _ s5 σ3 H5 x u _ I5' r5 (step x H5 y5)) fun _ s6 ⟨σ6, H6, I6, q6⟩ => ?_)
    refine wpAny_passesOwn hp (thn (hb _ s6 σ6 H6 _ I6 q6) fun f s7 q7 => ?_)
    have again : ∀ {σ7 : St} {H7 : Hp}, Inv X (pins ++ pinsAt fp s5.heap) σ7 H7 s7 → N σ7 H7 → ∃ m, m < n ∧ ∃ i σ' H', Inv X pins σ' H' s7 ∧ tn i s7.heap ∧ (∀ b ∈ fp, H' b = none) ∧ W i m σ' H' := fun {σ7 H7} I7 n7 => by
      obtain ⟨m', hm, w7⟩ := hN σ7 H7 n7
      refine ⟨m', hm, i + 1, σ7, H7, I7.unpinned, T.keep _ _ _ st5 fun b hb o e => (I7.pin (b, o) (List.mem_append_right _ (List.mem_append_right _ (mem_pinsAt hb e)))).1, fun b hb => ?_, w7⟩
      obtain ⟨o, e, d⟩ := T.obj _ _ st5 b hb
      exact (I7.pin (b, o) (List.mem_append_right _ (List.mem_append_right _ (mem_pinsAt hb e)))).2.1
    cases f with
    | next => obtain ⟨σ7, H7, I7, n7⟩ := q7; exact again I7 n7
    | cont => obtain ⟨σ7, H7, I7, n7⟩ := q7; exact again I7 n7
    | brk => obtain ⟨σ7, H7, I7, q7⟩ := q7; exact ⟨σ7, H7, I7.unpinned, q7⟩
    | ret v => obtain ⟨x7, σ7, H7, I7, r7, q7⟩ := q7; exact ⟨x7, σ7, H7, I7.unpinned, r7, q7⟩
end

/-! ### the forms one uses -/
/-- over a list that the body leaves as it is -/
theorem for_list {K : PySem.W.Frag} {a : Addr} {xs : List V} {g : TG} {tb : TS} {D : Ends} {σ : St} {H : Hp} (Pv : Nat → St → Hp → Prop) (h0 : Pv 0 σ H) (hl : ∀ i σ H, i ≤ xs.length → Pv i σ H → SqL K H a xs)
    (hs : ∀ i x σ H, xs[i]? = some x → Pv i σ H → g x σ H fun σ2 H2 => tb { D with nx := Pv (i + 1), ct := Pv (i + 1), bk := D.nx } σ2 H2) (hd : ∀ σ H, Pv xs.length σ H → D.nx σ H) :
    ∃ W : Nat → Nat → St → Hp → Prop, (∃ m, W 0 m σ H) ∧ ∀ i m σ H, W i m σ H →
      ((Itl K a).stop i H ∧ D.nx σ H) ∨ ((Itl K a).go i H ∧ ∃ N : St → Hp → Prop, (∀ σ' H', N σ' H' → ∃ m', m' < m ∧ W (i + 1) m' σ' H') ∧ ∀ x H', (Itl K a).yld i H x H' → g x σ H' fun σ2 H2 => tb { D with nx := N, ct := N, bk := D.nx } σ2 H2) := by
  refine ⟨fun i m σ H => m = xs.length - i ∧ i ≤ xs.length ∧ Pv i σ H, ⟨xs.length, by simp, Nat.zero_le _, h0⟩, ?_⟩
  rintro i m σ H ⟨rfl, hi, p⟩
  have q := hl i σ H hi p
  by_cases hlt : i < xs.length
  · refine .inr ⟨⟨xs, xs[i], q, by simp [hlt]⟩, Pv (i + 1), fun σ' H' p' => ⟨xs.length - (i + 1), by omega, rfl, hlt, p'⟩, fun x H' y => ?_⟩
    obtain ⟨e, y⟩ := y
    subst e
    exact hs i x σ _ (y xs q) p
  · have e : i = xs.length := by omega
    subst e
    exact .inl ⟨⟨xs, q, Nat.le_refl _⟩, hd σ H p⟩
theorem for_tup {K : PySem.W.Frag} {a : Addr} {xs : List V} {g : TG} {tb : TS} {D : Ends} {σ : St} {H : Hp} (Pv : Nat → St → Hp → Prop) (h0 : Pv 0 σ H) (hl : ∀ i σ H, i ≤ xs.length → Pv i σ H → SqT K H a xs)
    (hs : ∀ i x σ H, xs[i]? = some x → Pv i σ H → g x σ H fun σ2 H2 => tb { D with nx := Pv (i + 1), ct := Pv (i + 1), bk := D.nx } σ2 H2) (hd : ∀ σ H, Pv xs.length σ H → D.nx σ H) :
    ∃ W : Nat → Nat → St → Hp → Prop, (∃ m, W 0 m σ H) ∧ ∀ i m σ H, W i m σ H →
      ((Itt K a).stop i H ∧ D.nx σ H) ∨ ((Itt K a).go i H ∧ ∃ N : St → Hp → Prop, (∀ σ' H', N σ' H' → ∃ m', m' < m ∧ W (i + 1) m' σ' H') ∧ ∀ x H', (Itt K a).yld i H x H' → g x σ H' fun σ2 H2 => tb { D with nx := N, ct := N, bk := D.nx } σ2 H2) := by
  refine ⟨fun i m σ H => m = xs.length - i ∧ i ≤ xs.length ∧ Pv i σ H, ⟨xs.length, by simp, Nat.zero_le _, h0⟩, ?_⟩
  rintro i m σ H ⟨rfl, hi, p⟩
  have q := hl i σ H hi p
  by_cases hlt : i < xs.length
  · refine .inr ⟨⟨xs, xs[i], q, by simp [hlt]⟩, Pv (i + 1), fun σ' H' p' => ⟨xs.length - (i + 1), by omega, rfl, hlt, p'⟩, fun x H' y => ?_⟩
    obtain ⟨e, y⟩ := y
    subst e
    exact hs i x σ _ (y xs q) p
  · have e : i = xs.length := by omega
    subst e
    exact .inl ⟨⟨xs, q, Nat.le_refl _⟩, hd σ H p⟩
theorem for_range {lo : Int} {n : Nat} {g : TG} {tb : TS} {D : Ends} {σ : St} {H : Hp} (Pv : Nat → St → Hp → Prop) (h0 : Pv 0 σ H)
    (hs : ∀ i σ H, i < n → Pv i σ H → g (.int (lo + i)) σ H fun σ2 H2 => tb { D with nx := Pv (i + 1), ct := Pv (i + 1), bk := D.nx } σ2 H2) (hd : ∀ σ H, Pv n σ H → D.nx σ H) :
    ∃ W : Nat → Nat → St → Hp → Prop, (∃ m, W 0 m σ H) ∧ ∀ i m σ H, W i m σ H →
      ((Itr lo n).stop i H ∧ D.nx σ H) ∨ ((Itr lo n).go i H ∧ ∃ N : St → Hp → Prop, (∀ σ' H', N σ' H' → ∃ m', m' < m ∧ W (i + 1) m' σ' H') ∧ ∀ x H', (Itr lo n).yld i H x H' → g x σ H' fun σ2 H2 => tb { D with nx := N, ct := N, bk := D.nx } σ2 H2) := by
  refine ⟨fun i m σ H => m = n - i ∧ i ≤ n ∧ Pv i σ H, ⟨n, by simp, Nat.zero_le _, h0⟩, ?_⟩
  rintro i m σ H ⟨rfl, hi, p⟩
  by_cases hlt : i < n
  · refine .inr ⟨hlt, Pv (i + 1), fun σ' H' p' => ⟨n - (i + 1), by omega, rfl, hlt, p'⟩, fun x H' y => ?_⟩
    obtain ⟨e, y⟩ := y
    subst e y
    exact hs i σ _ hlt p
  · have e : i = n := by omega
    subst e
    exact .inl ⟨Nat.le_refl _, hd σ H p⟩
end L2

namespace L2
open PySem PySem.Spec PyProof.Rows

abbrev R2 := V → V → Hp → VK → Prop
/-- a two-place operation on values: f is binaryOp op, inplaceOp op or compareOp op -/
def OpR (X : Cx) (f : Value → Value → Sem Value) (r : R2) : Prop :=
  ∀ (pins : List (Addr × Obj)) (s : Shared) (σ : St) (H : Hp) (x y : V) (v u : Value) (Q : VK), Inv X pins σ H s → RelV x v → RelV y u → r x y H Q →
    wpAny (model X.prog X.w) X.A (f v u) (EP X pins σ Q) X.xe s
/-- a call of a value that is known (a builtin, a type) with values -/
def CallR (X : Cx) (f : Value) (r : List V → Hp → VK → Prop) : Prop :=
  ∀ (pins : List (Addr × Obj)) (s : Shared) (σ : St) (H : Hp) (xs : List V) (us : List Value) (Q : VK), Inv X pins σ H s → Vals xs us → r xs H Q →
    wpAny (model X.prog X.w) X.A (call f us) (EP X pins σ Q) X.xe s
def tOp (r : R2) (ta tb : TE) : TE := fun σ H Q => ta σ H fun x H1 => tb σ H1 fun y H2 => r x y H2 Q
def tUn (r : V → Hp → VK → Prop) (ta : TE) : TE := fun σ H Q => ta σ H fun x H1 => r x H1 Q
/-- ints in, under C, and a value out -/
def rI (C : Int → Int → Prop) (g : Int → Int → V) : R2 := fun x y H Q => ∃ i j, x = .int i ∧ y = .int j ∧ C i j ∧ Q (g i j) H
def rI0 (g : Int → Int → V) : R2 := fun x y H Q => ∃ i j, x = .int i ∧ y = .int j ∧ Q (g i j) H
def rU (g : Int → V) : V → Hp → VK → Prop := fun x H Q => ∃ i, x = .int i ∧ Q (g i) H

section
variable {X : Cx} {a b c : Expr} {ta tb tc : TE} {pos : Pos}

theorem binT (ha : PE X a ta) (hb : PE X b tb) {pins : List (Addr × Obj)} {s : Shared} {σ : St} {H : Hp} {R : V → V → Hp → Prop} (I : Inv X pins σ H s)
    (h : ta σ H fun x H1 => tb σ H1 fun y H2 => R x y H2) {Q : Value → Shared → Prop} {f : Value → Value → Sem Value}
    (hf : ∀ v u s2 x y H2, Inv X pins σ H2 s2 → RelV x v → RelV y u → R x y H2 → wpAny (model X.prog X.w) X.A (f v u) Q X.xe s2) :
    wpAny (model X.prog X.w) X.A (eval a X.env) (fun v s₁ => wpAny (model X.prog X.w) X.A (eval b X.env) (fun u s₂ => wpAny (model X.prog X.w) X.A (f v u) Q X.xe s₂) X.xe s₁) X.xe s := by
  refine thn (ha pins s σ H _ I h) fun v s1 ⟨x, H1, I1, r1, q1⟩ => ?_
  refine thn (hb pins s1 σ H1 _ I1 q1) fun u s2 ⟨y, H2, I2, r2, q2⟩ => ?_
  exact hf v u s2 x y H2 I2 r1 r2 q2

theorem pe_op {op : Operator} {r : R2} (ho : OpR X (binaryOp op) r) (ha : PE X a ta) (hb : PE X b tb) : PE X (.BinOp a op b pos) (tOp r ta tb) := by
  intro pins s σ H Q I h
  exact wpAny_BinOp (binT ha hb I h fun v u s2 x y H2 I2 rx ry q => ho pins s2 σ H2 x y v u Q I2 rx ry q)
/-! ### ints -/
theorem opI {f : Value → Value → Sem Value} {C : Int → Int → Prop} {g : Int → Int → Int}
    (rule : ∀ (i j : Int) (t u : Tok) (s : Shared) (Q : Value → Shared → Prop) (E : Value → Shared → Prop), C i j → Q (.int (g i j) s.toks) { s with toks := s.toks + 1 } → wpAny (model X.prog X.w) X.A (f (.int i t) (.int j u)) Q E s) :
    OpR X f (rI C fun i j => .int (g i j)) := by
  intro pins s σ H x y v u Q I rx ry h
  obtain ⟨i, j, rfl, rfl, hc, q⟩ := h
  obtain ⟨t, rfl⟩ := rx
  obtain ⟨t', rfl⟩ := ry
  exact rule i j t t' s _ _ hc ⟨.int (g i j), H, I.tok _, ⟨_, rfl⟩, q⟩
theorem opI0 {f : Value → Value → Sem Value} {g : Int → Int → Int}
    (rule : ∀ (i j : Int) (t u : Tok) (s : Shared) (Q : Value → Shared → Prop) (E : Value → Shared → Prop), Q (.int (g i j) s.toks) { s with toks := s.toks + 1 } → wpAny (model X.prog X.w) X.A (f (.int i t) (.int j u)) Q E s) :
    OpR X f (rI0 fun i j => .int (g i j)) := by
  intro pins s σ H x y v u Q I rx ry h
  obtain ⟨i, j, rfl, rfl, q⟩ := h
  obtain ⟨t, rfl⟩ := rx
  obtain ⟨t', rfl⟩ := ry
  exact rule i j t t' s _ _ ⟨.int (g i j), H, I.tok _, ⟨_, rfl⟩, q⟩
theorem opB0 {f : Value → Value → Sem Value} {g : Int → Int → Bool}
    (rule : ∀ (i j : Int) (t u : Tok) (s : Shared) (Q : Value → Shared → Prop) (E : Value → Shared → Prop), Q (.bool (g i j)) s → wpAny (model X.prog X.w) X.A (f (.int i t) (.int j u)) Q E s) :
    OpR X f (rI0 fun i j => .bl (g i j)) := by
  intro pins s σ H x y v u Q I rx ry h
  obtain ⟨i, j, rfl, rfl, q⟩ := h
  obtain ⟨t, rfl⟩ := rx
  obtain ⟨t', rfl⟩ := ry
  exact rule i j t t' s _ _ ⟨.bl (g i j), H, I, rfl, q⟩

def CDiv (i j : Int) : Prop := 0 < j ∧ j < 1073741824
def CPow (i j : Int) : Prop := 0 ≤ j ∧ j ≤ 1000000 ∧ i.natAbs < 2 ^ 64
def CMul (i j : Int) : Prop := (-(2 ^ 64) < i ∧ i < 2 ^ 64) ∨ (-(2 ^ 64) < j ∧ j < 2 ^ 64)
theorem CMul.ok {i j : Int} (h : CMul i j) : IntMulOk i j := by
  rcases h with ⟨h1, h2⟩ | ⟨h1, h2⟩
  · exact .of_left (intBits_le_64 h1 h2)
  · exact .of_right (intBits_le_64 h1 h2)
theorem op_add : OpR X (binaryOp .Add) (rI0 fun i j => .int (i + j)) := opI0 fun _ _ _ _ _ _ _ q => add_int q
theorem op_mul : OpR X (binaryOp .Mult) (rI CMul fun i j => .int (i * j)) := opI fun _ _ _ _ _ _ _ hc q => mul_int q hc.ok
/-- // by a positive divisor -/
theorem op_fdiv : OpR X (binaryOp .FloorDiv) (rI CDiv fun i j => .int (i / j)) := opI fun i j _ _ _ _ _ hc q => by
  have h1 : (0 : Int) < j := hc.1
  have h2 : j < 1073741824 := hc.2
  exact floordiv_int (by omega) (by rw [Int.fdiv_eq_ediv_of_nonneg i (by omega)]; exact q) (.inl (PyProof.noPylong_small (by omega)))
/-- % by a positive divisor of any size -/
theorem op_mod : OpR X (binaryOp .Mod) (rI (fun _ j => 0 < j) fun i j => .int (i % j)) := opI fun i j _ _ _ _ _ hc q => by
  have h1 : (0 : Int) < j := hc
  exact mod_int' (by omega) (by rw [Int.fmod_eq_emod_of_nonneg i (by omega)]; exact q)
theorem op_pow : OpR X (binaryOp .Pow) (rI CPow fun i j => .int (i ^ j.toNat)) := opI fun _ _ _ _ _ _ _ hc q => pow_int_small hc.1 hc.2.1 hc.2.2 q
theorem op_shl : OpR X (binaryOp .LShift) (rI CPow fun i j => .int (i * 2 ^ j.toNat)) := opI fun _ _ _ _ _ _ _ hc q => lshift_int_small hc.1 hc.2.1 hc.2.2 q
/-! ### bools among ints: n += (a < b) -/
end

/-! ### comparisons -/
/-- the scalars that == tells apart as data does -/
def scal : V → V → Bool
  | .non, .non => true | .non, .int _ => true | .int _, .non => true | .non, .bl _ => true | .bl _, .non => true | .non, .str _ => true | .str _, .non => true
  | .int _, .int _ => true | .bl _, .bl _ => true | .str _, .str _ => true | .byt _, .byt _ => true
  | .int _, .str _ => true | .str _, .int _ => true | .bl _, .str _ => true | .str _, .bl _ => true
  | _, _ => false
def rEq : R2 := fun x y H Q => scal x y = true ∧ Q (.bl (decide (x = y))) H
def rNe : R2 := fun x y H Q => scal x y = true ∧ Q (.bl (!decide (x = y))) H

theorem dec_int {i j : Int} : decide (V.int i = V.int j) = (i == j) := by
  rw [Bool.eq_iff_iff]
  simp
theorem dec_bl {i j : Bool} : decide (V.bl i = V.bl j) = (i == j) := by
  rw [Bool.eq_iff_iff]
  simp
theorem dec_str {i j : Str} : decide (V.str i = V.str j) = (i == j) := by
  rw [Bool.eq_iff_iff]
  simp
theorem dec_byt {i j : Array UInt8} : decide (V.byt i = V.byt j) = (i.toList == j.toList) := by
  rw [Bool.eq_iff_iff]
  cases i
  cases j
  simp

section
variable {X : Cx} {a b c : Expr} {ta tb tc : TE} {pos : Pos}
theorem fin_bl {pins : List (Addr × Obj)} {σ : St} {H : Hp} {s : Shared} {Q : VK} {k k' : Bool} (I : Inv X pins σ H s) (q : Q (.bl k) H) (e : k = k') : EP X pins σ Q (.bool k') s := by
  subst e
  exact ⟨.bl k, H, I, rfl, q⟩
theorem op_eq : OpR X (compareOp .Eq) rEq := by
  intro pins s σ H x y v u Q I rx ry h
  obtain ⟨hs, q⟩ := h
  cases x with
  | non =>
    cases rx
    cases y with
    | non => cases ry; exact PySem.EqNone.eq_none_none (fin_bl I q (by simp))
    | bl j => cases ry; exact PySem.EqNone.eq_none_bool (fin_bl I q (by simp))
    | int j => obtain ⟨t', rfl⟩ := ry; exact PySem.EqNone.eq_none_int (fin_bl I q (by simp))
    | str j => obtain ⟨t', rfl⟩ := ry; exact PySem.EqNone.eq_none_str (fin_bl I q (by simp))
    | _ => exact absurd (show false = true from hs) Bool.false_ne_true
  | bl i =>
    cases rx
    cases y with
    | non => cases ry; exact PySem.EqNone.eq_bool_none (fin_bl I q (by simp))
    | bl j => cases ry; exact eq_bool (fin_bl I q dec_bl)
    | str j => obtain ⟨t', rfl⟩ := ry; exact PySem.EqMixed.eq_bool_str (fin_bl I q (by simp))
    | _ => exact absurd (show false = true from hs) Bool.false_ne_true
  | int i =>
    obtain ⟨t, rfl⟩ := rx
    cases y with
    | non => cases ry; exact PySem.EqNone.eq_int_none (fin_bl I q (by simp))
    | int j => obtain ⟨t', rfl⟩ := ry; exact eq_int (fin_bl I q dec_int)
    | str j => obtain ⟨t', rfl⟩ := ry; exact PySem.EqMixed.eq_int_str (fin_bl I q (by simp))
    | _ => exact absurd (show false = true from hs) Bool.false_ne_true
  | str i =>
    obtain ⟨t, rfl⟩ := rx
    cases y with
    | non => cases ry; exact PySem.EqNone.eq_str_none (fin_bl I q (by simp))
    | bl j => cases ry; exact PySem.EqMixed.eq_str_bool (fin_bl I q (by simp))
    | int j => obtain ⟨t', rfl⟩ := ry; exact PySem.EqMixed.eq_str_int (fin_bl I q (by simp))
    | str j => obtain ⟨t', rfl⟩ := ry; exact eq_str (fin_bl I q dec_str)
    | _ => exact absurd (show false = true from hs) Bool.false_ne_true
  | byt i =>
    obtain ⟨t, rfl⟩ := rx
    cases y with
    | byt j => obtain ⟨t', rfl⟩ := ry; exact PySem.W.eq_bytes (fin_bl I q dec_byt)
    | _ => exact absurd (show false = true from hs) Bool.false_ne_true
  | _ => cases y <;> exact absurd (show false = true from hs) Bool.false_ne_true
theorem op_lt : OpR X (compareOp .Lt) (rI0 fun i j => .bl (decide (i < j))) := opB0 fun _ _ _ _ _ _ _ q => lt_int q
theorem op_gt : OpR X (compareOp .Gt) (rI0 fun i j => .bl (decide (j < i))) := opB0 fun _ _ _ _ _ _ _ q => gt_int q
/-- two rules for one operation: by cases -/
theorem OpR.or {f : Value → Value → Sem Value} {r r' : R2} (h : OpR X f r) (h' : OpR X f r') : OpR X f (fun x y H Q => r x y H Q ∨ r' x y H Q) := by
  intro pins s σ H x y v u Q I rx ry q
  rcases q with q | q
  · exact h pins s σ H x y v u Q I rx ry q
  · exact h' pins s σ H x y v u Q I rx ry q

theorem nomark (b : Expr) {op : CmpOp} (h : op ≠ .In := by decide) (h2 : op ≠ .NotIn := by decide) : behindInMarks op b = false := by
  have e1 : (op == CmpOp.In) = false := by cases op <;> first | rfl | exact absurd rfl h
  have e2 : (op == CmpOp.NotIn) = false := by cases op <;> first | rfl | exact absurd rfl h2
  cases b <;> simp [behindInMarks, e1, e2]
/-- a comparison as a value; hm: nomark b, or (for in, not in) by with_unfolding_all rfl -/
theorem pe_cmpR {op : CmpOp} {r : R2} (ho : OpR X (compareOp op) r) (ha : PE X a ta) (hb : PE X b tb) (hm : behindInMarks op b = false) : PE X (.Compare a [op] [b] pos) (tOp r ta tb) := by
  intro pins s σ H Q I h
  exact wpAny_Compare1 (binT ha hb I h fun v u s2 x y H2 I2 rx ry q => ho pins s2 σ H2 x y v u Q I2 rx ry q) hm
/-- a reading of a value as a test -/
def tTest (t : TE) : TT := fun σ H Q => t σ H fun x H' => ∃ k, x = .bl k ∧ Q k H'
theorem pt_cmpR {op : CmpOp} {r : R2} (ho : OpR X (compareOp op) r) (ha : PE X a ta) (hb : PE X b tb) (hm : behindInMarks op b = false) : PT X (.Compare a [op] [b] pos) (tTest (tOp r ta tb)) := by
  intro pins s σ H Q I h
  refine wpAny_isTrue_Compare1 (thn (ha pins s σ H _ I h) fun v s1 ⟨x, H1, I1, r1, q1⟩ => thn (hb pins s1 σ H1 _ I1 q1) fun u s2 ⟨y, H2, I2, r2, q2⟩ =>
    thn (ho pins s2 σ H2 x y v u _ I2 r1 r2 q2) fun c s3 ⟨z, H3, I3, r3, k, e, q3⟩ => ?_) hm
  subst e
  cases r3
  exact wpAny_truthy_bool ⟨H3, I3, q3⟩
/-- a op1 b op2 c -/
def tChain (r r' : R2) (ta tb tc : TE) : TE := fun σ H Q => ta σ H fun x H1 => tb σ H1 fun y H2 => r x y H2 fun z H3 => ∃ k, z = .bl k ∧
  (if k = true then tc σ H3 fun w' H4 => r' y w' H4 Q else Q (.bl false) H3)
/-! ### truth -/
theorem line63 : (sizeLine : Nat) < 2 ^ 63 := by rw [sizeLine_eq]; decide
/-! ### strs and bytes -/
/-! ### scalar builtins, by CallR -/
theorem vals1 {x : V} {us : List Value} (r : Vals [x] us) : ∃ u, us = [u] ∧ RelV x u := by
  cases r with
  | cons r1 r2 => cases r2; exact ⟨_, rfl, r1⟩
theorem vals2 {x y : V} {us : List Value} (r : Vals [x, y] us) : ∃ u w', us = [u, w'] ∧ RelV x u ∧ RelV y w' := by
  cases r with
  | cons r1 r2 =>
    cases r2 with
    | cons r3 r4 => cases r4; exact ⟨_, _, rfl, r1, r3⟩
theorem call_int1 : CallR X (.type "int") (fun xs H Q => (∃ i, xs = [.int i] ∧ Q (.int i) H) ∨ ∃ k, xs = [.bl k] ∧ Q (.int (if k then 1 else 0)) H) := by
  intro pins s σ H xs us Q I r h
  rcases h with ⟨i, rfl, q⟩ | ⟨k, rfl, q⟩
  · obtain ⟨u, rfl, t, rfl⟩ := vals1 r
    exact call_int_int ⟨.int i, H, I, ⟨_, rfl⟩, q⟩
  · obtain ⟨u, rfl, r1⟩ := vals1 r
    cases r1
    exact call_int_bool ⟨.int (if k then 1 else 0), H, I.tok _, ⟨_, rfl⟩, q⟩
end
end L2

namespace L2
open PySem PySem.Spec PyProof.Rows

/-! ### an instance, its attributes a map -/
structure ObjM (h : Heap) (x dx C : Addr) (mA : Str → Option Value) : Prop where
  obj : h.get? x = some (PySem.W.instObj C dx)
  ns : h.Ns1 dx mA
  ne : dx ≠ x

theorem lookIn_ns {h : Heap} {dx : Addr} {mA : Str → Option Value} (n : h.Ns1 dx mA) : ∃ od, h.get? dx = some od ∧ ∀ name, PySem.W.lookIn name od = some (mA name) := by
  obtain ⟨o, es, ep, ho, hd, hk, _, hm⟩ := n
  refine ⟨o, ho, fun name => ?_⟩
  have e := hm name
  unfold nsFind findBy at e
  rw [← Array.find?_toList] at e
  unfold PySem.W.lookIn
  rw [hd]
  dsimp only
  split
  · rename_i y q
    rw [q] at e
    exact congrArg some e
  · rename_i q
    rw [q] at e
    have a : es.toList.any (·.refKey) = false := by
      rw [List.any_eq_false]
      intro y hy
      obtain ⟨z, t, hkey⟩ := hk y (Array.mem_toList_iff.mp hy)
      simp [DictEntry.refKey, hkey]
    have a' : ¬ es.toList.any (·.refKey) = true := by rw [a]; exact Bool.false_ne_true
    rw [if_neg a']
    exact congrArg some e

theorem ObjM.look {h : Heap} {x dx C : Addr} {mA : Str → Option Value} (I : ObjM h x dx C mA) : ∃ od, PySem.W.InstAt h x (PySem.W.instObj C dx) C (some od) ∧ ∀ name, PySem.W.lookIn name od = some (mA name) :=
  let ⟨od, ho, hl⟩ := lookIn_ns I.ns
  ⟨od, ⟨I.obj, rfl, rfl, ho⟩, hl⟩

section
variable {prog : Program} {w : World} {A : Around} {E : Value → Shared → Prop} {s : Shared} {K : PySem.W.Frag} {x dx C f : Addr} {mA : Str → Option Value} {name : Str} {v : Value}

end

/-! ### the attributes as a list of pairs -/
theorem RelO.some_of {v : V} {o : Option Value} (r : RelO (some v) o) : ∃ u, o = some u ∧ RelV v u := by
  cases o with
  | none => exact (show False from r).elim
  | some u => exact ⟨u, rfl, r⟩
theorem RelO.none_of {o : Option Value} (r : RelO none o) : o = none := by
  cases o with
  | none => rfl
  | some u => exact (show False from r).elim
section
variable {P : Program} {w : World} {H H' : Hp} {h h' : Heap} {a C dx : Addr} {fs fs' : List (Str × V)}
end

/-! ### what of the text a class must have -/
structure Cls (K : PySem.W.Frag) (C : Addr) : Prop where
  pg : PySem.W.plainGet K C Str.empty = true
  hd : PySem.W.hasDictIn K C = true
  po : PySem.W.plainOver K C = true
  sa : PySem.W.findIn K (.ref C) "__setattr__" = some (some (.builtin "object.__setattr__"))
theorem Cls.get {K : PySem.W.Frag} {C : Addr} (c : Cls K C) (f : Str) : PySem.W.plainGet K C f = true := c.pg
/-- a constant of the class -/
structure Con (K : PySem.W.Frag) (C : Addr) (f : Str) (v : V) (u : Value) : Prop where
  at_ : PySem.W.findIn K (.ref C) f = some (some u)
  rel : RelV v u
  get : PySem.W.specialIn K u "__get__" = some none
  cp : PySem.W.copiedNames.contains f = false
/-- a method: a plain def of the class or of one above it -/
structure Meth (K : PySem.W.Frag) (C : Addr) (m : Str) (f : Addr) : Prop where
  at_ : PySem.W.findIn K (.ref C) m = some (some (.ref f))
  fn : PySem.W.isFn K (.ref f) = true
  kp : PySem.W.keepIn K (.ref f) = true

section
variable {X : Cx} {pins : List (Addr × Obj)} {σ : St} {H : Hp} {s : Shared} {a C dx : Addr} {fs : List (Str × V)} {f : Str} {v : V} {A : Around} {E : Value → Shared → Prop}

/-- a new instance, tracked, without attributes -/
theorem Inv.made (I : Inv X pins σ H s) : Inv X pins σ (upd (upd H s.heap.objs.size (.own (s.heap.objs.size + 1))) (s.heap.objs.size + 1) (.ins C s.heap.objs.size []))
    { s with heap := (s.heap.push PySem.W.emptyDict).push (PySem.W.instObj C s.heap.objs.size) } := by
  have e1 : (s.heap.push PySem.W.emptyDict).get? s.heap.objs.size = some PySem.W.emptyDict := Heap.get?_push_size s.heap rfl
  have e2 : ((s.heap.push PySem.W.emptyDict).push (PySem.W.instObj C s.heap.objs.size)).get? (s.heap.objs.size + 1) = some (PySem.W.instObj C s.heap.objs.size) := by
    have := Heap.get?_push_size (s.heap.push PySem.W.emptyDict) (o := PySem.W.instObj C s.heap.objs.size) rfl
    rwa [Heap.size_push] at this
  have e3 : (s.heap.push PySem.W.emptyDict).Ns s.heap.objs.size (fun _ => none) := ⟨PySem.W.emptyDict, #[], _, e1, rfl, (fun e he => absurd he (by simp)), fun _ => rfl⟩
  have I1 := I.laid (a := s.heap.objs.size) (o := .own (s.heap.objs.size + 1)) (h' := s.heap.push PySem.W.emptyDict) (t' := s.toks) (fun b u q => Heap.get?_push_of_some _ q) (Nat.le_refl _) ⟨_, e1⟩
  refine I1.laid (a := s.heap.objs.size + 1) (o := .ins C s.heap.objs.size []) (t' := s.toks) (fun b u q => Heap.get?_push_of_some _ q) (Nat.le_of_eq (Heap.size_push _ _)) ?_
  have ne : s.heap.objs.size ≠ s.heap.objs.size + 1 := Nat.ne_of_lt (Nat.lt_succ_self _)
  refine ⟨by rw [upd_ne ne, upd_same], Nat.zero_le _, ne, e2, fun _ => none, (Heap.Ns1.of_empty e3).at fun o q => Heap.get?_push_of_some _ q, fun _ => True.intro, fun y hy => absurd rfl hy⟩

end

/-! ### readings and rules -/
section
variable {X : Cx} {o e value : Expr} {f : Str} {pos pos' tpos : Pos} {ta tv : TE}
end

/-! ### isinstance -/
section
variable {X : Cx} {pins : List (Addr × Obj)} {σ : St} {H : Hp} {s : Shared} {A : Around} {E : Value → Shared → Prop} {Q : Value → Shared → Prop} {c : Value} {b : Bool}
/-- the type of a value, as the fragment's deciders take it; for an instance its class -/
inductive TyOf (K : PySem.W.Frag) (H : Hp) : V → Value → Prop where
  | non : TyOf K H .non (.type "NoneType")
  | bl (x : Bool) : TyOf K H (.bl x) (.type "bool")
  | int (i : Int) : TyOf K H (.int i) (.type "int")
  | str (x : Str) : TyOf K H (.str x) (.type "str")
  | flt (x : UInt64) : TyOf K H (.flt x) (.type "float")
  | lst {a : Addr} {xs : List V} (e : H a = some (.lst xs)) : TyOf K H (.ref a) (.type "list")
  | frz {a : Addr} {o : Obj} {xs : List V} (e : H a = some (.frz o (.lst xs))) : TyOf K H (.ref a) (.type "list")
  | tup {a : Addr} {xs : List V} (e : H a = some (.tup xs)) : TyOf K H (.ref a) (.type "tuple")
  | dK {a : Addr} {kvs : List (Key × V)} (e : H a = some (.dK kvs)) : TyOf K H (.ref a) (.type "dict")
  | dT {a : Addr} {kvs : List (List Key × V)} (e : H a = some (.dT kvs)) : TyOf K H (.ref a) (.type "dict")
  | ins {a C dx : Addr} {fs : List (Str × V)} (e : H a = some (.ins C dx fs)) (cl : Cls K C) (ha : PySem.W.findIn K (.ref C) "__class__" = some (some (.builtin "object.__class__")))
      (hn : PySem.W.specialIn K (.builtin "object.__class__") "__get__" = some (some (.builtin "getset_descriptor.__get__"))) (htk : PySem.W.takesIn K (.builtin "object.__class__") = some true)
      (hm : PySem.W.mroIn K C (.type "object") = some true) : TyOf K H (.ref a) (.ref C)
end
end L2

namespace L2
open PySem PySem.Spec PyProof.Rows

/-! ### room -/
structure Room (k : Nat) (A : Around) : Prop where
  hd : A.handled = none
  dp : A.depth + 3 * k + 5 < recursionLimit
  un : A.units + 16 * k + 200 < cLine
theorem Room.mono {j k : Nat} {A : Around} (r : Room k A) (h : j ≤ k) : Room j A := ⟨r.hd, by have := r.dp; omega, by have := r.un; omega⟩
theorem Room.deeper {k : Nat} {A : Around} (r : Room (k + 1) A) (env : Env) : Room k (A.deeper env) :=
  ⟨r.hd, by have := r.dp; show A.depth + 1 + 3 * k + 5 < _; omega, by have := r.un; show A.units + 3 + 16 * k + 200 < _; omega⟩
theorem Room.in1 {k : Nat} {A : Around} (r : Room (k + 1) A) : Room k A.in1 :=
  ⟨r.hd, by have := r.dp; show A.depth + 3 * k + 5 < _; omega, by have := r.un; show A.units + 1 + 16 * k + 200 < _; omega⟩
theorem make_depth {A : Around} {C : Addr} {us : List Value} {kw : List (Str × Value)} : (A.under (.builtin "type.__call__" ⟨.ref C :: us, kw⟩)).depth = A.depth + 1 := by
  first | rfl | simp [Around.under, Code.weight, Code.isCreation, Code.isGuard, Code.isCaller, Code.frames, Code.isFrame, guardIds]
theorem make_units {A : Around} {C : Addr} {us : List Value} {kw : List (Str × Value)} : (A.under (.builtin "type.__call__" ⟨.ref C :: us, kw⟩)).units = A.units + 1 := by
  first | rfl | simp [Around.under, Code.cUnits, Code.frames, Code.isFrame]
theorem Room.make {k : Nat} {A : Around} (r : Room (k + 1) A) (C : Addr) (us : List Value) (kw : List (Str × Value)) : Room k (A.under (.builtin "type.__call__" ⟨.ref C :: us, kw⟩)) :=
  ⟨r.hd, by have := r.dp; rw [make_depth]; omega, by have := r.un; rw [make_units]; omega⟩
theorem Room.depth {k : Nat} {A : Around} (r : Room k A) : A.depth < recursionLimit := by have := r.dp; omega
theorem Room.units {k : Nat} {A : Around} (r : Room k A) : A.units + 64 < cLine := by have := r.un; omega
/-! ### argument lists and displays -/
def tNil : TA := fun _ H Q => Q [] H
def tCons (ta : TE) (tr : TA) : TA := fun σ H Q => ta σ H fun x H1 => tr σ H1 fun xs H2 => Q (x :: xs) H2
section
variable {X : Cx} {e : Expr} {es : List Expr} {te : TE} {t : TA} {pos : Pos}
theorem pa_nil : PA X [] tNil := fun _ _ _ _ H Q I h => Calls.spliced_nil ⟨[], H, I, .nil, h⟩
theorem pa_cons (ha : PE X e te) (hr : PA X es t) (hs : starEach (e :: es) X.env = (false, eval e X.env) :: starEach es X.env := by rfl) : PA X (e :: es) (tCons te t) := by
  intro pos pins s σ H Q I h
  rw [hs]
  show wpAny _ _ (spliced ((false, eval e X.env) :: backTo pos (starEach es X.env))) _ _ s
  refine Calls.spliced_cons (thn (ha pins s σ H _ I h) fun u s1 ⟨x, H1, I1, r1, q1⟩ => ?_)
  exact thn (hr pos pins s1 σ H1 _ I1 q1) fun us s2 ⟨xs, H2, I2, r2, q2⟩ => ⟨x :: xs, H2, I2, .cons r1 r2, q2⟩

/-- a tuple, a list of written items -/
def tTup (t : TA) : TE := fun σ H Q => t σ H fun xs H1 => xs.length ≤ sizeLine ∧ ∀ p, H1 p = none → Q (.ref p) (upd H1 p (.tup xs))
def tLst (t : TA) : TE := fun σ H Q => t σ H fun xs H1 => xs.length ≤ sizeLine ∧ ∀ p, H1 p = none → Q (.ref p) (upd H1 p (.lst xs))
end

/-! ### what a def promises -/
/-- a def's promise: the bound arguments in the parameters' order, the heap, the wanted end, the wanted exception -/
abbrev Sp := List V → Hp → VK → XK → Prop
/-- how an exception lies behind a call (file 08 gives it): the callers' frames, abstract heap and state ahead of the call, the wish, the exception, the state -/
abbrev CXT := List Env → Hp → Shared → XK → Value → Shared → Prop

/-- the state at a call -/
structure Env0 (P : Program) (w : World) (K : PySem.W.Frag) (mg : Str → Option Value) (base : Heap) (A : Around) (outer : List Env) (s : Shared) (H : Hp) : Prop where
  frames : A.frames = some outer
  mod : Mod K mg base
  bs : ∀ b o, base.get? b = some o → s.heap.get? b = some o ∧ H b = none
  bsz : base.objs.size ≤ s.heap.objs.size
  funs : s.heap.FunFrames base outer
  frf : ∀ b ∈ frs outer, H b = none
  hok : HOk P w H s.heap
  bare : AllBare s.gens
/-- a call's end -/
def CE (outer : List Env) (P : Program) (w : World) (H : Hp) (s : Shared) (Q : VK) (u : Value) (s' : Shared) : Prop :=
  ∃ v H', s'.os = s.os ∧ AllBare s'.gens ∧ Un (frs outer) [] H H' s.heap s'.heap ∧ HOk P w H' s'.heap ∧ RelV v u ∧ Q v H'
def CR (CX : CXT) (outer : List Env) (P : Program) (w : World) (H : Hp) (s : Shared) (Q : VK) (E : XK) (r : Result) (s' : Shared) : Prop :=
  match r with
  | .ok (.ret u) => CE outer P w H s Q u s'
  | .ok _ => False
  | .error e => CX outer H s E e s'
structure FnOk (P : Program) (w : World) (K : PySem.W.Frag) (mg : Str → Option Value) (base : Heap) (CX : CXT) (k : Nat) (f : Addr) (fd : FuncData) (ps : List Str) (sp : Sp) : Prop where
  len : ∀ vs H Q E, sp vs H Q E → vs.length = ps.length
  run : ∀ (A : Around) (outer : List Env) (s : Shared) (H : Hp) (args : Args) (us : List Value) (vs : List V) (Q : VK) (E : XK), Room k A → Env0 P w K mg base A outer s H → BindsTo s fd args (ps.zip us) → Vals vs us → sp vs H Q E →
    codeAny (model P w) A (.call (.ref f) args) (CR CX outer P w H s Q E) s
theorem FnOk.mono {P : Program} {w : World} {K : PySem.W.Frag} {mg : Str → Option Value} {base : Heap} {CX : CXT} {j k : Nat} {f : Addr} {fd : FuncData} {ps : List Str} {sp : Sp} (F : FnOk P w K mg base CX j f fd ps sp) (h : j ≤ k) :
    FnOk P w K mg base CX k f fd ps sp := ⟨F.len, fun A outer s H args us vs Q E hr => F.run A outer s H args us vs Q E (hr.mono h)⟩
/-- a weaker promise -/
theorem FnOk.imp {P : Program} {w : World} {K : PySem.W.Frag} {mg : Str → Option Value} {base : Heap} {CX : CXT} {k : Nat} {f : Addr} {fd : FuncData} {ps : List Str} {sp sp' : Sp} (F : FnOk P w K mg base CX k f fd ps sp)
    (h : ∀ vs H Q E, sp' vs H Q E → sp vs H Q E) : FnOk P w K mg base CX k f fd ps sp' :=
  ⟨fun vs H Q E q => F.len vs H Q E (h _ _ _ _ q), fun A outer s H args us vs Q E hr he hb hv hs => F.run A outer s H args us vs Q E hr he hb hv (h _ _ _ _ hs)⟩

theorem Env0.make {P : Program} {w : World} {K : PySem.W.Frag} {mg : Str → Option Value} {base : Heap} {A : Around} {outer : List Env} {s : Shared} {H : Hp} (e : Env0 P w K mg base A outer s H) (C : Addr) (us : List Value) (kw : List (Str × Value)) :
    Env0 P w K mg base (A.under (.builtin "type.__call__" ⟨.ref C :: us, kw⟩)) outer s H := ⟨by first | exact e.frames | (simpa [Around.under, Code.envs, Code.isFrame, pushEnvs] using e.frames), e.mod, e.bs, e.bsz, e.funs, e.frf, e.hok, e.bare⟩
theorem Env0.in1 {P : Program} {w : World} {K : PySem.W.Frag} {mg : Str → Option Value} {base : Heap} {A : Around} {outer : List Env} {s : Shared} {H : Hp} (e : Env0 P w K mg base A outer s H) :
    Env0 P w K mg base A.in1 outer s H := ⟨e.frames, e.mod, e.bs, e.bsz, e.funs, e.frf, e.hok, e.bare⟩

section
variable {X : Cx} {pins : List (Addr × Obj)} {σ : St} {H : Hp} {s s' : Shared}
/-- from a body: what a callee wants -/
theorem Inv.env0 (I : Inv X pins σ H s) : Env0 X.prog X.w X.K X.mg X.base X.A X.stack s H :=
  ⟨I.ok.frames, I.ok.mod, I.bs, Nat.le_trans I.ok.bsz I.sz, I.stack, I.stkFree, I.hok, I.bare⟩
/-- behind a call -/
theorem Inv.after {Q : VK} {u : Value} (I : Inv X pins σ H s) (h : CE X.stack X.prog X.w H s Q u s') : EP X pins σ Q u s' := by
  obtain ⟨v, H', os, bare, un, hok, r, q⟩ := h
  obtain ⟨hh, g, d, t, os'⟩ := s'
  obtain rfl : os' = s.os := os
  exact ⟨v, H', I.call (h' := hh) (g' := g) (d' := d) (t' := t) (ch := []) un hok bare (fun b z => absurd z (by simp)), r, q⟩
end

/-! ### calls -/
/-- f(..): the written arguments, then the defaults dvs; E: what is wanted of an exception -/
def tCall (sp : Sp) (dvs : List V) (E : XK) (t : TA) : TE := fun σ H Q => t σ H fun vs H1 => sp (vs ++ dvs) H1 Q E
/-- how the parameters are bound: us the positional arguments, kw the keywords' values by name, ds the defaults that fill up -/
def Binds (K : PySem.W.Frag) (fd : FuncData) (ps : List Str) (ds : List Value) : Prop :=
  ∀ (s : Shared) (us : List Value), K.In s.heap → (us ++ ds).length = ps.length → BindsTo s fd ⟨us, []⟩ (ps.zip (us ++ ds))
/-- every parameter is given -/
theorem Binds.all {K : PySem.W.Frag} {fd : FuncData} {ps : List Str} (h : ∀ us : List Value, us.length = ps.length → bindArgs fd ⟨us, []⟩ = pure (ps.zip us)) : Binds K fd ps [] := fun s us _ hl => by
  rw [List.append_nil] at hl ⊢
  exact .of_eq (h us hl)

/-- an exception of a callee reaches what this body wants of exceptions -/
def Passes (CX : CXT) (X : Cx) (E : XK) : Prop := ∀ (pins : List (Addr × Obj)) (σ : St) (H : Hp) (s : Shared) (e : Value) (s' : Shared), Inv X pins σ H s → CX X.stack H s E e s' → X.xe e s'

section
variable {X : Cx} {CX : CXT} {k : Nat} {f C : Addr} {fd : FuncData} {ps : List Str} {sp : Sp} {dvs : List V} {ds : List Value} {E : XK} {x m : Str} {p pos apos : Pos} {e o : Expr} {es : List Expr} {ta : TE} {t : TA}

/-- the callee runs -/
theorem run_fn {pins : List (Addr × Obj)} {σ : St} {H : Hp} {s : Shared} {Q : VK} {us : List Value} {vs : List V} (F : FnOk X.prog X.w X.K X.mg X.base CX k f fd ps sp) (hr : Room k X.A) (hb : Binds X.K fd ps ds) (hd : Vals dvs ds) (hx : Passes CX X E)
    (I : Inv X pins σ H s) (r : Vals vs us) (h : sp (vs ++ dvs) H Q E) : wpAny (model X.prog X.w) X.A (call (.ref f) us) (EP X pins σ Q) X.xe s := by
  have r2 : Vals (vs ++ dvs) (us ++ ds) := r.append hd
  have hl : (us ++ ds).length = ps.length := by rw [← r2.length]; exact F.len _ _ _ _ h
  refine wpAny_call (codeAny_mono (F.run X.A X.stack s H ⟨us, []⟩ (us ++ ds) (vs ++ dvs) Q E hr I.env0 (hb s us I.kIn hl) r2 h) fun r s' hq => ?_)
  cases r with
  | error e => exact hx pins σ H s e s' I hq
  | ok fl =>
    cases fl with
    | ret u => exact I.after hq
    | next => exact False.elim hq
    | brk => exact False.elim hq
    | cont => exact False.elim hq

theorem pe_call (F : FnOk X.prog X.w X.K X.mg X.base CX k f fd ps sp) (hr : Room k X.A) (hg : Gl X x) (hm : X.mg x = some (.ref f)) (hk : PySem.W.keepIn X.K (.ref f) = true) (hb : Binds X.K fd ps ds) (hd : Vals dvs ds) (hx : Passes CX X E)
    (ha : PA X (e :: es) t) (hdb : (x == ("__debug__" : Str)) = false := by decide) (he : starEach (e :: es) X.env = (false, eval e X.env) :: starEach es X.env := by rfl) (hpl : (backTo pos (starEach es X.env)).any (·.1) = false := by rfl) :
    PE X (.Call (.Name x p) (e :: es) [] pos) (tCall sp dvs E t) := by
  intro pins s σ H Q I h
  refine wpAny_Call_Name_kw (ld_glob I hg hm ?_ hdb)
  refine PySem.W.callWith_K (h₀ := X.base) I.ok.mod.kin hk (thn (ha pos pins s σ H _ I h) fun us s1 ⟨vs, H1, I1, r, q⟩ => ⟨I1.kIn, ?_⟩) he hpl
  exact run_fn F hr hb hd hx I1 r q
/-- what a class must have to be made -/
structure Mk (K : PySem.W.Frag) (C f : Addr) : Prop where
  makes : PySem.W.makesIn K C = true
  init : PySem.W.findIn K (.ref C) "__init__" = some (some (.ref f))
  fn : PySem.W.isFn K (.ref f) = true
  kp : PySem.W.keepIn K (.ref C) = true

end

/-! ### keywords -/
section
variable {X : Cx} {CX : CXT} {k : Nat} {f C : Addr} {fd : FuncData} {ps ks : List Str} {sp : Sp} {E : XK} {x m : Str} {p pos apos kpos : Pos} {e o : Expr} {es : List Expr} {kws : List Keyword} {te ta : TE} {t tk : TA} {nm : Option Str}
/-- how a call with keywords binds: g puts the positional values us and the keywords' values ws (names ks) in the parameters' order, defaults among them -/
structure KBinds (K : PySem.W.Frag) (fd : FuncData) (ps ks : List Str) (g : List Value → List Value → List Value) (gV : List V → List V → List V) : Prop where
  to : ∀ (s : Shared) (us ws : List Value), K.In s.heap → (g us ws).length = ps.length → BindsTo s fd ⟨us, ks.zip ws⟩ (ps.zip (g us ws))
  rel : ∀ {vs : List V} {us : List Value} {zs : List V} {ws : List Value}, Vals vs us → Vals zs ws → Vals (gV vs zs) (g us ws)
variable {g : List Value → List Value → List Value} {gV : List V → List V → List V}
end

/-! ### a def's body keeps its promise -/
/-- names: the parameters first -/
structure FnScope (N P : List Str) (sc : Scope) : Prop where
  kind : sc.kind = .function
  co : sc.isCoroutine = false
  gen : sc.isGenerator = false
  nd : N.Nodup
  pre : N.take P.length = P
  par : ∀ x ∈ P, sc.names.lookup x = some .local ∨ sc.names.lookup x = some .cell
  nofree : ∀ y ∈ sc.names, y.2 ≠ .free

theorem bindL_out {kindOf : Str → Option NameKind} {x : Str} : ∀ {binds : List (Str × Value)} {m : Str → Option Value}, (∀ v, (x, v) ∉ binds) → bindL kindOf binds m x = m x
  | [], _, _ => rfl
  | (n, v) :: r, m, h => by
    unfold bindL
    rw [bindL_out fun w hw => h w (List.mem_cons_of_mem _ hw)]
    split
    · have : x ≠ n := by rintro rfl; exact h v List.mem_cons_self
      simp [this]
    · rfl
theorem bindC_out {kindOf : Str → Option NameKind} {x : Str} : ∀ {binds : List (Str × Value)} {m : Str → Option Value}, (∀ v, (x, v) ∉ binds) → bindC kindOf binds m x = m x
  | [], _, _ => rfl
  | (n, v) :: r, m, h => by
    unfold bindC
    rw [bindC_out fun w hw => h w (List.mem_cons_of_mem _ hw)]
    split
    · rfl
    · have : x ≠ n := by rintro rfl; exact h v List.mem_cons_self
      simp [this]
theorem bindL_get {kindOf : Str → Option NameKind} {x : Str} {v : Value} : ∀ {P : List Str} {vs : List Value} {i : Nat} {m : Str → Option Value}, P.Nodup → P[i]? = some x → vs[i]? = some v → kindOf x = some .local →
    bindL kindOf (P.zip vs) m x = some v
  | [], _, _, _, _, h, _, _ => by simp at h
  | _ :: _, [], _, _, _, _, h, _ => by simp at h
  | p :: P, w :: vs, 0, m, nd, h1, h2, hk => by
    simp at h1 h2; subst h1; subst h2
    show bindL kindOf ((p, w) :: P.zip vs) m p = _
    unfold bindL
    rw [bindL_out fun v hv => (List.nodup_cons.mp nd).1 (List.of_mem_zip hv).1, if_pos hk]
    simp
  | p :: P, w :: vs, i + 1, m, nd, h1, h2, hk => by
    show bindL kindOf ((p, w) :: P.zip vs) m x = _
    unfold bindL
    exact bindL_get (i := i) (List.nodup_cons.mp nd).2 (by simpa using h1) (by simpa using h2) hk
theorem bindC_get {kindOf : Str → Option NameKind} {x : Str} {v : Value} : ∀ {P : List Str} {vs : List Value} {i : Nat} {m : Str → Option Value}, P.Nodup → P[i]? = some x → vs[i]? = some v → kindOf x ≠ some .local →
    bindC kindOf (P.zip vs) m x = some v
  | [], _, _, _, _, h, _, _ => by simp at h
  | _ :: _, [], _, _, _, _, h, _ => by simp at h
  | p :: P, w :: vs, 0, m, nd, h1, h2, hk => by
    simp at h1 h2; subst h1; subst h2
    show bindC kindOf ((p, w) :: P.zip vs) m p = _
    unfold bindC
    rw [bindC_out fun v hv => (List.nodup_cons.mp nd).1 (List.of_mem_zip hv).1, if_neg hk]
    simp
  | p :: P, w :: vs, i + 1, m, nd, h1, h2, hk => by
    show bindC kindOf ((p, w) :: P.zip vs) m x = _
    unfold bindC
    exact bindC_get (i := i) (List.nodup_cons.mp nd).2 (by simpa using h1) (by simpa using h2) hk

/-- the names' values at the entry -/
def start (N : List Str) (vs : List V) : St := vs.map some ++ List.replicate (N.length - vs.length) none

/-- the context of a def's body, at its entry; an exception leaves the frame, then lies as CX says -/
def cxOf (CX : CXT) (P : Program) (w : World) (K : PySem.W.Frag) (mg : Str → Option Value) (base : Heap) (N : List Str) (qual : Str) (scope : Scope) (f : Addr) (cd : Value) (A : Around) (outer : List Env) (s : Shared) (H : Hp) (E : XK) : Cx where
  prog := P
  w := w
  K := K
  mg := mg
  base := base
  A := A.deeper (envOfC qual scope s.heap.objs.size f cd)
  N := N
  s₀ := s
  H₀ := H
  env := envOfC qual scope s.heap.objs.size f cd
  outer := outer
  stack := envOfC qual scope s.heap.objs.size f cd :: outer
  ex := []
  calm := true
  fn := fun _ => true
  pn := []
  xe := fun e s' => wpAny (model P w) (A.deeper (envOfC qual scope s.heap.objs.size f cd)) (leaving (envOfC qual scope s.heap.objs.size f cd) e) (fun _ s'' => CX outer H s E e s'') (fun e' s'' => CX outer H s E e' s'') s'

theorem cell_has {sc : Scope} {n : Nat} {x : Str} (h : sc.names.lookup x = some .cell) : ∃ c, (cellsFrom n sc.names []).lookup x = some c := by
  have q := PySem.W.cellsFrom_some sc.names n [] (.inl h)
  exact Option.isSome_iff_exists.mp q

theorem inv_start {CX : CXT} {P : Program} {w : World} {K : PySem.W.Frag} {mg : Str → Option Value} {base : Heap} {N ps : List Str} {qual : Str} {scope : Scope} {f : Addr} {cd : Value} {A : Around} {outer : List Env} {s s1 : Shared} {H : Hp} {E : XK} {us : List Value} {vs : List V}
    (S : FnScope N ps scope) (hd : A.handled = none) (e0 : Env0 P w K mg base A outer s H) (hl : vs.length = ps.length) (r : Vals vs us)
    (x : InCallC s s.heap.objs.size (bindL (envOfC qual scope s.heap.objs.size f cd).kindOf (ps.zip us) fun _ => none) (cellsFrom (s.heap.objs.size + 1) scope.names []) (bindC (envOfC qual scope s.heap.objs.size f cd).kindOf (ps.zip us) fun _ => none) s1) :
    Inv (cxOf CX P w K mg base N qual scope f cd A outer s H E) [] (start N vs) H s1 := by
  have hpl : ps.length ≤ N.length := by have := congrArg List.length S.pre; rw [List.length_take] at this; omega
  obtain ⟨h1, tk, rfl, hk⟩ := x.done
  have noA : ∀ b : Addr, b ∉ (cxOf CX P w K mg base N qual scope f cd A outer s H E).ex := fun b z => absurd (show b ∈ ([] : List Addr) from z) (by simp)
  refine ⟨⟨e0.mod, S.kind, rfl, rfl, Nat.le_refl _, fun y z c h1 h2 => ?_, fun y hy => ?_, fun y c _ h => ?_, fun _ => hd, Around.frames_deeper e0.frames, .inr ⟨rfl, rfl⟩, fun b z => absurd z (noA b), e0.bs, e0.bsz, fun b _ _ => noA b, fun b z => absurd z (noA b), e0.funs, e0.frf⟩,
    rfl, e0.bare, Un.kept hk, ⟨_, x.toInCall.ns, fun i y v h1 h2 h3 => ?_⟩, fun y c h => ⟨_, x.cell y c h⟩, e0.hok.fresh (Nat.le_refl _), fun y c h => ?_, fun p hp => absurd (show p ∈ ([] : List (Addr × Obj)) from hp) (by simp), e0.hok.kept hk, ?_⟩
  · exact name_of_addr x.apart (PySem.mem_of_lookup h1) (PySem.mem_of_lookup h2)
  · have hy : scope.names.lookup y = some .cell ∨ scope.names.lookup y = some .free := hy
    rcases hy with hy | hy
    · exact cell_has hy
    · exact absurd rfl (S.nofree _ (PySem.mem_of_lookup hy))
  · exact Nat.le_of_lt (x.above y c (PySem.mem_of_lookup h))
  · have hi : i < vs.length := by
      unfold start at h2
      by_cases hi : i < vs.length
      · exact hi
      · rw [List.getElem?_append_right (by simpa using hi)] at h2
        rw [List.getElem?_replicate] at h2
        split at h2 <;> cases h2
    have ha : vs[i]? = some v := by
      unfold start at h2
      rw [List.getElem?_append_left (by simpa using hi), List.getElem?_map] at h2
      cases e : vs[i]? with
      | none => rw [e] at h2; cases h2
      | some a => rw [e] at h2; cases h2; rfl
    obtain ⟨u, hu, rv⟩ := r.get ha
    have hp : ps[i]? = some y := by
      rw [← S.pre, List.getElem?_take_of_lt (by omega)]; exact h1
    have ndP : ps.Nodup := by rw [← S.pre]; exact S.nd.sublist (List.take_sublist _ _)
    refine ⟨u, rv, ?_⟩
    rcases S.par y (List.mem_of_getElem? hp) with k | k
    · exact .inl ⟨k, bindL_get ndP hp hu k⟩
    · obtain ⟨c, e⟩ := cell_has (n := s.heap.objs.size + 1) k
      refine .inr ⟨.inl k, c, e, ?_⟩
      have q := x.cell y c e
      rw [bindC_get ndP hp hu (by show scope.names.lookup y ≠ _; rw [k]; decide)] at q
      exact q
  · exact e0.hok.fresh (Nat.le_of_lt (x.above y c (PySem.mem_of_lookup h)))
  · unfold start
    show _ = N.length
    rw [List.length_append, List.length_map, List.length_replicate]
    omega

/-- THE RULE: a def (or a method) of the text, by its body. The body's reading t is chosen for each entry; it is run at the parameters' values -/
theorem fn_of {CX : CXT} {P : Program} {w : World} {K : PySem.W.Frag} {mg : Str → Option Value} {base : Heap} {k : Nat} {f : Addr} {name qual : Str} {params : Arguments} {body : List Stmt} {scope : Scope} {dV kV doc pm cdv ct oc : Value} {an od : Option Addr}
    {osl : Array (Option Value)} {N ps : List Str} {sp : Sp} (lk : K.lookup f = some ⟨oc, od, .func (PySem.W.fnOf name qual params body scope dV kV doc pm an cdv ct), osl⟩) (hcd : PySem.W.codeIn K cdv qual = true) (S : FnScope N ps scope)
    (len : ∀ vs H Q E, sp vs H Q E → vs.length = ps.length)
    (hbody : ∀ (A : Around) (outer : List Env) (s : Shared) (H : Hp) (vs : List V) (Q : VK) (E : XK), Room k (A.deeper (envOfC qual scope s.heap.objs.size f cdv)) → sp vs H Q E →
      ∃ t, PSs (cxOf CX P w K mg base N qual scope f cdv A outer s H E) body t ∧ t { nx := fun _ H' => Q .non H', rt := Q } (start N vs) H) :
    FnOk P w K mg base CX (k + 1) f (PySem.W.fnOf name qual params body scope dV kV doc pm an cdv ct) ps sp := by
  refine ⟨len, fun A outer s H args us vs Q E hr e0 hb r hsp => ?_⟩
  have hl := len _ _ _ _ hsp
  have KX : K.In s.heap := e0.mod.kin.keeps fun b o e => (e0.bs b o e).1
  have lim : s.heap.NoLimit := e0.mod.nolimit.keeps fun b o e => (e0.bs b o e).1
  have hkind : ∀ y ∈ ps.zip us, scope.names.lookup y.1 = some .local ∨ (scope.names.lookup y.1 = some .cell ∧ ((cellsFrom (s.heap.objs.size + 1) scope.names []).lookup y.1).isSome = true) := fun ⟨n, v⟩ hy => by
    rcases S.par n (List.of_mem_zip hy).1 with q | q
    · exact .inl q
    · exact .inr ⟨q, PySem.W.cellsFrom_some _ _ _ (.inl q)⟩
  refine codeAny_call_function hr.depth (KX _ _ lk) rfl S.co S.gen rfl (PySem.W.codeRec_of KX hcd) (hb _ _ _ _ ?_)
  refine wpAny_newFunctionEnv_cells S.kind hkind fun env he s1 x => ?_
  subst he
  refine ⟨lim.keeps x.toInCall.keep, codeAny_func ?_⟩
  obtain ⟨t, ht, hq⟩ := hbody A outer s H vs Q E (hr.deeper _) hsp
  have I : Inv (cxOf CX P w K mg base N qual scope f cdv A outer s H E) [] (start N vs) H s1 := inv_start S hr.hd e0 hl r x
  refine wpAny_mono (ht [] s1 (start N vs) H _ I hq) (fun fl s' hs => ?_) fun e s' hs => hs
  have fin : ∀ {σ' : St} {H' : Hp} {v : V} {u : Value}, Inv (cxOf CX P w K mg base N qual scope f cdv A outer s H E) [] σ' H' s' → RelV v u → Q v H' → CE outer P w H s Q u s' :=
    fun {σ' H' v u} J rv q => ⟨v, H', J.os, J.bare, J.base, J.hok, rv, q⟩
  cases fl with
  | ret u =>
    obtain ⟨v, σ', H', J, rv, q⟩ := hs
    exact fin J rv q
  | next =>
    obtain ⟨σ', H', J, q⟩ := hs
    exact fin (v := V.non) (u := Value.none) J rfl q
  | brk =>
    obtain ⟨_, _, _, q⟩ := hs
    exact False.elim q
  | cont =>
    obtain ⟨_, _, _, q⟩ := hs
    exact False.elim q
end L2

namespace L2
open PySem PySem.Spec PyProof.Rows
section
variable {X : Cx} {x : Str} {p pos : Pos} {e : Expr} {es : List Expr} {t : TA} {id T : String} {r : List V → Hp → VK → Prop}

def tCB (r : List V → Hp → VK → Prop) (t : TA) : TE := fun σ H Q => t σ H fun vs H1 => r vs H1 Q
/-- f(e, ..), f a built-in function -/
theorem pe_callB (hc : CallR X (.builtin id) r) (hg : Gl X x) (hm : X.mg x = none) (hv : bootBuiltins x = some (.builtin id)) (ha : PA X (e :: es) t) (hn : x ≠ "__name__" := by decide) (hdb : (x == ("__debug__" : Str)) = false := by decide)
    (he : starEach (e :: es) X.env = (false, eval e X.env) :: starEach es X.env := by rfl) (hpl : (backTo pos (starEach es X.env)).any (·.1) = false := by rfl) : PE X (.Call (.Name x p) (e :: es) [] pos) (tCB r t) := by
  intro pins s σ H Q I h
  refine wpAny_Call_Name_kw (ld_blt I hg hm hv ?_ hn hdb)
  exact PyProof.Rows.callWith_builtin1 (thn (ha pos pins s σ H _ I h) fun us s1 ⟨vs, H1, I1, r1, q1⟩ => hc pins s1 σ H1 vs us Q I1 r1 q1) he hpl
/-- T(e, ..), T a built-in type -/
theorem pe_callTy (hc : CallR X (.type T) r) (hg : Gl X x) (hm : X.mg x = none) (hv : bootBuiltins x = some (.type T)) (ha : PA X (e :: es) t) (hn : x ≠ "__name__" := by decide) (hdb : (x == ("__debug__" : Str)) = false := by decide)
    (he : starEach (e :: es) X.env = (false, eval e X.env) :: starEach es X.env := by rfl) (hpl : (backTo pos (starEach es X.env)).any (·.1) = false := by rfl) : PE X (.Call (.Name x p) (e :: es) [] pos) (tCB r t) := by
  intro pins s σ H Q I h
  refine wpAny_Call_Name_kw (ld_blt I hg hm hv ?_ hn hdb)
  exact PyProof.Rows.callWith_type1 (thn (ha pos pins s σ H _ I h) fun us s1 ⟨vs, H1, I1, r1, q1⟩ => hc pins s1 σ H1 vs us Q I1 r1 q1) he hpl
end
end L2

namespace HT
open PySem PyProof.Rows

section
open PySem.SeqAt
open PySem.AutoSeq1 (wpAny_loadPart')
open PySem.MeetsSeq PySem.MeetsSeq2 PySem.MeetsSeq3

end

section
variable {prog : Program} {w : World} {A : Around} {E : Value → Shared → Prop} {s : Shared}

/-- t + u, t not empty -/
theorem cat_tup {t b : Addr} {vs ws : List Value} {Q : Value → Shared → Prop} (ht : IsTup s.heap t vs.toArray) (hb : IsTup s.heap b ws.toArray) (hv : vs ≠ [])
    (h1 : ws = [] → Q (.ref t) s) (h2 : ws ≠ [] → Q (.ref s.heap.objs.size) { s with heap := s.heap.push { cls := .type "tuple", data := .seq (vs ++ ws).toArray } })
    (hsz : vs.length + ws.length ≤ sizeLine) : wpAny (model prog w) A (binaryOp .Add (.ref t) (.ref b)) Q E s := by
  obtain ⟨⟨cls, dd, data, sl⟩, ho, hc, n, hd⟩ := id ht
  obtain ⟨⟨cls2, dd2, data2, sl2⟩, ho2, hc2, n2, hd2⟩ := id hb
  simp only at hc hd hc2 hd2
  subst hc hd hc2 hd2
  have e : vs.toArray ++ ws.toArray = (vs ++ ws).toArray := by simp
  by_cases hw : ws = []
  · exact concat_meets ⟨_, ho, rfl⟩ ⟨_, ho2, rfl⟩ noFill_tuple_add seq_tuple_add PySem.F.slot_tuple_add PySem.F.entry_tuple_add (PySem.F.args_tuple_add_2 _ _)
      (tuple_addW1 t b vs.toArray ws.toArray n n2 dd dd2 sl sl2 (by simpa using hv) (by simp [hw])) ⟨ho, ho2, h1 hw⟩
  · refine concat_meets ⟨_, ho, rfl⟩ ⟨_, ho2, rfl⟩ noFill_tuple_add seq_tuple_add PySem.F.slot_tuple_add PySem.F.entry_tuple_add (PySem.F.args_tuple_add_2 _ _)
      (tuple_addW2 t b vs.toArray ws.toArray n n2 dd dd2 sl sl2 (by simpa using hv) (by simpa using hw) (by rw [List.size_toArray, List.size_toArray]; exact hsz)) ⟨ho, ho2, ?_⟩
    rw [e]
    exact h2 hw

/-! ### t[a:b], not the whole -/
/-- a slice's bound as a place among n (d where it is left out) -/
def sIx (n d : Nat) : Option Int → Nat
  | none => d
  | some v => if v < 0 then (v + (n : Int)).toNat else min v.toNat n
end
end HT

namespace L2
open PySem PySem.Spec PyProof.Rows

/-! ### the parts of a slice -/
abbrev TO := St → Hp → (Option Int → Hp → Prop) → Prop
/-- a slice's part (left out, or an int) -/
def PO (X : Cx) (e : Option Expr) (t : TO) : Prop :=
  ∀ (pins : List (Addr × Obj)) (s : Shared) (σ : St) (H : Hp) (Q : Option Int → Hp → Prop), Inv X pins σ H s → t σ H Q →
    wpAny (model X.prog X.w) X.A (evalPart e X.env) (fun u s' => ∃ o H', Inv X pins σ H' s' ∧ IsPart u o ∧ Q o H') X.xe s
def tNoPart : TO := fun _ H Q => Q none H
def tPart (t : TE) : TO := fun σ H Q => t σ H fun x H1 => ∃ i, x = .int i ∧ Q (some i) H1

theorem intsAre_of {ns : List Int} : ∀ {us : List Value}, Vals (ns.map V.int) us → IntsAre us ns := by
  induction ns with
  | nil => intro us r; rw [List.map_nil] at r; cases r; exact .nil
  | cons n ns ih =>
    intro us r
    rw [List.map_cons] at r
    cases r with
    | cons r1 r2 =>
      obtain ⟨t, e⟩ := r1
      subst e
      exact .cons n t (ih r2)

section
variable {X : Cx} {e : Expr} {te : TE} {lo hi : Option Expr} {tl th : TO} {pos p2 : Pos}

theorem po_none : PO X none tNoPart := by
  intro pins s σ H Q I h
  rw [evalPart_none]
  exact wpAny_pure ⟨none, H, I, .none, h⟩
theorem po_some (h : PE X e te) : PO X (some e) (tPart te) := by
  intro pins s σ H Q I hw
  rw [evalPart_some]
  refine thn (h pins s σ H _ I hw) fun u s1 ⟨x, H1, I1, r1, q1⟩ => ?_
  obtain ⟨i, rfl, q⟩ := q1
  obtain ⟨t, rfl⟩ := r1
  exact ⟨some i, H1, I1, .int i t, q⟩

/-- what a slice of a value is, by values: the slice object stands at sl -/
def SlR (X : Cx) (r : V → Option Int → Option Int → Hp → VK → Prop) : Prop :=
  ∀ (pins : List (Addr × Obj)) (s : Shared) (σ : St) (H : Hp) (x : V) (v vl vu : Value) (lo hi : Option Int) (sl : Addr) (Q : VK), Inv X pins σ H s → RelV x v → s.heap.IsSliceOf sl vl vu .none → IsPart vl lo → IsPart vu hi → r x lo hi H Q →
    ∃ T id, typeLookup (.type T) "__getitem__" = pure (some (.builtin id)) ∧ s.TypeIs v T ∧ wpAny (model X.prog X.w) X.A (getItem v (.ref sl)) (EP X pins σ Q) X.xe s
theorem SlR.or {r r' : V → Option Int → Option Int → Hp → VK → Prop} (h : SlR X r) (h' : SlR X r') : SlR X (fun x lo hi H Q => r x lo hi H Q ∨ r' x lo hi H Q) := by
  intro pins s σ H x v vl vu lo hi sl Q I rx hs pl pu q
  rcases q with q | q
  · exact h pins s σ H x v vl vu lo hi sl Q I rx hs pl pu q
  · exact h' pins s σ H x v vl vu lo hi sl Q I rx hs pl pu q
def tSl (r : V → Option Int → Option Int → Hp → VK → Prop) (te : TE) (tl th : TO) : TE := fun σ H Q => te σ H fun x H1 => tl σ H1 fun l H2 => th σ H2 fun u H3 => r x l u H3 Q
/-- a[lo:hi], any a -/
theorem pe_slice {r : V → Option Int → Option Int → Hp → VK → Prop} (hr : SlR X r) (he : PE X e te) (hl : PO X lo tl) (hu : PO X hi th) : PE X (.Subscript e (.Slice lo hi none p2) pos) (tSl r te tl th) := by
  intro pins s σ H Q I h
  refine Subscript_ (thn (he pins s σ H _ I h) fun v s1 ⟨x, H1, I1, r1, q1⟩ => ?_)
  refine wpAny_Slice (thn (hl pins s1 σ H1 _ I1 q1) fun vl s2 ⟨l, H2, I2, pl, q2⟩ => thn (hu pins s2 σ H2 _ I2 q2) fun vu s3 ⟨u, H3, I3, pu, q3⟩ => ?_)
  rw [evalPart_none]
  refine wpAny_pure ?_
  have I4 : Inv X pins σ H3 { s3 with heap := s3.heap.push { cls := .type "slice", data := .fields #[vl, vu, .none] } } := I3.kept (t' := s3.toks) fun b ob q => Heap.get?_push_of_some _ q
  obtain ⟨T, id, hT, ht, hg⟩ := hr pins { s3 with heap := s3.heap.push { cls := .type "slice", data := .fields #[vl, vu, .none] } } σ H3 x v vl vu l u s3.heap.objs.size Q I4 r1 (Heap.IsSliceOf.new ..) pl pu q3
  show wpAny (model X.prog X.w) X.A (subscriptTail e (.Slice lo hi none p2) v (.ref s3.heap.objs.size)) (EP X pins σ Q) X.xe { s3 with heap := s3.heap.push { cls := .type "slice", data := .fields #[vl, vu, .none] } }
  exact tail_any (ops := [.ref s3.heap.objs.size, v]) ht hT hg (by with_unfolding_all rfl)

/-- the items of xs[lo:hi] -/
def cutV (xs : List V) (lo hi : Option Int) : List V := (xs.drop (HT.sIx xs.length 0 lo)).take (HT.sIx xs.length xs.length hi - HT.sIx xs.length 0 lo)
theorem cutV_length (xs : List V) (lo hi : Option Int) : (cutV xs lo hi).length ≤ xs.length := by
  unfold cutV
  rw [List.length_take, List.length_drop]
  omega
/-- t[lo:hi], not the whole of it (the whole would be t itself) -/
def rSlT (K : PySem.W.Frag) : V → Option Int → Option Int → Hp → VK → Prop := fun x lo hi H Q => ∃ a xs, x = .ref a ∧ SqT K H a xs ∧
  ¬ (HT.sIx xs.length 0 lo = 0 ∧ HT.sIx xs.length xs.length hi = xs.length) ∧ ∀ p, H p = none → Q (.ref p) (upd H p (.tup (cutV xs lo hi)))
/-! ### t < u, t + u -/
/-- t + u, t not empty: u empty gives t itself -/
def rCatT (K : PySem.W.Frag) : R2 := fun x y H Q => ∃ a b xs ys, x = .ref a ∧ y = .ref b ∧ SqT K H a xs ∧ SqT K H b ys ∧ xs ≠ [] ∧ xs.length + ys.length ≤ sizeLine ∧
  (ys = [] → Q (.ref a) H) ∧ (ys ≠ [] → ∀ p, H p = none → Q (.ref p) (upd H p (.tup (xs ++ ys))))
theorem Vals.nil_iff {xs : List V} {us : List Value} (r : Vals xs us) : us = [] ↔ xs = [] := by
  cases r with
  | nil => simp
  | cons _ _ => simp
theorem op_catT : OpR X (binaryOp .Add) (rCatT X.K) := by
  intro pins s σ H x y v u Q I rx ry h
  obtain ⟨a, b, xs, ys, rfl, rfl, ha, hb, hx, hz, q1, q2⟩ := h
  cases rx
  cases ry
  obtain ⟨its, r1, p1, _⟩ := I.tuple ha
  obtain ⟨its2, r2, p2, _⟩ := I.tuple hb
  refine HT.cat_tup p1 p2 (fun z => hx (r1.nil_iff.mp z)) (fun z => ⟨.ref a, H, I, rfl, q1 (r2.nil_iff.mp z)⟩) (fun z => ?_) (by rw [← r1.length, ← r2.length]; exact hz)
  refine ⟨.ref s.heap.objs.size, _, I.laid (t' := s.toks) (o := .tup (xs ++ ys)) (fun b ob q => Heap.get?_push_of_some _ q) (Nat.le_refl _) ?_, rfl, q2 (fun w => z (r2.nil_iff.mpr w)) _ (I.hok.fresh (Nat.le_refl _))⟩
  exact ⟨by rw [List.length_append]; exact hz, _, r1.append r2, IsTup.new _ _⟩
end
end L2

namespace L2
open PySem PySem.Spec PyProof.Rows

/-! ### places -/
/-- the place that an index of any sign means -/
def ixN (n : Nat) (i : Int) : Option Nat := if 0 ≤ i then (if i < n then some i.toNat else none) else if -(n : Int) ≤ i then some (i + n).toNat else none
def atI {α : Type} (xs : List α) (i : Int) : Option α := (ixN xs.length i).bind fun j => xs[j]?
theorem ixN_seq {n : Nat} {i : Int} {j : Nat} (h : ixN n i = some j) : seqIndex? i n = some j ∧ j < n ∧ -(n : Int) ≤ i ∧ i < n := by
  unfold ixN at h
  by_cases h0 : 0 ≤ i
  · rw [if_pos h0] at h
    by_cases h1 : i < n
    · rw [if_pos h1] at h
      have e : i.toNat = j := Option.some.inj h
      exact ⟨by rw [seqIndex_of h0 h1, e], by omega, by omega, h1⟩
    · rw [if_neg h1] at h; cases h
  · rw [if_neg h0] at h
    by_cases h1 : -(n : Int) ≤ i
    · rw [if_pos h1] at h
      have e : (i + n).toNat = j := Option.some.inj h
      exact ⟨by rw [seqIndex_neg (by omega) h1, e], by omega, h1, by omega⟩
    · rw [if_neg h1] at h; cases h
theorem atI_get {α : Type} {xs : List α} {i : Int} {v : α} (h : atI xs i = some v) : ∃ j, seqIndex? i xs.length = some j ∧ xs[j]? = some v ∧ j < xs.length ∧ -(xs.length : Int) ≤ i ∧ i < xs.length := by
  unfold atI at h
  cases e : ixN xs.length i with
  | none => rw [e] at h; cases h
  | some j =>
    rw [e] at h
    obtain ⟨h1, h2, h3, h4⟩ := ixN_seq e
    exact ⟨j, h1, h, h2, h3, h4⟩
theorem atI_nat {α : Type} {xs : List α} {j : Nat} {v : α} (h : xs[j]? = some v) : atI xs (j : Int) = some v := by
  have hj : j < xs.length := (List.getElem?_eq_some_iff.mp h).1
  have e : ixN xs.length (j : Int) = some j := by
    unfold ixN
    rw [if_pos (by omega), if_pos (by omega)]; simp
  unfold atI; rw [e]; exact h
/-! ### what may be subscripted -/
/-- what stands as an index of a plain subscript -/
def PlainIx (b : Expr) : Prop := ∀ o i, subscripted b false o i = operate [o, i] (getItem o i)
/-- a subscript by values -/
def IxR (X : Cx) (r : R2) : Prop :=
  ∀ (value slice : Expr) (pins : List (Addr × Obj)) (s : Shared) (σ : St) (H : Hp) (x y : V) (v u : Value) (Q : VK), Inv X pins σ H s → RelV x v → RelV y u → r x y H Q →
    subscripted slice false v u = operate [v, u] (getItem v u) → wpAny (model X.prog X.w) X.A (subscriptTail value slice v u) (EP X pins σ Q) X.xe s
/-- a call of a builtin's method by values: the receiver, the arguments -/
def MtR (X : Cx) (id : String) (r : V → List V → Hp → VK → Prop) : Prop :=
  ∀ (pins : List (Addr × Obj)) (s : Shared) (σ : St) (H : Hp) (x : V) (xs : List V) (v : Value) (us : List Value) (Q : VK), Inv X pins σ H s → RelV x v → Vals xs us → r x xs H Q →
    wpAny (model X.prog X.w) X.A (call (.builtin id) (v :: us)) (EP X pins σ Q) X.xe s
section
variable {X : Cx} {a b : Expr} {ta tb : TE} {pos : Pos}
theorem IxR.or {r r' : R2} (h : IxR X r) (h' : IxR X r') : IxR X (fun x y H Q => r x y H Q ∨ r' x y H Q) := by
  intro value slice pins s σ H x y v u Q I rx ry q hs
  rcases q with q | q
  · exact h value slice pins s σ H x y v u Q I rx ry q hs
  · exact h' value slice pins s σ H x y v u Q I rx ry q hs
theorem MtR.or {id : String} {r r' : V → List V → Hp → VK → Prop} (h : MtR X id r) (h' : MtR X id r') : MtR X id (fun x xs H Q => r x xs H Q ∨ r' x xs H Q) := by
  intro pins s σ H x xs v us Q I rx rs q
  rcases q with q | q
  · exact h pins s σ H x xs v us Q I rx rs q
  · exact h' pins s σ H x xs v us Q I rx rs q
/-- a[b] -/
theorem pe_ix {r : R2} (hr : IxR X r) (ha : PE X a ta) (hb : PE X b tb) (hs : PlainIx b) : PE X (.Subscript a b pos) (tOp r ta tb) := by
  intro pins s σ H Q I h
  exact Subscript_ (binT ha hb I h fun v u s2 x y H2 I2 rx ry q => hr a b pins s2 σ H2 x y v u Q I2 rx ry q (hs _ _))

def rIxL (K : PySem.W.Frag) : R2 := fun x y H Q => ∃ p xs i v, x = .ref p ∧ y = .int i ∧ SqL K H p xs ∧ atI xs i = some v ∧ Q v H
def rIxT (K : PySem.W.Frag) : R2 := fun x y H Q => ∃ p xs i v, x = .ref p ∧ y = .int i ∧ SqT K H p xs ∧ atI xs i = some v ∧ Q v H
theorem ix_list : IxR X (rIxL X.K) := by
  intro value slice pins s σ H x y v u Q I rx ry h hs
  obtain ⟨p, xs, i, z, rfl, rfl, hq, he, q⟩ := h
  cases rx
  obtain ⟨t, rfl⟩ := ry
  obtain ⟨its, r, pl, hz⟩ := I.list hq
  obtain ⟨j, h1, h2, h3, h4, h5⟩ := atI_get he
  obtain ⟨w, ew, rw'⟩ := r.get h2
  have hl := r.length
  have hn := line63
  have fin : EP X pins σ Q w s := ⟨z, H, I, rw', q⟩
  by_cases h0 : 0 ≤ i
  · have hj : i.toNat = j := by
      rw [seqIndex_of h0 h5] at h1
      exact Option.some.inj h1
    exact item_listR pl.isList h0 (by omega) (by rw [hj]; simpa using ew) fin hs
  · have hj : (i + (its.toArray.size : Int)).toNat = j := by
      rw [seqIndex_neg (by omega) h4] at h1
      rw [List.size_toArray, ← hl]
      exact Option.some.inj h1
    exact subscriptTail_builtinR (x := w) pl.isList.typeIs slot_list_getitem.lookup
      (wpAny_getItem_list_neg (Q := fun r s' => r = w ∧ EP X pins σ Q r s') pl.isList (by omega) (by rw [List.size_toArray] <;> omega) (by omega) (by rw [hj]; simpa using ew) ⟨rfl, fin⟩) hs
theorem ix_tup : IxR X (rIxT X.K) := by
  intro value slice pins s σ H x y v u Q I rx ry h hs
  obtain ⟨p, xs, i, z, rfl, rfl, hq, he, q⟩ := h
  cases rx
  obtain ⟨t, rfl⟩ := ry
  obtain ⟨its, r, pl, hz⟩ := I.tuple hq
  obtain ⟨j, h1, h2, h3, h4, h5⟩ := atI_get he
  obtain ⟨w, ew, rw'⟩ := r.get h2
  have hl := r.length
  have hn := line63
  have fin : EP X pins σ Q w s := ⟨z, H, I, rw', q⟩
  exact subscriptTail_builtinR (x := w) pl.typeIs slot_tuple_getitem.lookup
    (getItem_tuple (j := j) (Q := fun r s' => r = w ∧ EP X pins σ Q r s') pl (by omega) (by omega) (by rw [List.size_toArray, ← hl]; exact h1) (by simpa using ew) ⟨rfl, fin⟩) hs
/-! ### xs[i] = v, any sign -/
theorem Inv.lst {pins : List (Addr × Obj)} {σ : St} {H : Hp} {s : Shared} {p : Addr} {xs : List V} (I : Inv X pins σ H s) (h : H p = some (.lst xs)) :
    ∃ (its : List Value) (n : Nat), Vals xs its ∧ s.heap.get? p = some { cls := .type "list", data := .seq its.toArray n } ∧ xs.length ≤ sizeLine := by
  obtain ⟨z, its, n, r, e⟩ := I.hok p _ h
  exact ⟨its, n, r, e, z⟩
def rSetL : V → V → V → Hp → (Hp → Prop) → Prop := fun o i v H Q => ∃ p xs k j, o = .ref p ∧ i = .int k ∧ H p = some (.lst xs) ∧ ixN xs.length k = some j ∧ Q (upd H p (.lst (xs.set j v)))
/-! ### slices -/
theorem slice_bounds (lo hi : Option Int) (n : Nat) : (sliceBounds lo hi none n).1 = ((HT.sIx n 0 lo : Nat) : Int) ∧ (sliceBounds lo hi none n).2.1 = ((HT.sIx n n hi : Nat) : Int) ∧ (sliceBounds lo hi none n).2.2 = 1 := by
  refine ⟨?_, ?_, rfl⟩
  · cases lo with
    | none => simp [sliceBounds, HT.sIx]
    | some i =>
      simp only [sliceBounds, HT.sIx, Option.getD_none, show (1 : Int) > 0 by decide, if_true]
      by_cases h : i < 0
      · simp only [h, if_true] <;> omega
      · simp only [h, if_false] <;> omega
  · cases hi with
    | none => simp [sliceBounds, HT.sIx]
    | some i =>
      simp only [sliceBounds, HT.sIx, Option.getD_none, show (1 : Int) > 0 by decide, if_true]
      by_cases h : i < 0
      · simp only [h, if_true] <;> omega
      · simp only [h, if_false] <;> omega
theorem slicePick_cut (its : List Value) (lo hi : Option Int) : slicePick its.toArray lo hi none = ((its.drop (HT.sIx its.length 0 lo)).take (HT.sIx its.length its.length hi - HT.sIx its.length 0 lo)).toArray := by
  obtain ⟨h1, h2, h3⟩ := slice_bounds lo hi its.toArray.size
  unfold slicePick
  rw [h1, h2, h3]
  simp only [sliceRange_one, pick_run, List.size_toArray] <;> rfl
/-- xs[lo:hi] of a list: a new list -/
def rSlL (K : PySem.W.Frag) : V → Option Int → Option Int → Hp → VK → Prop := fun x lo hi H Q => ∃ a xs, x = .ref a ∧ SqL K H a xs ∧ ∀ p, H p = none → Q (.ref p) (upd H p (.lst (cutV xs lo hi)))
theorem sl_list : SlR X (rSlL X.K) := by
  intro pins s σ H x v vl vu lo hi sl Q I rx hs pl pu h
  obtain ⟨a, xs, rfl, hx, q⟩ := h
  cases rx
  obtain ⟨its, r, ht, hz⟩ := I.list hx
  have hlen := r.length
  refine ⟨"list", _, slot_list_getitem.lookup, ht.isList.typeIs, ?_⟩
  refine wpAny_getItem_list_slice ht.isList hs pl pu .none (by simp) ?_ (by rw [List.size_toArray] <;> omega)
  rw [slicePick_cut, ← hlen]
  refine ⟨.ref s.heap.objs.size, _, I.laid (t' := s.toks) (o := .lst (cutV xs lo hi)) (fun b ob q => Heap.get?_push_of_some _ q) (Nat.le_refl _) ?_, rfl, q _ (I.hok.fresh (Nat.le_refl _))⟩
  exact ⟨Nat.le_trans (cutV_length xs lo hi) hz, _, 0, (r.drop (HT.sIx xs.length 0 lo)).take (HT.sIx xs.length xs.length hi - HT.sIx xs.length 0 lo), Heap.get?_push_size _ rfl⟩

/-! ### in, not in: flat items -/
def flatV : V → Bool
  | .non => true
  | .bl _ => true
  | .int _ => true
  | .str _ => true
  | _ => false
/-- == of flat values -/
def eqV : V → V → Bool
  | .non, .non => true
  | .bl a, .bl b => a == b
  | .bl a, .int b => (if a then 1 else 0) == b
  | .int a, .bl b => a == (if b then 1 else 0)
  | .int a, .int b => a == b
  | .str a, .str b => a == b
  | _, _ => false
theorem eqAt_V {A : Around} {s : Shared} {y x : V} {u v : Value} (ry : RelV y u) (rx : RelV x v) (fy : flatV y = true) (fx : flatV x = true) : SeqAt.EqAt A s u v (eqV y x) := by
  cases y with
  | non =>
    cases ry
    cases x with
    | non => cases rx; exact SeqAt.EqAt.same _
    | bl b => cases rx; exact SeqAt.EqAt.none_bool b
    | int b => obtain ⟨t, rfl⟩ := rx; exact SeqAt.EqAt.none_int b t
    | str b => obtain ⟨t, rfl⟩ := rx; exact SeqAt.EqAt.none_str b t
    | _ => exact absurd (show false = true from fx) Bool.false_ne_true
  | bl a =>
    cases ry
    cases x with
    | non => cases rx; exact SeqAt.EqAt.bool_none a
    | bl b => cases rx; exact SeqAt.EqAt.bool_bool a b
    | int b => obtain ⟨t, rfl⟩ := rx; exact SeqAt.EqAt.bool_int a b t
    | str b => obtain ⟨t, rfl⟩ := rx; exact SeqAt.EqAt.bool_str a b t
    | _ => exact absurd (show false = true from fx) Bool.false_ne_true
  | int a =>
    obtain ⟨t', rfl⟩ := ry
    cases x with
    | non => cases rx; exact SeqAt.EqAt.int_none a t'
    | bl b => cases rx; exact SeqAt.EqAt.int_bool a t' b
    | int b => obtain ⟨t, rfl⟩ := rx; exact SeqAt.EqAt.int_int a t' b t
    | str b => obtain ⟨t, rfl⟩ := rx; exact SeqAt.EqAt.int_str a t' b t
    | _ => exact absurd (show false = true from fx) Bool.false_ne_true
  | str a =>
    obtain ⟨t', rfl⟩ := ry
    cases x with
    | non => cases rx; exact SeqAt.EqAt.str_none a t'
    | bl b => cases rx; exact SeqAt.EqAt.str_bool a t' b
    | int b => obtain ⟨t, rfl⟩ := rx; exact SeqAt.EqAt.str_int a t' b t
    | str b => obtain ⟨t, rfl⟩ := rx; exact SeqAt.EqAt.str_str a t' b t
    | _ => exact absurd (show false = true from fx) Bool.false_ne_true
  | _ => exact absurd (show false = true from fy) Bool.false_ne_true
/-- the items' answers, read off the values (a value's own answer does not lean on its token) -/
def eqU (x : V) (u : Value) : Bool := match u with
  | .none => eqV .non x
  | .bool b => eqV (.bl b) x
  | .int i _ => eqV (.int i) x
  | .str z _ => eqV (.str z) x
  | _ => false
theorem eqU_of {x y : V} {u : Value} (r : RelV y u) (f : flatV y = true) : eqU x u = eqV y x := by
  cases y with
  | non => cases r; rfl
  | bl b => cases r; rfl
  | int i => obtain ⟨t, rfl⟩ := r; rfl
  | str z => obtain ⟨t, rfl⟩ := r; rfl
  | _ => exact absurd (show false = true from f) Bool.false_ne_true
theorem any_eqU {x : V} : ∀ {xs : List V} {us : List Value}, Vals xs us → xs.all flatV = true → us.any (eqU x) = xs.any fun y => eqV y x
  | _, _, .nil, _ => rfl
  | y :: xs, u :: us, .cons r t, f => by
    rw [List.all_cons, Bool.and_eq_true] at f
    rw [List.any_cons, List.any_cons, eqU_of r f.1, any_eqU t f.2]
theorem mem_eqAt {A : Around} {s : Shared} {x : V} {v : Value} (rx : RelV x v) (fx : flatV x = true) : ∀ {xs : List V} {us : List Value}, Vals xs us → xs.all flatV = true → ∀ u ∈ us, SeqAt.EqAt A s u v (eqU x u)
  | _, _, .nil, _ => fun u hu => by cases hu
  | y :: xs, u :: us, .cons r t, f => fun u' hu => by
    rw [List.all_cons, Bool.and_eq_true] at f
    rcases List.mem_cons.mp hu with rfl | hu
    · rw [eqU_of r f.1]; exact eqAt_V r rx f.1 fx
    · exact mem_eqAt rx fx t f.2 u' hu
def inV (x : V) (xs : List V) : Bool := xs.any fun y => eqV y x
/-- x in a list or tuple of flat items -/
def rIn (K : PySem.W.Frag) (neg : Bool) : R2 := fun x y H Q => ∃ p xs, y = .ref p ∧ (SqL K H p xs ∨ SqT K H p xs) ∧ flatV x = true ∧ xs.all flatV = true ∧ Q (.bl (if neg then !inV x xs else inV x xs)) H
theorem op_notIn_seq : OpR X (compareOp .NotIn) (rIn X.K true) := by
  intro pins s σ H x y v u Q I rx ry h
  obtain ⟨p, xs, rfl, hq, fx, fs, q⟩ := h
  cases ry
  rcases hq with hq | hq
  · obtain ⟨its, r, pl, hz⟩ := I.list hq
    refine SeqAt.notIn_listAt (eqU x) pl.isList (fun w hw => mem_eqAt rx fx r fs w (by simpa using hw)) ⟨.bl _, H, I, rfl, ?_⟩
    rw [show its.toArray.any (eqU x) = its.any (eqU x) by simp, any_eqU r fs]
    exact q
  · obtain ⟨its, r, pl, hz⟩ := I.tuple hq
    refine SeqAt.notIn_tupleAt (eqU x) pl (fun w hw => mem_eqAt rx fx r fs w (by simpa using hw)) ⟨.bl _, H, I, rfl, ?_⟩
    rw [show its.toArray.any (eqU x) = its.any (eqU x) by simp, any_eqU r fs]
    exact q
/-! ### len, list(x), tuple(x) of any list or tuple that is read -/
theorem call_len_seq : CallR X (.builtin "len") (fun xs H Q => ∃ p ys, xs = [.ref p] ∧ (SqL X.K H p ys ∨ SqT X.K H p ys) ∧ Q (.int ys.length) H) := by
  intro pins s σ H xs us Q I r h
  obtain ⟨p, ys, rfl, hq, q⟩ := h
  obtain ⟨u, rfl, rx⟩ := vals1 r
  cases rx
  have hn := line63
  rcases hq with hq | hq
  · obtain ⟨its, r', pl, hz⟩ := I.list hq
    have hlen := r'.length
    exact Calls.call_len_list pl.isList (by simp only [List.size_toArray] <;> omega) ⟨.int ys.length, H, I.tok _, ⟨s.toks + 1, by rw [List.size_toArray, hlen]⟩, q⟩
  · obtain ⟨its, r', pl, hz⟩ := I.tuple hq
    have hlen := r'.length
    exact len_tuple pl (by simp only [List.size_toArray] <;> omega) ⟨.int ys.length, H, I.tok _, ⟨s.toks + 1, by rw [List.size_toArray, hlen]⟩, q⟩
theorem CallR.or {f : Value} {r r' : List V → Hp → VK → Prop} (h : CallR X f r) (h' : CallR X f r') : CallR X f (fun xs H Q => r xs H Q ∨ r' xs H Q) := by
  intro pins s σ H xs us Q I rs q
  rcases q with q | q
  · exact h pins s σ H xs us Q I rs q
  · exact h' pins s σ H xs us Q I rs q
theorem call_tuple_of : CallR X (.type "tuple") (fun xs H Q => ∃ p ys, xs = [.ref p] ∧ ((SqL X.K H p ys ∧ ∀ l, H l = none → Q (.ref l) (upd H l (.tup ys))) ∨ (SqT X.K H p ys ∧ Q (.ref p) H))) := by
  intro pins s σ H xs us Q I r h
  obtain ⟨p, ys, rfl, h⟩ := h
  obtain ⟨u, rfl, rx⟩ := vals1 r
  cases rx
  rcases h with ⟨hq, q⟩ | ⟨hq, q⟩
  · obtain ⟨its, r', pl, hz⟩ := I.list hq
    have hlen := r'.length
    refine call_tuple_list pl.isList (fun h' kp => ?_) (by simp only [List.size_toArray] <;> omega)
    have I1 : Inv X pins σ H { s with heap := h' } := I.kept (t' := s.toks) kp
    have I2 : Inv X pins σ (upd H h'.objs.size (.tup ys)) { s with heap := h'.push { cls := .type "tuple", data := .seq its.toArray } } :=
      I1.laid (t' := s.toks) (fun b o e => Heap.get?_push_of_some _ e) (Nat.le_refl _) (show ObjOk X.prog X.w _ _ _ (.tup ys) from ⟨hz, its, r', IsTup.new _ _⟩)
    exact ⟨.ref h'.objs.size, _, I2, rfl, q _ (I1.hok.fresh (Nat.le_refl _))⟩
  · obtain ⟨its, r', pl, hz⟩ := I.tuple hq
    exact call_tuple_same pl ⟨.ref p, H, I, rfl, q⟩

/-! ### the call of a builtin's method: o.m(..) -/
/-- the value is of that builtin type -/
def tyV (K : PySem.W.Frag) (T : String) (x : V) (H : Hp) : Prop := match x with
  | .str _ => T = "str"
  | .int _ => T = "int"
  | .ref p => (T = "list" ∧ ∃ xs, SqL K H p xs) ∨ (T = "tuple" ∧ ∃ o, K.lookup p = some o ∧ o.cls = .type "tuple" ∧ o.dict = none) ∨
      (T = "dict" ∧ ((∃ kvs, H p = some (.dK kvs)) ∨ ∃ kvs, H p = some (.dT kvs))) ∨ (T = "set" ∧ ∃ S n, H p = some (.set S n))
  | _ => False
theorem tyV_is {pins : List (Addr × Obj)} {σ : St} {H : Hp} {s : Shared} {T : String} {x : V} {v : Value} (I : Inv X pins σ H s) (r : RelV x v) (ty : tyV X.K T x H) :
    s.TypeIs v T ∧ ∀ a, v = .ref a → ∃ ob, s.heap.get? a = some ob ∧ ob.dict = none := by
  cases x with
  | str z =>
    obtain ⟨t, rfl⟩ := r
    cases (show T = "str" from ty)
    exact ⟨typeIs_str s z t, fun _ e => nomatch e⟩
  | int i =>
    obtain ⟨t, rfl⟩ := r
    cases (show T = "int" from ty)
    exact ⟨typeIs_int s i t, fun _ e => nomatch e⟩
  | ref p =>
    cases r
    rcases ty with ⟨rfl, xs, hq⟩ | ⟨rfl, o, hk, hc, hd⟩ | ⟨rfl, hk⟩ | ⟨rfl, S, n, hk⟩
    · obtain ⟨its, _, pl, _⟩ := I.list hq
      refine ⟨pl.isList.typeIs, fun a e => ?_⟩
      cases e
      obtain ⟨o, n, e, c, hd, _⟩ := pl
      exact ⟨o, e, hd⟩
    · refine ⟨⟨o, I.kIn p o hk, hc⟩, fun a e => ?_⟩
      cases e
      exact ⟨o, I.kIn _ o hk, hd⟩
    · have z : ∃ o, s.heap.get? p = some o ∧ o.ExactDict := by
        rcases hk with ⟨kvs, hk⟩ | ⟨kvs, hk⟩
        · obtain ⟨_, _, _, _, o, _, _, e, ex, _⟩ := I.hok p _ hk
          exact ⟨o, e, ex⟩
        · obtain ⟨_, _, _, _, o, _, _, e, ex, _⟩ := I.hok p _ hk
          exact ⟨o, e, ex⟩
      obtain ⟨o, e, ex⟩ := z
      refine ⟨⟨o, e, ex.1⟩, fun a e2 => ?_⟩
      cases e2
      exact ⟨o, e, ex.2.1⟩
    · obtain ⟨o, _, _, _, e, ex, _⟩ := I.hok p _ hk
      refine ⟨⟨o, e, ex.1⟩, fun a e2 => ?_⟩
      cases e2
      exact ⟨o, e, ex.2.1⟩
  | _ => exact False.elim ty
def tBM (K : PySem.W.Frag) (T : String) (r : V → List V → Hp → VK → Prop) (to : TE) (t : TA) : TE := fun σ H Q => to σ H fun x H1 => tyV K T x H1 ∧ t σ H1 fun xs H2 => r x xs H2 Q
variable {o e : Expr} {es : List Expr} {to : TE} {t : TA} {name : Str} {apos cpos : Pos} {T id : String} {r : V → List V → Hp → VK → Prop}
theorem pe_bm (pa : PlainAttrs T) (slot : Slot T name id) (hty : typeOf (.builtin id) = pure (.type "method_descriptor")) (hm : MtR X id r) (ho : PE X o to) (ha : PA X (e :: es) t)
    (hbase : attributeBase o name X.env (eval o X.env) = eval o X.env := by rfl)
    (hfew : ((backTo cpos (starEach (e :: es) X.env)).all (fun x => !x.1) && (backToKw cpos (keywordEach [] X.env)).all (fun x => x.1.isSome)
      && decide ((e :: es).length + ([] : List Keyword).length + (if ([] : List Keyword).isEmpty then 0 else 1) < 30)) = true := by rfl)
    (hline : (apos.endLine == cpos.line) = true := by rfl) (hs : starEach (e :: es) X.env = (false, eval e X.env) :: starEach es X.env := by rfl) (hplain : (backTo cpos (starEach es X.env)).any (·.1) = false := by rfl) :
    PE X (.Call (.Attribute o name apos) (e :: es) [] cpos) (tBM X.K T r to t) := by
  intro pins s σ H Q I h
  refine wpAny_Call_method_late hbase hfew hline rfl (thn (ho pins s σ H _ I h) fun v s1 ⟨x, H1, I1, r1, ty, q1⟩ => ?_)
  obtain ⟨h1, h2⟩ := tyV_is I1 r1 ty
  refine ⟨T, id, pa, slot, hty, h1, h2, ?_⟩
  have hA := ha cpos pins s1 σ H1 _ I1 q1
  rw [hs] at hA ⊢
  refine Calls.callWith_builtin (by show (false || (backTo cpos (starEach es X.env)).any (·.1)) = false; rw [hplain] <;> rfl) (Calls.evalArgs_plain ?_)
  exact thn hA fun us s2 ⟨vs, H2, I2, r2, q2⟩ => hm pins s2 σ H2 x vs v us Q I2 r1 r2 q2
/- xs.append(e), list.index on a module's tuple .. are MtR facts of 06m -/
end
end L2

namespace L2
open PySem PySem.Spec PyProof.Rows

def MtM (X : Cx) (id : String) (r : V → List V → Hp → VK → Prop) : Prop :=
  ∀ (pins : List (Addr × Obj)) (s : Shared) (σ : St) (H : Hp) (x : V) (xs : List V) (v : Value) (us : List Value) (Q : VK), Inv X pins σ H s → RelV x v → Vals xs us → r x xs H Q →
    wpAny (model X.prog X.w) X.A (call (.builtin id) (v :: us)) (EP X pins σ Q) X.xe s

/-! ### lists of values -/
theorem Vals.one : ∀ {x : V} {us : List Value}, Vals [x] us → ∃ u, us = [u] ∧ RelV x u
  | _, _, .cons r .nil => ⟨_, rfl, r⟩
theorem Vals.two : ∀ {x y : V} {us : List Value}, Vals [x, y] us → ∃ u v, us = [u, v] ∧ RelV x u ∧ RelV y v
  | _, _, _, .cons r (.cons q .nil) => ⟨_, _, rfl, r, q⟩
theorem Vals.zero : ∀ {us : List Value}, Vals [] us → us = []
  | _, .nil => rfl
theorem Vals.eraseIdx : ∀ {xs : List V} {us : List Value} (i : Nat), Vals xs us → Vals (xs.eraseIdx i) (us.eraseIdx i)
  | _, _, _, .nil => .nil
  | _, _, 0, .cons _ t => t
  | _, _, i + 1, .cons r t => .cons r (Vals.eraseIdx i t)
theorem Vals.reverse {xs : List V} {us : List Value} (h : Vals xs us) : Vals xs.reverse us.reverse := by
  induction h with
  | nil => exact .nil
  | cons r t ih => rw [List.reverse_cons, List.reverse_cons]; exact Vals.append ih (.cons r .nil)
theorem Vals.rep {xs : List V} {us : List Value} (h : Vals xs us) : ∀ k : Nat, Vals (List.replicate k xs).flatten (List.replicate k us).flatten
  | 0 => .nil
  | k + 1 => by
    rw [List.replicate_succ, List.replicate_succ, List.flatten_cons, List.flatten_cons]
    exact Vals.append h (Vals.rep h k)
theorem len_erase {α : Type} : ∀ (l : List α) (i : Nat), (l.eraseIdx i).length ≤ l.length
  | [], _ => Nat.le_refl _
  | _ :: _, 0 => Nat.le_succ _
  | _ :: r, i + 1 => Nat.succ_le_succ (len_erase r i)
theorem foldl_rep (its : List Value) : ∀ (k : Nat) (acc : List Value),
    List.foldl (fun x1 x2 => x1 ++ x2) acc.toArray (List.replicate k its.toArray) = (acc ++ (List.replicate k its).flatten).toArray
  | 0, acc => by simp
  | k + 1, acc => by
    have e : acc.toArray ++ its.toArray = (acc ++ its).toArray := by simp
    have e2 : (acc ++ its) ++ (List.replicate k its).flatten = acc ++ (List.replicate (k + 1) its).flatten := by
      rw [List.replicate_succ, List.flatten_cons, List.append_assoc]
    rw [← e2, ← foldl_rep its k (acc ++ its), ← e, List.replicate_succ, List.foldl_cons]

section
variable {X : Cx} {pins : List (Addr × Obj)} {σ : St} {H : Hp} {s : Shared} {l b : Addr} {xs ys zs : List V}

/-! ### the two steps: a tracked list is rewritten, a new list is laid -/
theorem Inv.lset {its its' : List Value} {n : Nat} {f : Array Value → Array Value} {t' : Nat} (I : Inv X pins σ H s) (hH : H l = some (.lst xs))
    (e : s.heap.get? l = some { cls := .type "list", data := .seq its.toArray n }) (hf : f its.toArray = its'.toArray) (hv : Vals ys its') (hz : ys.length ≤ sizeLine) :
    Inv X pins σ (upd H l (.lst ys)) { s with heap := s.heap.update l (Obj.mapSeq f), toks := t' } := by
  have q := PySem.IsL.update e f
  rw [hf] at q
  refine I.write (x := l) (e := l) (by rw [hH]; exact trivial) (.inl rfl) (fun b' u hb hu => (Heap.get?_update_other s.heap (Obj.mapSeq f) (Ne.symm hb)).trans hu) ⟨_, q⟩ ?_
  exact ⟨hz, its', _, hv, q⟩
theorem Inv.lnew {its : List Value} {t' : Nat} (I : Inv X pins σ H s) (hv : Vals ys its) (hz : ys.length ≤ sizeLine) :
    Inv X pins σ (upd H s.heap.objs.size (.lst ys)) { s with heap := s.heap.push { cls := .type "list", data := .seq its.toArray }, toks := t' } :=
  I.laid (fun _ _ q => Heap.get?_push_of_some _ q) (Nat.le_refl _) ⟨hz, its, 0, hv, Heap.get?_push_size _ rfl⟩
theorem Inv.fresh (I : Inv X pins σ H s) : H s.heap.objs.size = none := I.hok.fresh (Nat.le_refl _)
theorem Inv.lstM (I : Inv X pins σ H s) (hH : H l = some (.lst xs)) : xs.length ≤ sizeLine ∧ ∃ (its : List Value) (n : Nat), Vals xs its ∧ xs.length = its.length ∧ s.heap.get? l = some { cls := .type "list", data := .seq its.toArray n } := by
  obtain ⟨z, its, n, r, e⟩ := I.hok l _ hH
  exact ⟨z, its, n, r, r.length, e⟩

theorem notLongL {n : Nat} (h : n ≤ sizeLine) : Builtin.List.listTooLong n = false := by
  unfold Builtin.List.listTooLong
  exact decide_eq_false (by omega)
end

section
variable {X : Cx}

/-! ### methods -/
def rAppend : V → List V → Hp → VK → Prop := fun x vs H Q => ∃ l xs y, x = .ref l ∧ vs = [y] ∧ H l = some (.lst xs) ∧ xs.length < sizeLine ∧ Q .non (upd H l (.lst (xs ++ [y])))
theorem mt_append : MtM X "list.append" rAppend := by
  intro pins s σ H x vs v us Q I rx rv h
  obtain ⟨l, xs, y, rfl, rfl, hH, hz, q⟩ := h
  cases rx
  obtain ⟨u, rfl, ru⟩ := rv.one
  obtain ⟨z, its, n, r, hl, e⟩ := I.lstM hH
  refine call_meets F.slot_list_append ⟨_, e, rfl⟩ F.entry_list_append (F.args_list_append_2 _ _) (PySem.list_append l its.toArray n u (by rw [List.size_toArray]; omega)) ⟨e, ?_⟩
  refine ⟨.non, _, I.lset (its' := its ++ [u]) hH e (by simp) (r.append (.cons ru .nil)) ?_, rfl, q⟩
  rw [List.length_append, List.length_singleton]
  omega

def rExtend : V → List V → Hp → VK → Prop := fun x vs H Q => ∃ l b xs zs, x = .ref l ∧ vs = [.ref b] ∧ H l = some (.lst xs) ∧ H b = some (.lst zs) ∧ xs.length + zs.length ≤ sizeLine ∧ Q .non (upd H l (.lst (xs ++ zs)))
def rPopAt : V → List V → Hp → VK → Prop := fun x vs H Q => ∃ l xs i k y, x = .ref l ∧ vs = [.int i] ∧ H l = some (.lst xs) ∧ -(2 ^ 63) ≤ i ∧ i < 2 ^ 63 ∧ seqIndex? i xs.length = some k ∧ xs[k]? = some y ∧ Q y (upd H l (.lst (xs.eraseIdx k)))
theorem mt_popAt : MtM X "list.pop" rPopAt := by
  intro pins s σ H x vs v us Q I rx rv h
  obtain ⟨l, xs, i, k, y, rfl, rfl, hH, h1, h2, hk, hy, q⟩ := h
  cases rx
  obtain ⟨u, rfl, ru⟩ := rv.one
  obtain ⟨t, rfl⟩ := ru
  obtain ⟨z, its, n, r, hl, e⟩ := I.lstM hH
  obtain ⟨w, hw, rw'⟩ := r.get hy
  refine call_meets F.slot_list_pop ⟨_, e, rfl⟩ F.entry_list_pop (F.args_list_pop_2 _ _)
    (MeetsSeq.list_pop_at l its.toArray n i t k w (fitsIndex_both h1 h2) (by rw [List.size_toArray, ← hl]; exact hk) (by rw [← Array.getElem?_toList]; exact hw) (by rw [List.size_toArray]; omega)) ⟨e, ?_⟩
  refine ⟨y, _, I.lset (its' := its.eraseIdx k) hH e ?_ (r.eraseIdx k) ?_, rw', q⟩
  · show its.toArray.eraseIdxIfInBounds k = (its.eraseIdx k).toArray
    rw [List.eraseIdxIfInBounds_toArray]
  · have := len_erase xs k
    omega

/-! ### list + list, list += list, list * int -/
def rCat : R2 := fun x y H Q => ∃ l b xs zs, x = .ref l ∧ y = .ref b ∧ H l = some (.lst xs) ∧ H b = some (.lst zs) ∧ xs.length + zs.length ≤ sizeLine ∧ ∀ p, H p = none → Q (.ref p) (upd H p (.lst (xs ++ zs)))
theorem op_cat : OpR X (binaryOp .Add) rCat := by
  intro pins s σ H x y v u Q I rx ry h
  obtain ⟨l, b, xs, zs, rfl, rfl, hH, hB, hz, q⟩ := h
  cases rx
  cases ry
  obtain ⟨z, its, n, r, hl, e⟩ := I.lstM hH
  obtain ⟨z2, its2, n2, r2, hl2, e2⟩ := I.lstM hB
  refine PySem.P.add_list e e2 ?_ (by rw [List.size_toArray, List.size_toArray]; omega)
  have ea : its.toArray ++ its2.toArray = (its ++ its2).toArray := by simp
  rw [ea]
  exact ⟨.ref _, _, I.lnew (t' := s.toks) (r.append r2) (by rw [List.length_append]; omega), rfl, q _ I.fresh⟩
/-- a list times an int (a negative one is nothing) -/
def rRep : R2 := fun x y H Q => ∃ l k xs, x = .ref l ∧ y = .int k ∧ H l = some (.lst xs) ∧ -(2 ^ 63) ≤ k ∧ k < 2 ^ 63 ∧ xs.length * k.toNat ≤ sizeLine ∧
  ∀ p, H p = none → Q (.ref p) (upd H p (.lst (List.replicate k.toNat xs).flatten))
theorem len_rep {α : Type} (xs : List α) (k : Nat) : (List.replicate k xs).flatten.length = k * xs.length := by
  induction k with
  | zero => simp
  | succ k ih => rw [List.replicate_succ, List.flatten_cons, List.length_append, ih, Nat.succ_mul, Nat.add_comm]
theorem op_rep : OpR X (binaryOp .Mult) rRep := by
  intro pins s σ H x y v u Q I rx ry h
  obtain ⟨l, k, xs, rfl, rfl, hH, h1, h2, hz, q⟩ := h
  cases rx
  obtain ⟨t, rfl⟩ := ry
  obtain ⟨z, its, n, r, hl, e⟩ := I.lstM hH
  have hlen : its.toArray.size * k.toNat ≤ sizeLine := by rw [List.size_toArray, ← hl]; exact hz
  have hcap : ¬ its.toArray.size * k.toNat > (2 ^ 63 - 1) / 8 := by
    have : (sizeLine : Nat) ≤ (2 ^ 63 - 1) / 8 := by decide
    omega
  have hfit : ¬ (!Builtin.List.listFitsIndex k) = true := by
    rw [fitsIndex_both h1 h2]
    exact Bool.false_ne_true
  have hlong : ¬ Builtin.List.listTooLong (its.toArray.size * k.toNat) = true := by
    rw [notLongL hlen]
    exact Bool.false_ne_true
  have hnew : List.foldl (fun x1 x2 => x1 ++ x2) #[] (List.replicate (if its.toArray.isEmpty = true then 0 else k.toNat) its.toArray) = (List.replicate k.toNat its).flatten.toArray := by
    have f0 : ∀ m : Nat, List.foldl (fun x1 x2 => x1 ++ x2) #[] (List.replicate m its.toArray) = (List.replicate m its).flatten.toArray := fun m => by
      have := foldl_rep its m []
      rw [List.nil_append] at this
      exact this
    rw [f0]
    cases its with
    | nil => simp
    | cons a r' => rw [if_neg (by simp)]
  refine wpAny_binaryOp_repeat_ref (T := "list") (U := "int") (by decide) ⟨_, e, rfl⟩ (fun s' => typeIs_int s' k t) noFill_list_mul F.fills_int_mul F.slot_int_rmul repeat_list F.slot_int_index.lookup
    (call_meets F.slot_int_rmul (typeIs_int s k t) F.entry_int_rmul (F.args_int_rmul_2 _ _) (int___rmul___int_list k t l its.toArray n)
      ⟨e, rfl, ⟨_, e, rfl⟩, call_meets F.slot_list_mul ⟨_, e, rfl⟩ F.entry_list_mul (F.args_list_mul_2 _ _) (AutoListH.list___mul___list_int_3 l its.toArray n k t hfit hcap hlong) ⟨e, ?_⟩⟩)
  rw [hnew]
  exact ⟨.ref _, _, I.lnew (t' := s.toks) (r.rep k.toNat) (by rw [len_rep, Nat.mul_comm]; exact hz), rfl, q _ I.fresh⟩

/-! ### del xs[i] -/
end

/-! ### xs[a:b] = ys -/
section
variable {prog : Program} {w : World} {A : Around} {E : Value → Shared → Prop} {s : Shared}
end

section
variable {X : Cx}
end
end L2

namespace Att
open PySem PySem.W PySem.Calls PyProof.Rows

/-! ### the script -/
theorem ints_of_wellAll {P : Params} {h : Heap} : ∀ (ns : List Int) (vs : List Value), WellAll P h vs (ns.map WData.int) → IntsAre vs ns := by
  intro ns
  induction ns with
  | nil =>
    intro vs w
    rw [List.map_nil] at w
    cases w
    exact .nil
  | cons n ns ih =>
    intro vs w
    rw [List.map_cons] at w
    cases w with
    | cons a b =>
      cases a
      exact .cons _ _ (ih _ b)

theorem script_of {l : OpenLaw} {n : Nat} (hn : l.most = some n) {P : Params} {h : Heap} {args : List WData} {vals : List Value}
    (hpre : l.row.toRowW.claim.pre args = true) (hwl : WellAll P h vals args) :
    ∃ a vs ns, vals = [Value.ref a] ∧ args = [WData.list (ns.map WData.int)] ∧ h.get? a = some { cls := .type "list", data := .seq vs.toArray } ∧ IntsAre vs ns ∧ ns.length ≤ n := by
  have hsh : WShape.hasAll [] args [.list .int] = true := (pre_splitW hpre).1
  have hc : l.pre.holds [] { args := args } = true := (pre_splitW hpre).2
  obtain ⟨d, r, rfl, h1, h2⟩ := hasAllW_cons hsh
  obtain rfl := hasAllW_nil h2
  obtain ⟨xs, rfl, h3⟩ := hasW_list h1
  obtain ⟨ns, rfl⟩ := items_int h3
  have hlen : ns.length ≤ n := by
    unfold OpenLaw.pre at hc
    have h4 : (WTm.not (.lt (.lit (.int (n : Int))) (.len (.arg 0)))).holds [] { args := [.list (ns.map .int)] } = true := by
      have h4 := (holds_andW hc).1
      rw [hn] at h4
      exact h4
    have h5 := condW_of h4 (w_not (w_lt w_lit (w_len_list (w_arg rfl))))
    rw [List.length_map] at h5
    refine Nat.le_of_not_lt fun q => ?_
    have q' : (n : Int) < ((ns.length : Nat) : Int) := by omega
    first
      | (rw [decide_eq_true q'] at h5; exact absurd h5 (by decide))
      | (simp at h5; omega)
  cases hwl with
  | cons w1 w2 =>
    cases w2
    cases w1 with
    | list ho hall => exact ⟨_, _, ns, rfl, rfl, ho, ints_of_wellAll ns _ hall, hlen⟩

theorem post_true (l : OpenLaw) (args : List WData) : l.row.toRowW.claim.post args (.bool true) args = true :=
  postW_of (r := l.row.toRowW) (X := (true == true))
    (show WShape.has [] (.bool true) .bool = true by first | rfl | decide | simp [WShape.has, WShape.arms, WShape.armsAll])
    (show (WTm.eq .res (.lit (.bool true))).value [] { args := args, res := some (.bool true), after := args } = some (.bool (true == true)) from w_eq_bool (w_res rfl) w_lit) rfl

/-! ### the attachment: holds_open's last premise (the goal 'hc' behind k_head) from a wpAny of the law's body -/
/-- the same from a codeAny of the CALL (for a layer whose function contracts speak of calls) -/
theorem attach_call {l : OpenLaw} {n : Nat} {q : Program} {loose : List Str} {XP : (Str → Option Value) → Heap → Prop} {YP : World → Heap → Prop} {d : DefRec}
    (hn : l.most = some n) (hdf : d.params.defaults = [])
    (call : ∀ (w : World) (s₀ s₁ : Shared) (mg mb : Str → Option Value) (fa : Addr) (o : Obj) (pm cd doc : Value) (a : Addr) (vs : List Value) (ns : List Int),
      Ground q loose [] XP w s₀ mg mb s₁.heap → YP w s₁.heap →
      s₁.heap.get? fa = some o → o.data = .func (docDef d.name d.params d.body d.scope pm cd doc) → s₁.heap.CodeRec cd d.name → mg d.name = some (.ref fa) →
      s₁.heap.get? a = some { cls := .type "list", data := .seq vs.toArray } → IntsAre vs ns → ns.length ≤ n → s₁.gens = #[] →
      codeAny (model l.prog w) callerA (.call (.ref fa) ⟨[.ref a], []⟩) (fun r s' => r = .ok (.ret (.bool true)) ∧ OldK s₁.heap s'.heap ∧ s'.os = s₁.os ∧ AllBare s'.gens) s₁) :
    WalkO q loose XP YP l.row.toRowW d [] (fun f vs => PySem.call f vs) := by
  intro w s₀ s₁ mg mb G Y fa o pm cd doc dV kV ho hd hcd hD hmg hg args vals as hpre hlay hrd hwl hlo
  obtain rfl : dV = .none := Dflts.none hD hdf
  obtain rfl : kV = .none := Dflts.noKw hD
  obtain ⟨a, vs, ns, rfl, rfl, hobj, hints, hlen⟩ := script_of hn hpre hwl
  refine enter_call (codeAny_mono (call w s₀ s₁ mg mb fa o pm cd doc a vs ns G Y ho (fd_plain hd) hcd hmg hobj hints hlen hg) fun r s' hq => ?_)
  obtain ⟨rfl, h2, h3, h4⟩ := hq
  exact ⟨.inl ⟨.bool true, .bool true, [], rfl, fun _ => rfl, .bool true, post_true l _, fun _ => ⟨List.Pairwise.nil, fun _ hm => (nomatch hm)⟩⟩, h2, h3, h4⟩

/-! ### rules over ANY heap (no ledger) from facts about the written part K: the library's own take a ledger (News) for what they write -/
section
variable {prog : Program} {w : World} {A : Around} {E : Value → Shared → Prop} {s : Shared} {K : Frag}

/-! the whole heap as the ledger: makes every rule that writes through a ledger a rule over any heap -/
def ledger (h : Heap) (L d : Addr) : List (Addr × Obj) := (List.range h.objs.size).filterMap fun a => if a = L ∨ a = d then none else (h.get? a).map fun o => (a, o)
end
end Att

namespace L2
open PySem PySem.Spec PyProof.Rows

theorem vals_ints : ∀ {vs : List Value} {ns : List Int}, IntsAre vs ns → Vals (ns.map V.int) vs
  | _, _, .nil => .nil
  | _, _, .cons n t h => .cons ⟨t, rfl⟩ (vals_ints h)

end L2

namespace L2
open PySem PySem.Spec PyProof.Rows

abbrev KOf {K : PySem.W.Frag} {h : Heap} (_ : K.In h) : PySem.W.Frag := K

end L2


/-! SHORT WORDS over the layer: a def of the text, its body, what a loop and a test want. -/
namespace L2
open PySem PySem.Spec PyProof.Rows

/-! ### the text by places -/
def defArgs (s : Stmt) : Arguments := match s with
  | .FunctionDef _ a _ _ _ _ _ _ _ _ => a
  | _ => { posonlyargs := [], args := [], vararg := none, kwonlyargs := [], kw_defaults := [], kwarg := none, defaults := [] }
def defBody (s : Stmt) : List Stmt := match s with
  | .FunctionDef _ _ b _ _ _ _ _ _ _ => b
  | _ => []
def defScope (s : Stmt) : Scope := match s with
  | .FunctionDef _ _ _ _ _ _ sc _ _ _ => sc
  | _ => { kind := .function, names := [], isGenerator := false, isCoroutine := false }

/-! ### no exception leaves a def -/
abbrev CX0 : CXT := fun _ _ _ _ _ _ => False
abbrev E0 : XK := fun _ _ _ => False
theorem pass0 {X : Cx} : Passes CX0 X E0 := fun _ _ _ _ _ _ _ h => h.elim

/-! ### a def (or method) of the text as it stands behind the top -/
structure Fun (K : PySem.W.Frag) (x qual : Str) (st : Stmt) (f : Addr) (fd : FuncData) : Prop where
  ex : ∃ (oc : Value) (od : Option Addr) (kV doc pm : Value) (an : Option Addr) (cdv ct : Value) (osl : Array (Option Value)),
    fd = PySem.W.fnOf x qual (defArgs st) (defBody st) (defScope st) .none kV doc pm an cdv ct ∧ K.lookup f = some ⟨oc, od, .func fd, osl⟩ ∧ PySem.W.codeIn K cdv qual = true
  kp : PySem.W.keepIn K (.ref f) = true
section
variable {P : Program} {w : World} {K : PySem.W.Frag} {mg : Str → Option Value} {base : Heap}
/-- THE RULE for a def: its body as a term of rules, and the reading of that term -/
theorem Fun.ok {x qual : Str} {st : Stmt} {f : Addr} {fd : FuncData} {N ps : List Str} {k : Nat} {sp : Sp} (F : Fun K x qual st f fd) (S : FnScope N ps (defScope st)) (len : ∀ vs H Q E, sp vs H Q E → vs.length = ps.length)
    (hbody : ∀ (cdv : Value) (A : Around) (outer : List Env) (s : Shared) (H : Hp) (vs : List V) (Q : VK) (E : XK), Room k (A.deeper (envOfC qual (defScope st) s.heap.objs.size f cdv)) → sp vs H Q E →
      ∃ t, PSs (cxOf CX0 P w K mg base N qual (defScope st) f cdv A outer s H E).nox (defBody st) t ∧ t { nx := fun _ H' => Q .non H', rt := Q } (start N vs) H) : FnOk P w K mg base CX0 (k + 1) f fd ps sp := by
  obtain ⟨oc, od, kV, doc, pm, an, cdv, ct, osl, rfl, lk, hcd⟩ := F.ex
  refine fn_of lk hcd S len fun A outer s H vs Q E hr hsp => ?_
  obtain ⟨t, h, q⟩ := hbody cdv A outer s H vs Q E hr hsp
  exact ⟨t, h.nox, q⟩
/-- how its arguments bind (no defaults): h is «fun _ _ _ _ _ _ us hl => match us, hl with | [_, _], _ => rfl», one _ a parameter -/
theorem Fun.binds {x qual : Str} {st : Stmt} {f : Addr} {fd : FuncData} {ps : List Str} (F : Fun K x qual st f fd)
    (h : ∀ (kV doc pm : Value) (an : Option Addr) (cdv ct : Value) (us : List Value), us.length = ps.length → bindArgs (PySem.W.fnOf x qual (defArgs st) (defBody st) (defScope st) .none kV doc pm an cdv ct) ⟨us, []⟩ = pure (ps.zip us)) : Binds K fd ps [] := by
  obtain ⟨oc, od, kV, doc, pm, an, cdv, ct, osl, rfl, lk, hcd⟩ := F.ex
  exact .all (h kV doc pm an cdv ct)
theorem fun_mk {x qual : Str} {st : Stmt} {f : Addr} {oc : Value} {od an : Option Addr} {osl : Array (Option Value)} {kV doc pm cdv ct : Value} (l : K.lookup f = some ⟨oc, od, .func (PySem.W.fnOf x qual (defArgs st) (defBody st) (defScope st) .none kV doc pm an cdv ct), osl⟩)
    (c : PySem.W.codeIn K cdv qual = true) (k : PySem.W.keepIn K (.ref f) = true) : Fun K x qual st f (PySem.W.fnOf x qual (defArgs st) (defBody st) (defScope st) .none kV doc pm an cdv ct) := ⟨⟨oc, od, kV, doc, pm, an, cdv, ct, osl, rfl, l, c⟩, k⟩
end
theorem small1000 {n : Nat} (h : n ≤ 1000) : n < sizeLine := Nat.lt_of_le_of_lt h (by decide)

/-! ### expressions in short: the name that stands in the i-th slot -/
section
variable {X : Cx}
theorem pv (i : Nat) {x : Str} {pos : Pos} (hN : X.N[i]? = some x := by rfl) (hv : Vis X.env.scope x := by first | exact Or.inl rfl | exact Or.inr (Or.inl rfl) | exact Or.inr (Or.inr rfl)) (hd : (x == ("__debug__" : Str)) = false := by decide)
    (hcd : (x == ("__classdict__" : Str)) = false := by decide) : PE X (.Name x pos) (tVar i) := pe_var hN hv hd hcd
end

/-! ### tests -/
theorem iteF {A B : Prop} (h : B) : if false = true then A else B := by
  rw [if_neg Bool.false_ne_true]
  exact h
theorem iteT {A B : Prop} (h : A) : if true = true then A else B := by
  rw [if_pos rfl]
  exact h
theorem ite2 {c A B : Prop} [Decidable c] (h1 : c → A) (h2 : ¬ c → B) : if c then A else B := by
  by_cases h : c
  · rw [if_pos h]
    exact h1 h
  · rw [if_neg h]
    exact h2 h
/-! ### heaps -/
/-- all that was tracked is as it was -/
def Same (H H' : Hp) : Prop := ∀ b o, H b = some o → H' b = some o
theorem Same.refl (H : Hp) : Same H H := fun _ _ h => h
theorem Same.trans {H H1 H2 : Hp} (a : Same H H1) (b : Same H1 H2) : Same H H2 := fun c o h => b c o (a c o h)
theorem Same.free {H H' : Hp} (e : Same H H') {l : Addr} (h : H' l = Option.none) : H l = Option.none := by
  cases q : H l with
  | none => rfl
  | some o =>
    rw [e l o q] at h
    cases h
theorem Same.seq {K : PySem.W.Frag} {H H' : Hp} {a : Addr} {xs : List V} (e : Same H H') (h : SqL K H a xs) : SqL K H' a xs := by
  rcases h with (h | ⟨o, h⟩) | h
  · exact .inl (.inl (e _ _ h))
  · exact .inl (.inr ⟨o, e _ _ h⟩)
  · exact .inr h

end L2

set_option Elab.async false
set_option linter.all false
set_option maxRecDepth 100000
namespace L2
open PySem PySem.Spec PyProof.Rows

end L2

namespace L2
open PySem PySem.Spec PyProof.Rows

section
variable (P : Program) (w : World)
end

section
variable {P : Program} {w : World} {H H' : Hp} {h h' : Heap} {a : Addr} {o : HO}
end

section
variable {P : Program} {w : World} {H : Hp} {h h' : Heap} {x e : Addr} {o' : HO}
end

section
variable {fs fs' ex ex' : List Addr} {H H1 H2 : Hp} {h h1 h2 h' : Heap} {a x e : Addr} {o : HO}
end

end L2

namespace L2
open PySem PySem.Spec PyProof.Rows

section
variable {X : Cx} {pins : List (Addr × Obj)} {σ : List (Option V)} {H H' : Hp} {s : Shared} {h' : Heap}

end

end L2

namespace L2
open PySem PySem.Spec PyProof.Rows
section
variable {X : Cx}

variable {a b : Expr} {ta tb : TE} {pos : Pos}
variable {tA tB' : TT} {rest : List Expr}
end
end L2

namespace L2
open PySem PySem.Spec PyProof.Rows

section
variable {X : Cx} {pins : List (Addr × Obj)} {σ : St} {H : Hp} {s : Shared} {a : Addr} {xs ys : List V}
end

section
variable {X : Cx} {pins : List (Addr × Obj)} {σ : St} {H : Hp} {s : Shared} {E : Value → Shared → Prop}
end

section
variable {X : Cx} {st : Stmt} {rest : List Stmt} {t u : TS} {e : Expr} {te : TE} {pos : Pos}
end

section
variable {X : Cx} {pos : Pos}
end

section
variable {X : Cx} {pos : Pos}
end

end L2

namespace L2
open PySem PySem.Spec PyProof.Rows
section
variable {X : Cx} {tg : Expr}
end

end L2

namespace L2
open PySem PySem.Spec PyProof.Rows

section
variable {X : Cx} {a b c : Expr} {ta tb tc : TE} {pos : Pos}

end

section
variable {X : Cx} {a b c : Expr} {ta tb tc : TE} {pos : Pos}
end
end L2

namespace L2
open PySem PySem.Spec PyProof.Rows

section
variable {prog : Program} {w : World} {A : Around} {E : Value → Shared → Prop} {s : Shared} {K : PySem.W.Frag} {x dx C f : Addr} {mA : Str → Option Value} {name : Str} {v : Value}

end

section
variable {P : Program} {w : World} {H H' : Hp} {h h' : Heap} {a C dx : Addr} {fs fs' : List (Str × V)}
end

section
variable {X : Cx} {pins : List (Addr × Obj)} {σ : St} {H : Hp} {s : Shared} {a C dx : Addr} {fs : List (Str × V)} {f : Str} {v : V} {A : Around} {E : Value → Shared → Prop}

end

section
variable {X : Cx} {o e value : Expr} {f : Str} {pos pos' tpos : Pos} {ta tv : TE}
end

section
variable {X : Cx} {pins : List (Addr × Obj)} {σ : St} {H : Hp} {s : Shared} {A : Around} {E : Value → Shared → Prop} {Q : Value → Shared → Prop} {c : Value} {b : Bool}
end
end L2

namespace L2
open PySem PySem.Spec PyProof.Rows

section
variable {X : Cx} {e : Expr} {es : List Expr} {te : TE} {t : TA} {pos : Pos}
end

section
variable {X : Cx} {pins : List (Addr × Obj)} {σ : St} {H : Hp} {s s' : Shared}
end

section
variable {X : Cx} {CX : CXT} {k : Nat} {f C : Addr} {fd : FuncData} {ps : List Str} {sp : Sp} {dvs : List V} {ds : List Value} {E : XK} {x m : Str} {p pos apos : Pos} {e o : Expr} {es : List Expr} {ta : TE} {t : TA}

end

section
variable {X : Cx} {CX : CXT} {k : Nat} {f C : Addr} {fd : FuncData} {ps ks : List Str} {sp : Sp} {E : XK} {x m : Str} {p pos apos kpos : Pos} {e o : Expr} {es : List Expr} {kws : List Keyword} {te ta : TE} {t tk : TA} {nm : Option Str}
variable {g : List Value → List Value → List Value} {gV : List V → List V → List V}
end

end L2

namespace L2
open PySem PySem.Spec PyProof.Rows
section
variable {X : Cx} {x : Str} {p pos : Pos} {e : Expr} {es : List Expr} {t : TA} {id T : String} {r : List V → Hp → VK → Prop}

end
end L2

namespace L2
open PySem PySem.Spec PyProof.Rows

section
variable {κ : Type} [DecidableEq κ]
def valV (kvs : List (κ × V)) (k : κ) : Option V := (kvs.find? fun kv => decide (kv.1 = k)).map (·.2)
def putK (kvs : List (κ × V)) (k : κ) (v : V) : List (κ × V) :=
  if (kvs.any fun kv => decide (kv.1 = k)) = true then kvs.map (fun kv => if kv.1 = k then (kv.1, v) else kv) else kvs ++ [(k, v)]
def dropK (kvs : List (κ × V)) (k : κ) : List (κ × V) := kvs.filter fun kv => decide (kv.1 ≠ k)

theorem valV_nil {k : κ} : valV ([] : List (κ × V)) k = none := rfl
theorem valV_pos {p : κ × V} {r : List (κ × V)} {k : κ} (e : p.1 = k) : valV (p :: r) k = some p.2 := by simp [valV, List.find?_cons, e]
theorem valV_neg {p : κ × V} {r : List (κ × V)} {k : κ} (e : ¬ p.1 = k) : valV (p :: r) k = valV r k := by simp [valV, List.find?_cons, e]
theorem valV_any (k : κ) : ∀ kvs : List (κ × V), (kvs.any fun kv => decide (kv.1 = k)) = (valV kvs k).isSome
  | [] => rfl
  | p :: r => by
    rw [List.any_cons]
    by_cases e : p.1 = k
    · simp only [valV_pos e, decide_eq_true e, Bool.true_or, Option.isSome_some]
    · rw [valV_neg e, decide_eq_false e, Bool.false_or]; exact valV_any k r
theorem valV_map (k j : κ) (y : V) : ∀ kvs : List (κ × V), valV (kvs.map fun kv => if kv.1 = k then (kv.1, y) else kv) j = (valV kvs j).map fun x => if j = k then y else x
  | [] => rfl
  | p :: r => by
    have ih := valV_map k j y r
    rw [List.map_cons]
    by_cases h : p.1 = k
    · rw [if_pos h]
      by_cases e : p.1 = j
      · rw [valV_pos (p := (p.1, y)) e, valV_pos e, Option.map_some, if_pos (e.symm.trans h)]
      · rw [valV_neg (p := (p.1, y)) e, valV_neg e, ih]
    · rw [if_neg h]
      by_cases e : p.1 = j
      · rw [valV_pos (p := p) e, valV_pos e, Option.map_some, if_neg (fun z => h (e.trans z))]
      · rw [valV_neg (p := p) e, valV_neg e, ih]
theorem valV_snoc (k j : κ) (y : V) : ∀ kvs : List (κ × V), valV kvs k = none → valV (kvs ++ [(k, y)]) j = if j = k then some y else valV kvs j
  | [], _ => by
    by_cases e : k = j
    · rw [if_pos e.symm]; exact valV_pos (p := (k, y)) e
    · rw [if_neg (fun z => e z.symm)]; exact valV_neg (p := (k, y)) e
  | p :: r, hn => by
    rw [List.cons_append]
    have hk : ¬ p.1 = k := fun z => by rw [valV_pos z] at hn; cases hn
    rw [valV_neg hk] at hn
    have ih := valV_snoc k j y r hn
    by_cases e : p.1 = j
    · rw [valV_pos e, valV_pos e, if_neg (fun z => hk (e.trans z))]
    · rw [valV_neg e, valV_neg e, ih]
theorem valV_put (kvs : List (κ × V)) (k j : κ) (y : V) : valV (putK kvs k y) j = if j = k then some y else valV kvs j := by
  unfold putK
  by_cases a : (kvs.any fun kv => decide (kv.1 = k)) = true
  · rw [if_pos a, valV_map]
    rw [valV_any] at a
    by_cases e : j = k
    · obtain ⟨x, hx⟩ := Option.isSome_iff_exists.mp a
      rw [if_pos e, e, hx, Option.map_some, if_pos rfl]
    · rw [if_neg e]
      cases valV kvs j with
      | none => rfl
      | some x => rw [Option.map_some, if_neg e]
  · rw [if_neg a]
    refine valV_snoc k j y kvs ?_
    rw [valV_any] at a
    cases q : valV kvs k with
    | none => rfl
    | some x => rw [q] at a; exact (a rfl).elim
theorem length_putK (kvs : List (κ × V)) (k : κ) (v : V) : (putK kvs k v).length ≤ kvs.length + 1 := by
  unfold putK
  split
  · rw [List.length_map]; omega
  · rw [List.length_append, List.length_cons, List.length_nil]; omega
theorem putK_new {kvs : List (κ × V)} {k : κ} (v : V) (h : valV kvs k = none) : putK kvs k v = kvs ++ [(k, v)] := by
  unfold putK
  rw [valV_any, h]
  exact if_neg (by decide)

theorem RelO.isSome_eq {o : Option V} {u : Option Value} (r : RelO o u) : o.isSome = u.isSome := by
  cases o with
  | none => cases u with
    | none => rfl
    | some _ => exact (show False from r).elim
  | some _ => cases u with
    | none => exact (show False from r).elim
    | some _ => rfl
theorem RelO.getD {o : Option V} {u : Option Value} {d : V} {d' : Value} (r : RelO o u) (rd : RelV d d') : RelV (o.getD d) (u.getD d') := by
  cases o with
  | none => cases u with
    | none => exact rd
    | some _ => exact (show False from r).elim
  | some _ => cases u with
    | none => exact (show False from r).elim
    | some _ => exact r

theorem KV.val {kvs : List (κ × V)} {vs : List (κ × Value)} (r : KV kvs vs) (k : κ) : RelO (valV kvs k) (valueAt vs k) := by
  unfold KV at r
  induction r with
  | nil => exact True.intro
  | @cons p q ps qs h t ih =>
    obtain ⟨h1, h2⟩ := h
    by_cases e : p.1 = k
    · have e' : q.1 = k := h1.symm.trans e
      have b : valueAt (q :: qs) k = some q.2 := by simp [valueAt, List.find?_cons, e']
      rw [valV_pos e, b]; exact h2
    · have e' : ¬ q.1 = k := fun z => e (h1.trans z)
      have b : valueAt (q :: qs) k = valueAt qs k := by simp [valueAt, List.find?_cons, e']
      rw [valV_neg e, b]; exact ih
theorem KV.any {kvs : List (κ × V)} {vs : List (κ × Value)} (r : KV kvs vs) (k : κ) : (kvs.any fun kv => decide (kv.1 = k)) = vs.any fun kv => decide (kv.1 = k) := by
  unfold KV at r
  induction r with
  | nil => rfl
  | cons h t ih => rw [List.any_cons, List.any_cons, ih, h.1]
theorem KV.repl {kvs : List (κ × V)} {vs : List (κ × Value)} (r : KV kvs vs) (k : κ) {y : V} {u : Value} (ry : RelV y u) :
    KV (kvs.map fun kv => if kv.1 = k then (kv.1, y) else kv) (vs.map fun kv => if kv.1 = k then (kv.1, u) else kv) := by
  unfold KV at r ⊢
  induction r with
  | nil => exact .nil
  | @cons p q ps qs h t ih =>
    rw [List.map_cons, List.map_cons]
    refine .cons ?_ ih
    obtain ⟨h1, h2⟩ := h
    by_cases e : p.1 = k
    · rw [if_pos e, if_pos (h1.symm.trans e)]; exact ⟨h1, ry⟩
    · rw [if_neg e, if_neg (fun z => e (h1.trans z))]; exact ⟨h1, h2⟩
theorem KV.put {kvs : List (κ × V)} {vs : List (κ × Value)} (r : KV kvs vs) (k : κ) {y : V} {u : Value} (ry : RelV y u) : KV (putK kvs k y) (stored vs k u) := by
  unfold putK stored
  rw [r.any k]
  by_cases e : (vs.any fun kv => decide (kv.1 = k)) = true
  · rw [if_pos e, if_pos e]; exact r.repl k ry
  · rw [if_neg e, if_neg e]; exact Paired.snoc r ⟨rfl, ry⟩
theorem KV.drop {kvs : List (κ × V)} {vs : List (κ × Value)} (r : KV kvs vs) (k : κ) : KV (dropK kvs k) (without vs k) := by
  unfold KV at r ⊢
  unfold dropK without
  induction r with
  | nil => exact .nil
  | @cons p q ps qs h t ih =>
    obtain ⟨h1, h2⟩ := h
    rw [List.filter_cons, List.filter_cons]
    by_cases e : p.1 = k
    · have a : ¬ decide (p.1 ≠ k) = true := by simp [e]
      have b : ¬ decide (q.1 ≠ k) = true := by simp [h1.symm.trans e]
      rw [if_neg a, if_neg b]; exact ih
    · have e' : ¬ q.1 = k := fun z => e (h1.trans z)
      have a : decide (p.1 ≠ k) = true := by simp [e]
      have b : decide (q.1 ≠ k) = true := by simp [e']
      rw [if_pos a, if_pos b]; exact .cons ⟨h1, h2⟩ ih
theorem KV.keys {kvs : List (κ × V)} {vs : List (κ × Value)} (r : KV kvs vs) : kvs.map (·.1) = vs.map (·.1) := by
  unfold KV at r
  induction r with
  | nil => rfl
  | cons h t ih => rw [List.map_cons, List.map_cons, ih, h.1]
theorem KV.length {kvs : List (κ × V)} {vs : List (κ × Value)} (r : KV kvs vs) : kvs.length = vs.length := Paired.length r
end


theorem kV_is {P : Program} {w : World} {k : Key} {u : Value} (r : RelV (kV k) u) : (mixKind P w).is k u = true := by
  cases k with
  | inl i => obtain ⟨t, e⟩ := (show ∃ t, u = Value.int i t from r); subst e; exact mixKind_int P w i t
  | inr x => obtain ⟨t, e⟩ := (show ∃ t, u = Value.str x t from r); subst e; exact mixKind_str P w x t
theorem items_are {P : Program} {w : World} : ∀ {ks : List Key} {us : List Value}, Vals (ks.map kV) us → ItemsAre (mixKind P w) ks us
  | [], _, r => by rw [List.map_nil] at r; cases r; exact .nil
  | k :: ks, _, r => by
    rw [List.map_cons] at r
    cases r with
    | cons h t => exact .cons (kV_is h) (items_are t)

abbrev KT (H : Hp) : List (List Key × V) → List (List Key × Addr × Value) → Prop := Paired fun p q => p.1 = q.1 ∧ H q.2.1 = some (.tup (p.1.map kV)) ∧ RelV p.2 q.2.2
theorem KT.val {H : Hp} {kvs : List (List Key × V)} {xs : List (List Key × Addr × Value)} (r : KT H kvs xs) (k : List Key) : RelO (valV kvs k) ((atKey xs k).map (·.2)) := by
  induction r with
  | nil => exact True.intro
  | @cons p q ps qs h t ih =>
    obtain ⟨h1, _, h2⟩ := h
    by_cases e : p.1 = k
    · have e' : q.1 = k := h1.symm.trans e
      have b : atKey (q :: qs) k = some q.2 := by simp [atKey, List.find?_cons, e']
      rw [valV_pos e, b]; exact h2
    · have e' : ¬ q.1 = k := fun z => e (h1.trans z)
      have b : atKey (q :: qs) k = atKey qs k := by simp [atKey, List.find?_cons, e']
      rw [valV_neg e, b]; exact ih
theorem KT.repl {H : Hp} {kvs : List (List Key × V)} {xs : List (List Key × Addr × Value)} (r : KT H kvs xs) (k : List Key) {y : V} {u : Value} (ry : RelV y u) :
    KT H (kvs.map fun kv => if kv.1 = k then (kv.1, y) else kv) (xs.map (putAt k u)) := by
  induction r with
  | nil => exact .nil
  | @cons p q ps qs h t ih =>
    rw [List.map_cons, List.map_cons]
    refine .cons ?_ ih
    obtain ⟨h1, h2, h3⟩ := h
    unfold putAt
    by_cases e : p.1 = k
    · rw [if_pos e, if_pos (h1.symm.trans e)]; exact ⟨h1, h2, ry⟩
    · rw [if_neg e, if_neg (fun z => e (h1.trans z))]; exact ⟨h1, h2, h3⟩
theorem KT.put {H : Hp} {kvs : List (List Key × V)} {xs : List (List Key × Addr × Value)} (r : KT H kvs xs) (k : List Key) {b : Addr} {y : V} {u : Value} (hb : H b = some (.tup (k.map kV))) (ry : RelV y u) :
    KT H (putK kvs k y) (storedH xs k b u) := by
  have e : (kvs.any fun kv => decide (kv.1 = k)) = (atKey xs k).isSome := by
    rw [valV_any, (r.val k).isSome_eq, Option.isSome_map]
  unfold putK storedH
  rw [e]
  by_cases q : (atKey xs k).isSome = true
  · rw [if_pos q, if_pos q]; exact r.repl k ry
  · rw [if_neg q, if_neg q]; exact Paired.snoc r ⟨rfl, hb, ry⟩
theorem KT.keeps {H H' : Hp} {kvs : List (List Key × V)} {xs : List (List Key × Addr × Value)} (r : KT H kvs xs) (ht : ∀ b ys, H b = some (.tup ys) → H' b = some (.tup ys)) : KT H' kvs xs :=
  Paired.mapP r fun _ _ z => ⟨z.1, ht _ _ z.2.1, z.2.2⟩

section
variable {P : Program} {w : World} {H : Hp} {h : Heap} {a : Addr}
theorem rd_of {u : HO} (ok : HOk P w H h) (e : Rd H a u) : ObjOk P w H h a u := e.ok ok
theorem dk_rd {kvs : List (Key × V)} (ok : HOk P w H h) (e : Rd H a (.dK kvs)) : kvs.length ≤ sizeLine ∧ (a == sysModules) = false ∧ ∃ vs, KV kvs vs ∧ h.DictOf (mixKind P w) a vs :=
  show ObjOk P w H h a (.dK kvs) from rd_of ok e
theorem dk_of {kvs : List (Key × V)} (ok : HOk P w H h) (e : H a = some (.dK kvs)) : kvs.length ≤ sizeLine ∧ (a == sysModules) = false ∧ ∃ vs, KV kvs vs ∧ h.DictOf (mixKind P w) a vs := dk_rd ok (.inl e)
theorem key_of {ks : List Key} (ok : HOk P w H h) (e : H a = some (.tup (ks.map kV))) : (tupleKind (mixKind P w)).is h ks a := by
  obtain ⟨_, its, r, o, h1, h2, n, h3⟩ := (show ObjOk P w H h a (.tup (ks.map kV)) from ok a _ e)
  exact ⟨o, its.toArray, n, h1, h2, h3, by simpa using items_are r⟩
theorem dt_rd {kvs : List (List Key × V)} (ok : HOk P w H h) (e : Rd H a (.dT kvs)) : kvs.length ≤ sizeLine ∧ (a == sysModules) = false ∧
    ∃ xs, KT H kvs xs ∧ h.DictOfH (tupleKind (mixKind P w)) a xs := by
  obtain ⟨z, y, xs, r, o, es, ep, h1, h2, h3, h4, h5⟩ := (show ObjOk P w H h a (.dT kvs) from rd_of ok e)
  refine ⟨z, y, xs, r, o, es, ep, h1, h2, h3, h4, fun x hx => ?_, h5⟩
  have all : ∀ {l : List (List Key × V)} {m : List (List Key × Addr × Value)}, KT H l m → ∀ x ∈ m, (tupleKind (mixKind P w)).is h x.1 x.2.1 := by
    intro l m q
    induction q with
    | nil => intro x hx; exact nomatch hx
    | @cons p q ps qs hq t ih =>
      intro x hx
      rcases List.mem_cons.mp hx with e | hx
      · subst e
        exact key_of ok (by rw [← hq.1]; exact hq.2.1)
      · exact ih x hx
  exact all r x hx
theorem dt_of {kvs : List (List Key × V)} (ok : HOk P w H h) (e : H a = some (.dT kvs)) : kvs.length ≤ sizeLine ∧ (a == sysModules) = false ∧
    ∃ xs, KT H kvs xs ∧ h.DictOfH (tupleKind (mixKind P w)) a xs := dt_rd ok (.inl e)
end

/-- y is the key k: an int, a text, or a truth -/
def KeyV (k : Key) (y : V) : Prop := y = kV k ∨ ∃ b, y = .bl b ∧ k = .inl (blI b)
theorem KeyV.is {P : Program} {w : World} {k : Key} {y : V} {u : Value} (h : KeyV k y) (r : RelV y u) : (mixKind P w).is k u = true := by
  rcases h with rfl | ⟨b, rfl, rfl⟩
  · exact kV_is r
  · cases (show u = Value.bool b from r)
    exact keyIs_bl b
def DGet (H : Hp) (a : Addr) (y : V) (r : Option V) : Prop :=
  (∃ kvs k, Rd H a (.dK kvs) ∧ KeyV k y ∧ r = valV kvs k) ∨ ∃ kvs k b, Rd H a (.dT kvs) ∧ y = .ref b ∧ H b = some (.tup (k.map kV)) ∧ r = valV kvs k
def DPut (H : Hp) (a : Addr) (y v : V) (H' : Hp) : Prop :=
  (∃ kvs k, H a = some (.dK kvs) ∧ KeyV k y ∧ kvs.length < sizeLine ∧ H' = upd H a (.dK (putK kvs k v))) ∨
  ∃ kvs k b, H a = some (.dT kvs) ∧ y = .ref b ∧ H b = some (.tup (k.map kV)) ∧ kvs.length < sizeLine ∧ H' = upd H a (.dT (putK kvs k v))
theorem DGet.k {H : Hp} {a : Addr} {kvs : List (Key × V)} {k : Key} (e : H a = some (.dK kvs)) : DGet H a (kV k) (valV kvs k) := .inl ⟨kvs, k, .inl e, .inl rfl, rfl⟩
theorem DGet.t {H : Hp} {a b : Addr} {kvs : List (List Key × V)} {k : List Key} (e : H a = some (.dT kvs)) (eb : H b = some (.tup (k.map kV))) : DGet H a (.ref b) (valV kvs k) := .inr ⟨kvs, k, b, .inl e, rfl, eb, rfl⟩
theorem DPut.k {H : Hp} {a : Addr} {kvs : List (Key × V)} {k : Key} {v : V} (e : H a = some (.dK kvs)) (hl : kvs.length < sizeLine) : DPut H a (kV k) v (upd H a (.dK (putK kvs k v))) := .inl ⟨kvs, k, e, .inl rfl, hl, rfl⟩
theorem DPut.t {H : Hp} {a b : Addr} {kvs : List (List Key × V)} {k : List Key} {v : V} (e : H a = some (.dT kvs)) (eb : H b = some (.tup (k.map kV))) (hl : kvs.length < sizeLine) :
    DPut H a (.ref b) v (upd H a (.dT (putK kvs k v))) := .inr ⟨kvs, k, b, e, rfl, eb, hl, rfl⟩


section
variable {X : Cx} {pins : List (Addr × Obj)} {σ : St} {H : Hp} {s : Shared} {a : Addr} {y v : V} {u r : Value} {o : Option V} {A : Around} {E : Value → Shared → Prop}

theorem Inv.big (I : Inv X pins σ H s) : sysModules < s.heap.objs.size := by
  have h : mainGlobals < s.heap.objs.size := (I.mod.glob.keeps I.bk).lt
  exact Nat.lt_trans (by decide) h

theorem d_getItem {Q : Value → Shared → Prop} (hu : A.units + 1 < cLine) (I : Inv X pins σ H s) (g : DGet H a y (some v)) (ry : RelV y u) (h : ∀ w' s', Inv X pins σ H s' → RelV v w' → Q w' s') :
    wpAny (model X.prog X.w) A (getItem (.ref a) u) Q E s := by
  rcases g with ⟨kvs, k, e, ey, l⟩ | ⟨kvs, k, b, e, ey, eb, l⟩
  · obtain ⟨z, hd, vs, rel, dd⟩ := dk_rd I.hok e
    obtain ⟨w', hw, rw'⟩ := RelO.some_of (v := v) (o := valueAt vs k) (by rw [l]; exact rel.val k)
    exact wpAny_getItem_of (ey.is ry) dd.mapOf hw (h w' _ (I.tok _) rw')
  · subst ey
    cases (show u = Value.ref b from ry)
    obtain ⟨z, hd, xs, rel, dd⟩ := dt_rd I.hok e
    obtain ⟨w', hw, rw'⟩ := RelO.some_of (v := v) (o := (atKey xs k).map (·.2)) (by rw [l]; exact rel.val k)
    obtain ⟨p, hp, hp2⟩ := Option.map_eq_some_iff.mp hw
    refine wpAny_getItem_heap (tupleKind_room_in1 hu) (key_of I.hok eb) dd hp ?_
    rw [hp2]
    exact h w' _ (I.tok _) rw'
theorem d_notIn {Q : Value → Shared → Prop} (hu : A.units + 1 < cLine) (I : Inv X pins σ H s) (g : DGet H a y o) (ry : RelV y u) (h : ∀ s', Inv X pins σ H s' → Q (.bool (!o.isSome)) s') :
    wpAny (model X.prog X.w) A (compareOp .NotIn u (.ref a)) Q E s := by
  rcases g with ⟨kvs, k, e, ey, l⟩ | ⟨kvs, k, b, e, ey, eb, l⟩
  · obtain ⟨z, hd, vs, rel, dd⟩ := dk_rd I.hok e
    refine wpAny_notIn_of (ey.is ry) hd dd.mapOf ?_
    rw [← (rel.val k).isSome_eq, ← l]
    exact h _ (I.tok _)
  · subst ey
    cases (show u = Value.ref b from ry)
    obtain ⟨z, hd, xs, rel, dd⟩ := dt_rd I.hok e
    refine wpAny_notIn_heap (tupleKind_room_in1 hu) (key_of I.hok eb) hd dd ?_
    have q := (rel.val k).isSome_eq
    rw [Option.isSome_map] at q
    rw [← q, ← l]
    exact h _ (I.tok _)
theorem d_write {h' : Heap} {t' : Nat} {ob : HO} (I : Inv X pins σ H s) (mu : Mut (H a)) (hs : Heap.SameBut a s.heap h') (he : ∃ q, h'.get? a = some q) (new : ObjOk X.prog X.w (upd H a ob) h' a ob) :
    Inv X pins σ (upd H a ob) { s with heap := h', toks := t' } :=
  I.write (x := a) (e := a) mu (.inl rfl) (fun b q hb z => (hs.2 b hb).trans z) he new
theorem dk_new {P : Program} {w : World} {H' : Hp} {h' : Heap} {kvs : List (Key × V)} {vs : List (Key × Value)} (z : kvs.length ≤ sizeLine) (hd : (a == sysModules) = false) (rel : KV kvs vs) (dd : h'.DictOf (mixKind P w) a vs) :
    ObjOk P w H' h' a (.dK kvs) := ⟨z, hd, vs, rel, dd⟩
theorem d_setItem {H' : Hp} {Q : Unit → Shared → Prop} (hu : A.units + 1 < cLine) (I : Inv X pins σ H s) (g : DPut H a y v H') (ry : RelV y u) (rv : RelV v r) (h : ∀ s', Inv X pins σ H' s' → Q () s') :
    wpAny (model X.prog X.w) A (setItem (.ref a) u r) Q E s := by
  rcases g with ⟨kvs, k, e, ey, l, eH⟩ | ⟨kvs, k, b, e, ey, eb, l, eH⟩
  · subst eH
    obtain ⟨z, hd, vs, rel, dd⟩ := dk_of I.hok e
    have hz : vs.length ≤ sizeLine := by rw [← rel.length]; exact z
    have hl : (putK kvs k v).length ≤ sizeLine := by have := length_putK kvs k v; omega
    refine wpAny_setItem_pairs (hsz := hz) (ey.is ry) dd fun h' dd' hs => h _ ?_
    have he : ∃ q, h'.get? a = some q := let ⟨q, _, _, hq, _⟩ := dd'; ⟨q, hq⟩
    exact d_write I (by rw [e]; exact True.intro) hs he (dk_new hl hd (rel.put k rv) dd')
  · subst ey eH
    cases (show u = Value.ref b from ry)
    obtain ⟨z, hd, xs, rel, dd⟩ := dt_of I.hok e
    have hz : xs.length ≤ sizeLine := by rw [← Paired.length rel]; exact z
    have hl : (putK kvs k v).length ≤ sizeLine := by have := length_putK kvs k v; omega
    refine wpAny_setItem_heap (hsz := hz) (tupleKind_room_in1 hu) (key_of I.hok eb) dd fun h' dd' hs => h _ ?_
    obtain ⟨q, es, ep, hq, h2, h3, h4, _, h5⟩ := dd'
    refine d_write I (by rw [e]; exact True.intro) hs ⟨q, hq⟩ ⟨hl, hd, _, (rel.put k eb rv).keeps fun c ys ec => ?_, q, es, ep, hq, h2, h3, h4, h5⟩
    rw [upd_ne (ne_of ec e (fun z => nomatch z))]
    exact ec
end

section
variable {X : Cx} {pins : List (Addr × Obj)} {σ : St} {H : Hp} {s : Shared} {a : Addr} {kvs : List (Key × V)} {k : Key} {u : Value} {A : Around} {E : Value → Shared → Prop}
theorem d_len {Q : Value → Shared → Prop} (I : Inv X pins σ H s) (e : Rd H a (.dK kvs)) (h : ∀ t s', Inv X pins σ H s' → Q (.int kvs.length t) s') : wpAny (model X.prog X.w) A (call (.builtin "len") [.ref a]) Q E s := by
  obtain ⟨z, hd, vs, rel, dd⟩ := dk_rd I.hok e
  refine call_len_dict hd dd (by rw [← rel.length]; rw [sizeLine_eq] at z; omega) ?_
  rw [← rel.length]
  exact h _ _ (I.tok _)
end


def NoSl (i : Expr) : Prop := ∀ ov iv, subscripted i false ov iv = operate [ov, iv] (getItem ov iv)
theorem subD_of {prog : Program} {w : World} {A : Around} {E : Value → Shared → Prop} {s : Shared} {env : Env} {value slice : Expr} {pos : Pos} {T id : String} {Q : Value → Shared → Prop}
    (hl : typeLookup (.type T) "__getitem__" = pure (some (.builtin id))) (hs : NoSl slice)
    (h : wpAny (model prog w) A (eval value env) (fun o s₁ => wpAny (model prog w) A (eval slice env) (fun i s₂ => s₂.TypeIs o T ∧ wpAny (model prog w) A (getItem o i) Q E s₂) E s₁) E s) :
    wpAny (model prog w) A (eval (.Subscript value slice pos) env) Q E s := by
  refine Subscript_ (wpAny_mono h (fun o s₁ h₁ => wpAny_mono h₁ (fun i s₂ h₂ => ?_) fun _ _ x => x) fun _ _ x => x)
  obtain ⟨hT, h₂⟩ := h₂
  unfold subscriptTail
  refine wpAny_bind ?_
  rw [getitemInPython_of_ne hT.not_modules]
  refine wpAny_bind (wpAny_specialOf hT hl ?_)
  have fin : wpAny (model prog w) A (subscripted slice false o i) (fun r s₃ => wpAny (model prog w) A (letTemporaryGo value o r >>= fun _ => pure r) Q E s₃) E s₂ := by
    rw [hs o i]
    exact wpAny_operating (wpAny_mono h₂ (fun r s₃ h₃ => wpAny_bind (wpAny_letTemporaryGo (wpAny_pure h₃))) fun _ _ x => x)
  first
    | exact wpAny_pure (wpAny_bind fin)
    | exact wpAny_bind (wpAny_pure (wpAny_bind fin))
    | exact wpAny_bind fin

theorem dict_typeIs {X : Cx} {pins : List (Addr × Obj)} {σ : St} {H : Hp} {s : Shared} {a : Addr} {y : V} {o : Option V} (I : Inv X pins σ H s) (g : DGet H a y o) : s.TypeIs (.ref a) "dict" := by
  rcases g with ⟨kvs, k, e, _, _⟩ | ⟨kvs, k, b, e, _, _, _⟩
  · obtain ⟨_, _, vs, _, dd⟩ := dk_rd I.hok e
    exact dd.typeIs
  · obtain ⟨_, _, xs, _, dd⟩ := dt_rd I.hok e
    exact dd.typeIs
def tDGet (td ty : TE) : TE := fun σ H Q => td σ H fun x H1 => ty σ H1 fun y H2 => ∃ a v, x = .ref a ∧ DGet H2 a y (some v) ∧ Q v H2
def sDPut (td ty tv : TE) : TS := fun D σ H => tv σ H fun v H1 => td σ H1 fun x H2 => ty σ H2 fun y H3 => ∃ a H4, x = .ref a ∧ DPut H3 a y v H4 ∧ D.nx σ H4
section
variable {X : Cx} {o i e value : Expr} {pos pos' tpos : Pos} {td ty tv : TE}
theorem pe_dget (hu : X.A.units + 1 < cLine) (ho : PE X o td) (hi : PE X i ty) (hs : NoSl i) : PE X (.Subscript o i pos) (tDGet td ty) := by
  intro pins s σ H Q I h
  refine subD_of PySem.F.slot_dict_getitem.lookup hs (thn (ho pins s σ H _ I h) fun u s1 ⟨x, H1, I1, rx, q1⟩ => thn (hi pins s1 σ H1 _ I1 q1) fun iv s2 ⟨y, H2, I2, ry, a, v, ex, g, q2⟩ => ?_)
  subst ex
  obtain rfl : u = Value.ref a := rx
  exact ⟨dict_typeIs I2 g, d_getItem hu I2 g ry fun w' s3 I3 rw' => ⟨v, H2, I3, rw', q2⟩⟩
theorem ps_dput (hu : X.A.units + 1 < cLine) (ho : PE X o td) (hi : PE X i ty) (hv : PE X value tv) (hs : swapsWith value (some (.Subscript o i pos')) pos.line X.env = pure false) :
    PS X (.Assign [.Subscript o i pos'] value pos) (sDPut td ty tv) := by
  intro pins s σ H D I h
  refine wpAny_Assign_Subscript (thn (hv pins s σ H _ I h) fun r s1 ⟨v, H1, I1, rv, q1⟩ => thn (ho pins s1 σ H1 _ I1 q1) fun u s2 ⟨x, H2, I2, rx, q2⟩ => thn (hi pins s2 σ H2 _ I2 q2) fun iv s3 ⟨y, H3, I3, ry, a, H4, ex, g, q3⟩ => ?_) hs
  subst ex
  obtain rfl : u = Value.ref a := rx
  exact d_setItem hu I3 g ry rv fun s4 I4 => ⟨σ, H4, I4, q3⟩
end


theorem dk_empty {P : Program} {w : World} {H : Hp} (h : Heap) (hb : sysModules < h.objs.size) : ObjOk P w H (h.push { cls := .type "dict", data := .dict #[] }) h.objs.size (.dK []) :=
  ⟨Nat.zero_le _, beq_eq_false_iff_ne.mpr (Ne.symm (Nat.ne_of_lt hb)), [], .nil, Heap.DictOf.new h⟩
theorem dt_empty {P : Program} {w : World} {H : Hp} (h : Heap) (hb : sysModules < h.objs.size) : ObjOk P w H (h.push { cls := .type "dict", data := .dict #[] }) h.objs.size (.dT []) :=
  ⟨Nat.zero_le _, beq_eq_false_iff_ne.mpr (Ne.symm (Nat.ne_of_lt hb)), [], .nil, _, #[], 0, Heap.get?_push_size _ rfl, ⟨rfl, rfl, rfl⟩, rfl, rfl, List.nodup_nil⟩
def tDNewK : TE := fun _ H Q => ∀ p, H p = none → Q (.ref p) (upd H p (.dK []))
def tDNewT : TE := fun _ H Q => ∀ p, H p = none → Q (.ref p) (upd H p (.dT []))
section
variable {X : Cx} {pos : Pos}
theorem pe_dnewK : PE X (.Dict [] [] pos) tDNewK := fun pins s σ H Q I h =>
  wpAny_Dict_empty ⟨.ref s.heap.objs.size, _, I.laid (a := s.heap.objs.size) (o := .dK []) (t' := s.toks) (fun _ _ q => Heap.get?_push_of_some _ q) (Nat.le_refl _) (dk_empty s.heap I.big), rfl, h _ (I.hok.fresh (Nat.le_refl _))⟩
theorem pe_dnewT : PE X (.Dict [] [] pos) tDNewT := fun pins s σ H Q I h =>
  wpAny_Dict_empty ⟨.ref s.heap.objs.size, _, I.laid (a := s.heap.objs.size) (o := .dT []) (t' := s.toks) (fun _ _ q => Heap.get?_push_of_some _ q) (Nat.le_refl _) (dt_empty s.heap I.big), rfl, h _ (I.hok.fresh (Nat.le_refl _))⟩
end

def tPairs : List (TE × TE) → St → Hp → (List (V × V) → Hp → Prop) → Prop
  | [], _, H, Q => Q [] H
  | (tk, tv) :: r, σ, H, Q => tk σ H fun x H1 => tv σ H1 fun y H2 => tPairs r σ H2 fun ps H3 => Q ((x, y) :: ps) H3
abbrev VV : List (V × V) → List (Value × Value) → Prop := Paired fun p q => RelV p.1 q.1 ∧ RelV p.2 q.2
def PPs (X : Cx) (pos : Pos) (keys : List (Option Expr)) (values : List Expr) (trs : List (TE × TE)) : Prop :=
  ∀ (pins : List (Addr × Obj)) (s : Shared) (σ : St) (H : Hp) (Q : List (V × V) → Hp → Prop), Inv X pins σ H s → tPairs trs σ H Q →
    wpAny (model X.prog X.w) X.A (evalPairs (pairTrees keys values X.env pos)) (fun vs s' => ∃ ps H', Inv X pins σ H' s' ∧ VV ps vs ∧ Q ps H') X.xe s
theorem pps_nil {X : Cx} {pos : Pos} : PPs X pos [] [] [] := fun pins s σ H Q I h => pairTrees_nil_walk ⟨[], H, I, .nil, h⟩
theorem pps_cons {X : Cx} {pos : Pos} {k v : Expr} {ks : List (Option Expr)} {vs : List Expr} {tk tv : TE} {trs : List (TE × TE)} (hk : PE X k tk) (hv : PE X v tv) (hr : PPs X pos ks vs trs) :
    PPs X pos (some k :: ks) (v :: vs) ((tk, tv) :: trs) := fun pins s σ H Q I h =>
  pairTrees_cons_walk (thn (hk pins s σ H _ I h) fun u s1 ⟨x, H1, I1, rx, q1⟩ => thn (hv pins s1 σ H1 _ I1 q1) fun w2 s2 ⟨y, H2, I2, ry, q2⟩ =>
    thn (hr pins s2 σ H2 _ I2 q2) fun ws s3 ⟨ps, H3, I3, rel, q3⟩ => ⟨(x, y) :: ps, H3, I3, .cons ⟨rx, ry⟩ rel, q3⟩)

def mergeK (kvs more : List (Key × V)) : List (Key × V) := more.foldl (fun acc kv => putK acc kv.1 kv.2) kvs
theorem KV.merge : ∀ {more : List (Key × V)} {rs : List (Key × Value)} {kvs : List (Key × V)} {vs : List (Key × Value)}, KV more rs → KV kvs vs → KV (mergeK kvs more) (merged vs rs) := by
  intro more rs kvs vs r
  unfold KV at r
  induction r generalizing kvs vs with
  | nil => intro q; exact q
  | @cons p q ps qs h t ih =>
    intro r0
    have e : KV (putK kvs p.1 p.2) (stored vs q.1 q.2) := by
      have := r0.put p.1 h.2
      rw [← h.1]; exact this
    exact ih e
theorem length_mergeK : ∀ (more kvs : List (Key × V)), (mergeK kvs more).length ≤ kvs.length + more.length
  | [], kvs => by show kvs.length ≤ kvs.length + 0; omega
  | p :: r, kvs => by
    have h1 := length_mergeK r (putK kvs p.1 p.2)
    have h2 := length_putK kvs p.1 p.2
    show (mergeK (putK kvs p.1 p.2) r).length ≤ _
    rw [List.length_cons]; omega
theorem carries_of {P : Program} {w : World} : ∀ {kvs : List (Key × V)} {ws : List (Value × Value)}, VV (kvs.map fun kv => (kV kv.1, kv.2)) ws → ∃ rs, Carries (mixKind P w) ws rs ∧ KV kvs rs
  | [], _, r => by rw [List.map_nil] at r; cases r; exact ⟨[], True.intro, .nil⟩
  | p :: kvs, _, r => by
    rw [List.map_cons] at r
    cases r with
    | @cons a b as bs h t =>
      obtain ⟨rs, c, q⟩ := carries_of (P := P) (w := w) t
      obtain ⟨b1, b2⟩ := b
      exact ⟨(p.1, b2) :: rs, ⟨kV_is h.1, rfl, c⟩, .cons ⟨rfl, h.2⟩ q⟩
def tDisp (trs : List (TE × TE)) : TE := fun σ H Q => ∀ p, H p = none → tPairs trs σ (upd H p (.dK [])) fun ps H2 => H2 p = some (.dK []) ∧ ∃ kvs : List (Key × V), ps = kvs.map (fun kv => (kV kv.1, kv.2)) ∧ kvs.length ≤ 15 ∧ Q (.ref p) (upd H2 p (.dK (mergeK [] kvs)))
theorem pe_disp {X : Cx} {pos : Pos} {keys : List (Option Expr)} {values : List Expr} {trs : List (TE × TE)} (h : PPs X pos keys values trs) (hall : keys.all (·.isSome) = true) (hl : keys.length = values.length) (h0 : keys ≠ [])
    (h15 : keys.length ≤ 15) : PE X (.Dict keys values pos) (tDisp trs) := by
  intro pins s σ H Q I q
  have hn := I.hok.fresh (Nat.le_refl s.heap.objs.size)
  have I1 := I.laid (a := s.heap.objs.size) (o := .dK []) (h' := s.heap.push { cls := .type "dict", data := .dict #[] }) (t' := s.toks) (fun _ _ q => Heap.get?_push_of_some _ q) (Nat.le_refl _) (dk_empty s.heap I.big)
  refine wpAny_Dict_walk (knd := mixKind X.prog X.w) hall hl h0 h15 (thn (h pins _ σ _ _ I1 (q _ hn)) fun ws s2 ⟨ps, H2, I2, rel, e, kvs, ep, lk, q2⟩ => ?_)
  subst ep
  obtain ⟨rs, c, rk⟩ := carries_of (P := X.prog) (w := X.w) rel
  obtain ⟨z, hd, vs0, r0, dd⟩ := dk_of I2.hok e
  cases r0
  refine ⟨rs, c, dd, fun h' dd' hs => ⟨.ref s.heap.objs.size, _, ?_, rfl, q2⟩⟩
  have hz : (mergeK [] kvs).length ≤ sizeLine := by
    have h1 := length_mergeK kvs []
    rw [List.length_nil] at h1
    rw [sizeLine_eq]; omega
  have he : ∃ q, h'.get? s.heap.objs.size = some q := let ⟨q, _, _, hq, _⟩ := dd'; ⟨q, hq⟩
  exact d_write I2 (by rw [e]; exact True.intro) hs he (dk_new hz hd (rk.merge .nil) dd')


structure M1 (X : Cx) (o : Expr) (m : Str) (apos : Pos) (e : Expr) (cpos : Pos) : Prop where
  base : attributeBase o m X.env (eval o X.env) = eval o X.env
  few : ((backTo cpos (starEach [e] X.env)).all (fun x => !x.1) && (backToKw cpos (keywordEach [] X.env)).all (fun x => x.1.isSome)
    && decide (([e] : List Expr).length + ([] : List Keyword).length + (if ([] : List Keyword).isEmpty then 0 else 1) < 30)) = true
  line : (apos.endLine == cpos.line) = true
  trees : backTo cpos (starEach [e] X.env) = [(false, eval e X.env)]
structure M2 (X : Cx) (o : Expr) (m : Str) (apos : Pos) (e f : Expr) (cpos : Pos) : Prop where
  base : attributeBase o m X.env (eval o X.env) = eval o X.env
  few : ((backTo cpos (starEach [e, f] X.env)).all (fun x => !x.1) && (backToKw cpos (keywordEach [] X.env)).all (fun x => x.1.isSome)
    && decide (([e, f] : List Expr).length + ([] : List Keyword).length + (if ([] : List Keyword).isEmpty then 0 else 1) < 30)) = true
  line : (apos.endLine == cpos.line) = true
  trees : backTo cpos (starEach [e, f] X.env) = [(false, eval e X.env), (false, eval f X.env)]

section
variable {X : Cx} {pins : List (Addr × Obj)} {σ : St} {H : Hp} {s : Shared} {a : Addr} {y d : V} {u r : Value} {o : Option V} {A : Around} {E : Value → Shared → Prop}
end

section
variable {X : Cx} {o e f : Expr} {apos cpos : Pos} {td ty tx : TE}
end

section
variable {X : Cx} {pins : List (Addr × Obj)} {σ : St} {H : Hp} {s : Shared} {a : Addr} {kvs : List (Key × V)} {A : Around} {E : Value → Shared → Prop}
end


section
variable {X : Cx} {pins : List (Addr × Obj)} {σ : St} {H : Hp} {s : Shared} {a : Addr} {y : V} {u : Value} {A : Around} {E : Value → Shared → Prop}
end
end L2

namespace Att
open PySem PySem.W PySem.Calls PyProof.Rows

section
variable {prog : Program} {w : World} {A : Around} {E : Value → Shared → Prop} {s : Shared} {K : Frag}

end
end Att

namespace L2
open PySem PySem.Spec PyProof.Rows

end L2

namespace L2
open PySem PySem.Spec PyProof.Rows

end L2


namespace L2
open PySem PySem.Spec PyProof.Rows

section
variable {P : Program} {w : World} {K : PySem.W.Frag} {mg : Str → Option Value} {base : Heap}
end
section
variable {X : Cx}
theorem call_lenD : CallR X (.builtin "len") (fun xs H Q => ∃ a kvs, xs = [V.ref a] ∧ H a = some (.dK kvs) ∧ Q (.int kvs.length) H) := by
  intro pins s σ H xs us Q I r h
  obtain ⟨a, kvs, rfl, ha, q⟩ := h
  obtain ⟨u, rfl, ru⟩ := vals1 r
  cases ru
  exact d_len I (.inl ha) fun t s' I' => ⟨.int kvs.length, H, I', ⟨t, rfl⟩, q⟩
end

section
variable {κ : Type} [DecidableEq κ]
theorem valV_in {kvs : List (κ × V)} {k : κ} {v : V} (h : valV kvs k = some v) : k ∈ kvs.map (·.1) := by
  have q : (kvs.any fun kv => decide (kv.1 = k)) = true := by
    rw [valV_any, h]
    all_goals rfl
  obtain ⟨p, hp, e⟩ := List.any_eq_true.mp q
  exact List.mem_map.mpr ⟨p, hp, of_decide_eq_true e⟩
theorem nd_snoc : ∀ {l : List κ} {k : κ}, l.Nodup → ¬ k ∈ l → (l ++ [k]).Nodup
  | [], k, _, _ => by simp
  | a :: r, k, h, hk => by
    obtain ⟨h1, h2⟩ := List.nodup_cons.mp h
    show (a :: (r ++ [k])).Nodup
    refine List.nodup_cons.mpr ⟨fun m => ?_, nd_snoc h2 fun m => hk (List.mem_cons.mpr (Or.inr m))⟩
    rcases List.mem_append.mp m with q | q
    · exact h1 q
    · exact hk (List.mem_cons.mpr (Or.inl (List.mem_singleton.mp q).symm))
end
end L2

set_option Elab.async false
set_option linter.all false
set_option maxRecDepth 100000
/-! COMPREHENSIONS over the hand layer -/
namespace L2
open PySem PySem.Spec PyProof.Rows

/-! ### the closure of a comprehension -/
theorem closure_go (env : Env) : ∀ (names : List (Str × NameKind)) (cs : List (Str × Addr)),
    (∀ p ∈ names, p.2 = .free → ∃ c, env.cells.lookup p.1 = some c) → (∀ x c, cs.lookup x = some c → env.cells.lookup x = some c) →
    ∃ cl : List (Str × Addr), (forIn names cs fun (p : Str × NameKind) (r : List (Str × Addr)) => (if (p.2 == NameKind.free) = true then (do let c ← cellOf env p.1; pure (ForInStep.yield ((p.1, c) :: r))) else pure (ForInStep.yield r) : Sem (ForInStep (List (Str × Addr))))) = (pure cl : Sem (List (Str × Addr))) ∧
      (∀ x c, cl.lookup x = some c → env.cells.lookup x = some c) ∧ (∀ x, (cs.lookup x).isSome = true → (cl.lookup x).isSome = true) ∧ (∀ p ∈ names, p.2 = .free → (cl.lookup p.1).isSome = true)
  | [], cs, _, h2 => ⟨cs, rfl, h2, fun _ h => h, fun _ h => nomatch h⟩
  | (n, k) :: r, cs, h1, h2 => by
    have h1' : ∀ p ∈ r, p.2 = .free → ∃ c, env.cells.lookup p.1 = some c := fun p hp => h1 p (List.mem_cons_of_mem _ hp)
    by_cases hk : (k == NameKind.free) = true
    · have hk' : k = .free := by simpa using hk
      obtain ⟨c, hc⟩ := h1 (n, k) List.mem_cons_self hk'
      have h2' : ∀ x c', ((n, c) :: cs).lookup x = some c' → env.cells.lookup x = some c' := fun x c' e => by
        rw [List.lookup_cons] at e
        cases hx : x == n with
        | true =>
          rw [hx] at e
          have e1 : x = n := by simpa using hx
          rw [e1, hc]; exact e
        | false => rw [hx] at e; exact h2 x c' e
      obtain ⟨cl, e1, e2, e3, e4⟩ := closure_go env r ((n, c) :: cs) h1' h2'
      have hn : (((n, c) :: cs).lookup n).isSome = true := by rw [List.lookup_cons, beq_self_eq_true]; rfl
      refine ⟨cl, ?_, e2, fun x hx => e3 x ?_, fun p hp hf => ?_⟩
      · rw [List.forIn_cons]
        have q : cellOf env n = pure c := by unfold cellOf; rw [hc]
        simp only [hk, if_true, q]
        exact e1
      · rw [List.lookup_cons]
        cases x == n with
        | true => rfl
        | false => exact hx
      · rcases List.mem_cons.mp hp with e | hp
        · rw [e]; exact e3 n hn
        · exact e4 p hp hf
    · obtain ⟨cl, e1, e2, e3, e4⟩ := closure_go env r cs h1' h2
      refine ⟨cl, ?_, e2, e3, fun p hp hf => ?_⟩
      · rw [List.forIn_cons]
        have hkf : (k == NameKind.free) = false := by simpa using hk
        simp only [hkf, Bool.false_eq_true, if_false]
        exact e1
      · rcases List.mem_cons.mp hp with e | hp
        · rw [e] at hf; exact absurd (by simpa using hf) hk
        · exact e4 p hp hf
theorem closure_of {scope : Scope} {env : Env} (h : ∀ p ∈ scope.names, p.2 = .free → ∃ c, env.cells.lookup p.1 = some c) :
    ∃ cl, closureFor scope env = pure cl ∧ (∀ x c, cl.lookup x = some c → env.cells.lookup x = some c) ∧ (∀ p ∈ scope.names, p.2 = .free → ∃ c, cl.lookup p.1 = some c) := by
  obtain ⟨cl, e1, e2, _, e4⟩ := closure_go env scope.names [] h (fun x c e => by simp at e)
  refine ⟨cl, ?_, e2, fun p hp hf => Option.isSome_iff_exists.mp (e4 p hp hf)⟩
  have q : closureFor scope env = (forIn scope.names [] fun (p : Str × NameKind) (r : List (Str × Addr)) => (if (p.2 == NameKind.free) = true then (do let c ← cellOf env p.1; pure (ForInStep.yield ((p.1, c) :: r))) else pure (ForInStep.yield r) : Sem (ForInStep (List (Str × Addr))))) >>= pure := by
    unfold closureFor
    rfl
  rw [q, e1]
  rfl

/-! ### what the block's names are -/
theorem relabel_free {env : Env} : ∀ {names : List (Str × NameKind)} {x : Str}, (∀ y ∈ names, y.2 ≠ .cell) →
    ((names.map fun (n, k) => if (k == NameKind.free && env.scope.kind == .function && env.kindOf n == some .cell) then (n, NameKind.cell) else (n, k)).lookup x = some .cell ∨
     (names.map fun (n, k) => if (k == NameKind.free && env.scope.kind == .function && env.kindOf n == some .cell) then (n, NameKind.cell) else (n, k)).lookup x = some .free) → (x, NameKind.free) ∈ names
  | [], _, _, h => by simp at h
  | (n, k) :: r, x, hc, h => by
    have ih := @relabel_free env r x (fun y hy => hc y (List.mem_cons_of_mem _ hy))
    simp only [List.map_cons] at h
    cases hx : x == n with
    | true =>
      have e : x = n := by simpa using hx
      subst e
      by_cases hh : (k == NameKind.free && env.scope.kind == .function && env.kindOf x == some .cell) = true
      · have : k = .free := by
          simp only [Bool.and_eq_true] at hh
          simpa using hh.1.1
        subst this
        exact List.mem_cons_self
      · rw [if_neg hh] at h
        simp only [List.lookup_cons, hx] at h
        rcases h with h | h
        · have : k = .cell := Option.some.inj h
          exact absurd this (hc (x, k) List.mem_cons_self)
        · have : k = .free := Option.some.inj h
          subst this
          exact List.mem_cons_self
    | false =>
      refine List.mem_cons_of_mem _ (ih ?_)
      by_cases hh : (k == NameKind.free && env.scope.kind == .function && env.kindOf n == some .cell) = true
      · rw [if_pos hh] at h
        simpa only [List.lookup_cons, hx] using h
      · rw [if_neg hh] at h
        simpa only [List.lookup_cons, hx] using h
theorem relabel_kind {env : Env} : ∀ {names : List (Str × NameKind)} {x : Str}, names.lookup x = some .free →
    ((names.map fun (n, k) => if (k == NameKind.free && env.scope.kind == .function && env.kindOf n == some .cell) then (n, NameKind.cell) else (n, k)).lookup x = some .cell ∨
     (names.map fun (n, k) => if (k == NameKind.free && env.scope.kind == .function && env.kindOf n == some .cell) then (n, NameKind.cell) else (n, k)).lookup x = some .free)
  | [], _, h => by simp at h
  | (n, k) :: r, x, h => by
    have ih := @relabel_kind env r x
    simp only [List.map_cons]
    cases hx : x == n with
    | true =>
      simp only [List.lookup_cons, hx] at h
      have e : k = .free := Option.some.inj h
      subst e
      by_cases hh : (NameKind.free == NameKind.free && env.scope.kind == .function && env.kindOf n == some .cell) = true
      · rw [if_pos hh]; left; simp only [List.lookup_cons, hx]
      · rw [if_neg hh]; right; simp only [List.lookup_cons, hx]
    | false =>
      simp only [List.lookup_cons, hx] at h
      by_cases hh : (k == NameKind.free && env.scope.kind == .function && env.kindOf n == some .cell) = true
      · rw [if_pos hh]; simpa only [List.lookup_cons, hx] using ih h
      · rw [if_neg hh]; simpa only [List.lookup_cons, hx] using ih h

/-! ### the block's context -/
/-- a comprehension's block: tn its own names, cp the captured ones with their slots -/
def cxB (X : Cx) (scope : Scope) (tn : List Str) (cp : List (Nat × Str)) (cl : List (Str × Addr)) (C : Addr) (s : Shared) (H : Hp) (fp : List Addr) : Cx :=
  { X with N := tn ++ cp.map (·.2), s₀ := s, H₀ := H, env := compEnvC scope cl C X.env, outer := X.stack, ex := fp, fn := fun _ => false, pn := [], xe := fun _ _ => False }
def stB (tn : List Str) (cp : List (Nat × Str)) (σ : St) : St := List.replicate tn.length none ++ cp.map fun p => (σ[p.1]?).getD none

/-- what must be known of the comprehension's scope in X -/
structure CompOk (X : Cx) (scope : Scope) (cp : List (Nat × Str)) : Prop where
  kind : scope.kind = .function
  nocell : ∀ y ∈ scope.names, y.2 ≠ .cell
  names : ∀ y ∈ scope.names, y.2 = .local → scope.names.lookup y.1 = some .local
  free : ∀ y ∈ scope.names, y.2 = .free → X.env.kindOf y.1 = some .cell ∨ X.env.kindOf y.1 = some .free
  cap : ∀ p ∈ cp, X.N[p.1]? = some p.2 ∧ scope.names.lookup p.2 = some .free

section
variable {X : Cx} {pins : List (Addr × Obj)} {σ : St} {H : Hp} {s : Shared} {scope : Scope} {tn : List Str} {cp : List (Nat × Str)} {cl : List (Str × Addr)} {fp : List Addr}

theorem mem_of_lookup' {α : Type} : ∀ {l : List (Str × α)} {x : Str} {v : α}, l.lookup x = some v → (x, v) ∈ l
  | [], _, _, h => by simp at h
  | (n, k) :: r, x, v, h => by
    rw [List.lookup_cons] at h
    cases hx : x == n with
    | true =>
      rw [hx] at h
      have e : x = n := by simpa using hx
      have e2 : k = v := Option.some.inj h
      subst e e2
      exact List.mem_cons_self
    | false => rw [hx] at h; exact List.mem_cons_of_mem _ (mem_of_lookup' h)

/-- the block at its start -/
theorem block_start {h₁ : Heap} {t' : Nat} {m0 : Str → Option Value} (I : Inv X pins σ H s) (O : CompOk X scope cp) (hcl1 : ∀ x c, cl.lookup x = some c → X.env.cells.lookup x = some c) (hcl2 : ∀ p ∈ scope.names, p.2 = .free → ∃ c, cl.lookup p.1 = some c)
    (hf : ∀ b ∈ fp, FpOk X pins H b ∧ b < s.heap.objs.size) (hns : h₁.Ns s.heap.objs.size m0) (hk : ∀ b o, s.heap.get? b = some o → h₁.get? b = some o) :
    Inv (cxB X scope tn cp cl s.heap.objs.size s H fp) [] (stB tn cp σ) H { s with heap := h₁, toks := t' } := by
  have ok : (cxB X scope tn cp cl s.heap.objs.size s H fp).Ok := by
    refine ⟨I.ok.mod, O.kind, I.ok.glob, I.ok.blt, Nat.le_refl _, fun x y c e1 e2 => I.ok.inj x y c (hcl1 x c e1) (hcl1 y c e2), fun x hx => ?_, fun x c hx => (by cases hx), I.ok.hd, I.ok.frames, .inl rfl, fun b hb => ⟨Nat.ne_of_lt (hf b hb).2, fun x c e => ?_⟩,
      fun b o e => I.bs b o e, Nat.le_trans I.ok.bsz I.sz, fun b o e hb => ?_, fun b hb hb' => ?_, I.stack, I.stkFree⟩
    · exact hcl2 (x, .free) (relabel_free O.nocell hx) rfl
    · exact (hf b hb).1.2.2.2.2.1 x c (hcl1 x c e)
    · rcases (hf b hb).1.2.2.2.1 with z | z
      · exact I.ok.noex b o e z
      · exact absurd (Nat.lt_of_lt_of_le (Heap.lt_size e) (Nat.le_trans I.ok.bsz z)) (Nat.lt_irrefl _)
    · rcases List.mem_cons.mp (I.stkSub b hb') with z | z
      · exact (hf b hb).1.2.1 z
      · exact (hf b hb).1.2.2.1 z
  refine ⟨ok, rfl, I.bare, Un.kept hk, ⟨m0, hns, fun i x v e1 e2 e3 => ?_⟩, fun x c e => ?_, I.hok.fresh (Nat.le_refl _), fun x c e => I.freeC x c (hcl1 x c e), fun p hp => by simp [cxB] at hp, I.hok.kept hk, ?_⟩
  · -- a captured name
    have e1' : (tn ++ cp.map (·.2))[i]? = some x := e1
    have e2' : (List.replicate tn.length none ++ cp.map fun p => (σ[p.1]?).getD none)[i]? = some (some v) := e2
    by_cases hi : i < tn.length
    · rw [List.getElem?_append_left (by simpa using hi)] at e2'
      rw [List.getElem?_replicate, if_pos hi] at e2'
      cases e2'
    · rw [List.getElem?_append_right (by simpa using Nat.le_of_not_lt hi), List.length_replicate, List.getElem?_map] at e2'
      rw [List.getElem?_append_right (Nat.le_of_not_lt hi), List.getElem?_map] at e1'
      cases hp : cp[i - tn.length]? with
      | none => rw [hp] at e1'; cases e1'
      | some p =>
        rw [hp] at e1' e2'
        have e1'' : p.2 = x := Option.some.inj e1'
        have e2'' : (σ[p.1]?).getD none = some v := Option.some.inj e2'
        obtain ⟨c1, c2⟩ := O.cap p (List.mem_of_getElem? hp)
        rw [e1''] at c1 c2
        have hs : σ[p.1]? = some (some v) := by
          cases q : σ[p.1]? with
          | none => rw [q] at e2''; cases e2''
          | some z => rw [q] at e2''; exact congrArg some e2''
        have hk' := O.free (x, .free) (mem_of_lookup' c2) rfl
        have hvis : Vis X.env.scope x := by
          rcases hk' with z | z
          · exact .inr (.inl z)
          · exact .inr (.inr z)
        obtain ⟨m, hn, hl⟩ := I.loc
        obtain ⟨u, r, l⟩ := hl p.1 x v c1 hs hvis
        refine ⟨u, r, .inr ?_⟩
        rcases l with ⟨z, _⟩ | ⟨_, c, hc, o, ho, hd⟩
        · rcases hk' with y | y <;> (rw [z] at y; cases y)
        · obtain ⟨c', hc'⟩ := hcl2 (x, .free) (mem_of_lookup' c2) rfl
          have : c' = c := Option.some.inj ((hcl1 x c' hc').symm.trans hc)
          subst this
          exact ⟨relabel_kind c2, c', hc', o, hk c' o ho, hd⟩
  · obtain ⟨v, o, ho, hd⟩ := I.cell x c (hcl1 x c e)
    exact ⟨v, o, hk c o ho, hd⟩
  · show (stB tn cp σ).length = (tn ++ cp.map (·.2)).length
    unfold stB
    simp

/-- back from the block -/
theorem block_end {σ' : St} {H' : Hp} {s' : Shared} {h' : Heap} {pinsB : List (Addr × Obj)} (I : Inv X pins σ H s) (hf : ∀ b ∈ fp, FpOk X pins H b)
    (J : Inv (cxB X scope tn cp cl s.heap.objs.size s H fp) pinsB σ' H' s') (hs : Heap.SameBut s.heap.objs.size s'.heap h') : Inv X pins σ H' { s' with heap := h' } := by
  have ne : ∀ b o, s.heap.get? b = some o → b ≠ s.heap.objs.size := fun b o e => Nat.ne_of_lt (Heap.lt_size e)
  have U : Un (frs X.stack) fp H H' s.heap h' := by
    have u : Un (frs X.stack) fp H H' s.heap s'.heap := J.base
    refine ⟨fun b o e n h1 h2 => (hs.2 b (ne b o e)).trans (u.keep b o e n h1 h2), fun b o e n h1 h2 => ?_, u.free, fun b o e h2 => ?_, u.tups, u.frzs, u.tbls⟩
    · obtain ⟨sl, q⟩ := u.slot b o e n h1 h2
      exact ⟨sl, (hs.2 b (ne b o e)).trans q⟩
    · obtain ⟨o', q⟩ := u.there b o e h2
      exact ⟨o', (hs.2 b (ne b o e)).trans q⟩
  have fr : H' s.heap.objs.size = none := J.free
  have hok : HOk X.prog X.w H' h' := fun b ob e => by
    refine (J.hok b ob e).stay (fun c v hc q => (hs.2 c ?_).trans q) (fun _ q => q) (fun _ _ _ _ _ q => q) fun _ _ q => q
    rintro rfl
    rcases hc with z | z
    · rw [← z, fr] at e; cases e
    · rw [fr] at z; cases z
  refine I.call' (s' := { s' with heap := h' }) (ch := fp) J.os U hok J.bare fun b hb => ?_
  obtain ⟨_, f1, _, f3, f4, f5⟩ := hf b hb
  exact ⟨f3, f1, f4, f5⟩
end

/-! ### the tests of a comprehension -/
def PIfs (X : Cx) (ifs : List Expr) (t : TT) : Prop :=
  ∀ (pins : List (Addr × Obj)) (s : Shared) (σ : St) (H : Hp) (Q : Bool → Hp → Prop), Inv X pins σ H s → t σ H Q →
    wpAny (model X.prog X.w) X.A (forIn ifs true fun c r => if r = true then do let ok ← isTrue c X.env (eval c X.env); pure (ForInStep.yield ok) else pure (ForInStep.yield r)) (TP X pins σ Q) X.xe s
def tYes : TT := fun _ H Q => Q true H
theorem pf_nil {X : Cx} : PIfs X [] tYes := fun _ _ _ H _ I h => wpAny_tests_nil ⟨H, I, h⟩
/-! ### the loop -/
theorem compLoop_own {prog : Program} {w : World} {A : Around} {R : Result → Shared → Prop} {s : Shared} {elt target iter : Expr} {ifs : List Expr} {scope : Scope} {pos : Pos} {it acc : Value} {env : Env} (I : Nat → Shared → Prop)
    (turn : ∀ n s, I n s → wpAny (model prog w) A (pyNext it) (fun r s₁ => match r with
      | none => R (.ok .next) s₁
      | some v => wpAny (model prog w) A (letOwnedTupleGo target it v) (fun _ s₂ => wpAny (model prog w) A (assign target env v) (fun _ s₃ =>
          wpAny (model prog w) A (forIn ifs true fun c r => if r = true then do let ok ← isTrue c env (eval c env); pure (ForInStep.yield ok) else pure (ForInStep.yield r)) (fun ok s₄ =>
            if ok = true then wpAny (model prog w) A (eval elt env) (fun x s₅ =>
              wpAny (model prog w) A (call (.builtin "list.append") [acc, x]) (fun _ s₆ => ∃ m, m < n ∧ I m s₆) (fun _ _ => False) s₅) (fun _ _ => False) s₄
            else ∃ m, m < n ∧ I m s₄) (fun _ _ => False) s₃) (fun _ _ => False) s₂) (fun _ _ => False) s₁) (fun _ _ => False) s)
    (n : Nat) (h : I n s) :
    codeAny (model prog w) A (.compLoop (.ListComp elt [⟨target, iter, ifs, 0⟩] scope pos) 0 it acc env) R s := by
  refine codeAny_loop rfl I (fun n s hI => ?_) n h
  show wpAny _ A ((compTurn (.ListComp elt [⟨target, iter, ifs, 0⟩] scope pos) 0 it acc env).onRaise (fun x => do noteFrame x env; theTreesLotGoes x)) _ _ s
  refine wpAny_noted ?_
  rw [compTurn_list]
  refine wpAny_bind (wpAny_standAt (wpAny_bind (wpAny_mono (turn n s hI) (fun r s₁ h₁ => ?_) fun _ _ f => f.elim)))
  cases r with
  | none => exact wpAny_pure h₁
  | some v =>
    refine wpAny_bind (wpAny_mono h₁ (fun _ s₂ h₂ => ?_) fun _ _ f => f.elim)
    refine wpAny_bind (wpAny_mono h₂ (fun _ s₃ h₃ => wpAny_bind (wpAny_mono h₃ (fun ok s₄ h₄ => ?_) fun _ _ f => f.elim)) fun _ _ f => f.elim)
    cases ok with
    | false => exact wpAny_pure ⟨rfl, h₄⟩
    | true =>
      exact wpAny_bind (wpAny_bind (wpAny_mono h₄ (fun x s₅ h₅ => wpAny_bind (wpAny_mono h₅ (fun _ s₆ h₆ => wpAny_pure (wpAny_pure ⟨rfl, h₆⟩)) fun _ _ f => f.elim)) fun _ _ f => f.elim))

/-! ### the rule -/
/-- [e for g in it if t]: D the new list; W the invariant by the turn and a measure -/
def tComp (tn : List Str) (cp : List (Nat × Str)) (wi : TI) (g : TG) (tif : TT) (te : TE) : TE := fun σ H Q => wi σ H fun J H1 => ∀ D, H1 D = none → ∃ W : Nat → Nat → St → Hp → Prop,
  (∃ m, W 0 m (stB tn cp σ) (upd H1 D (.lst []))) ∧ ∀ i m σb Hb, W i m σb Hb →
    (J.stop i Hb ∧ Q (.ref D) Hb) ∨ (J.go i Hb ∧ ∀ x H', J.yld i Hb x H' → g x σb H' fun σ2 H2 => tif σ2 H2 fun c H3 =>
      if c = true then te σ2 H3 fun y H4 => ∃ ys, H4 D = some (.lst ys) ∧ ys.length < sizeLine ∧ ∃ m', m' < m ∧ W (i + 1) m' σ2 (upd H4 D (.lst (ys ++ [y])))
      else ∃ m', m' < m ∧ W (i + 1) m' σ2 H3)

/-- the whole of it: fin is what is asked when the last item is taken -/
theorem lcomp_core {X : Cx} {elt tg iter : Expr} {ifs : List Expr} {scope : Scope} {pos cpos : Pos} {wi : TI} {g : TG} {tif : TT} {te : TE} (tn : List Str) (cp : List (Nat × Str)) (O : CompOk X scope cp) (hc : X.calm = true) (hi : PI X tg iter wi)
    (hg : ∀ cl C s H fp, PG (cxB X scope tn cp cl C s H fp) tg g) (hif : ∀ cl C s H fp, PIfs (cxB X scope tn cp cl C s H fp) ifs tif) (he : ∀ cl C s H fp, PE (cxB X scope tn cp cl C s H fp) elt te)
    (hs : ∀ x, foldedSetIterable iter X.env x = pure x) {pins : List (Addr × Obj)} {s : Shared} {σ : St} {H : Hp} {Q : VK} {R : Value → Shared → Prop} {use : Option (Value → Sem Unit)} (I : Inv X pins σ H s) (h : tComp tn cp wi g tif te σ H Q)
    (fin : ∀ (D C : Addr) (H5 : Hp) (s5 : Shared) (m : Str → Option Value), Inv X pins σ H5 s5 → FpOk X pins H5 C → s5.heap.Ns C m → Q (.ref D) H5 → compPost (model X.prog X.w) X.A X.xe use R (.ref D) C (.ok .next) s5) :
    wpAny (model X.prog X.w) X.A (comprehension (.ListComp elt [⟨tg, iter, ifs, 0⟩] scope pos) scope X.env cpos (newList []) false (eval iter X.env) use) R X.xe s := by
  obtain ⟨cl, hcl, hcl1, hcl2⟩ := closure_of (scope := scope) (env := X.env) fun p hp hf => I.ok.has p.1 (O.free p hp hf)
  refine wpAny_comprehension_free (use := use) rfl hs hcl O.kind O.names (thn (hi pins s σ H _ I h) fun v s1 h1 => thn h1 fun itv s2 h2 => ?_)
  obtain ⟨it, fp, tn', J, H2, rfl, I2, T, st2, f2, rest⟩ := h2
  refine wpAny_newObj_type ?_
  have I3 : Inv X pins σ (upd H2 s2.heap.objs.size (.lst [])) { s2 with heap := s2.heap.push { cls := .type "list", data := .seq ([] : List Value).toArray } } := I2.lnew (its := []) (t' := s2.toks) .nil (Nat.zero_le _)
  obtain ⟨W, ⟨m0, w0⟩, turn⟩ := rest s2.heap.objs.size I2.fresh
  have fpl : ∀ b ∈ fp, b < s2.heap.objs.size := fun b hb => by
    obtain ⟨o, e, _⟩ := T.obj _ _ st2 b hb
    exact Heap.lt_size e
  have f3 : ∀ b ∈ fp, FpOk X pins (upd H2 s2.heap.objs.size (.lst [])) b := fun b hb => ⟨by rw [upd_ne (Nat.ne_of_lt (fpl b hb))]; exact (f2 b hb).1, (f2 b hb).2⟩
  have sz3 : (s2.heap.push { cls := .type "list", data := .seq ([] : List Value).toArray }).objs.size = s2.heap.objs.size + 1 := Heap.size_push ..
  refine wpAny_newFunctionEnv O.nocell (by intro y hy; simp at hy) (fun h₁ hns hsb => ?_) O.kind
  have hk1 : ∀ b o, (s2.heap.push { cls := .type "list", data := .seq ([] : List Value).toArray }).get? b = some o → h₁.get? b = some o := fun b o e =>
    hsb.extBut b o (Nat.ne_of_lt (Heap.lt_size e)) (Heap.get?_push_of_some _ e)
  have J3 := block_start (tn := tn) (cp := cp) (t' := s2.toks + ([] : List (Str × Value)).length) I3 O hcl1 hcl2 (fun b hb => ⟨f3 b hb, by rw [sz3]; exact Nat.lt_succ_of_lt (fpl b hb)⟩) hns hk1
  have st3 : tn' 0 h₁ := T.keep _ _ _ st2 fun b hb o e => hk1 b o (Heap.get?_push_of_some _ e)
  show codeAny _ _ (.compStart _ 0 (.ref it) (.ref s2.heap.objs.size) (compEnvC scope cl (s2.heap.push { cls := .type "list", data := .seq ([] : List Value).toArray }).objs.size X.env)) _ _
  generalize hXB : cxB X scope tn cp cl (s2.heap.push { cls := .type "list", data := .seq ([] : List Value).toArray }).objs.size { s2 with heap := s2.heap.push { cls := .type "list", data := .seq ([] : List Value).toArray } } (upd H2 s2.heap.objs.size (.lst [])) fp = XB at J3
  have hprog : XB.prog = X.prog := by rw [← hXB]; rfl
  have hw : XB.w = X.w := by rw [← hXB]; rfl
  have hK : XB.K = X.K := by rw [← hXB]; rfl
  have hA : XB.A = X.A := by rw [← hXB]; rfl
  have henv : XB.env = compEnvC scope cl (s2.heap.push { cls := .type "list", data := .seq ([] : List Value).toArray }).objs.size X.env := by rw [← hXB]; rfl
  have hcalm : XB.calm = true := by rw [← hXB]; exact hc
  have hxe : XB.xe = fun _ _ => False := by rw [← hXB]; rfl
  have hgB : PG XB tg g := by rw [← hXB]; exact hg _ _ _ _ _
  have hifB : PIfs XB ifs tif := by rw [← hXB]; exact hif _ _ _ _ _
  have heB : PE XB elt te := by rw [← hXB]; exact he _ _ _ _ _
  have fB : ∀ (pb : List (Addr × Obj)) (Hb : Hp), (∀ b ∈ fp, Hb b = none) → (∀ b ∈ fp, ∀ p ∈ XB.pn ++ pb, p.1 ≠ b) → ∀ b ∈ fp, FpOk XB pb Hb b := fun pb Hb hn hp b hb => by
    refine ⟨hn b hb, ?_, ?_, .inl (by rw [← hXB]; exact hb), fun x c e => ?_, hp b hb⟩
    · rw [henv]; show b ≠ (s2.heap.push { cls := .type "list", data := .seq ([] : List Value).toArray }).objs.size
      rw [sz3]; exact Nat.ne_of_lt (Nat.lt_succ_of_lt (fpl b hb))
    · rw [← hXB]
      show b ∉ frs X.stack
      intro z
      rcases List.mem_cons.mp (I2.stkSub b z) with y | y
      · exact (f2 b hb).2.1 y
      · exact (f2 b hb).2.2.1 y
    · rw [henv] at e
      exact (f2 b hb).2.2.2.2.1 x c (hcl1 x c e)
  have pn0 : XB.pn = [] := by rw [← hXB]; rfl
  have loop : ∀ s₃ : Shared, s₃ = { s2 with heap := h₁, toks := s2.toks + ([] : List (Str × Value)).length } →
      codeAny (model X.prog X.w) X.A (.compLoop (.ListComp elt [⟨tg, iter, ifs, 0⟩] scope pos) 0 (.ref it) (.ref s2.heap.objs.size) XB.env)
        (compPost (model X.prog X.w) X.A X.xe use R (.ref s2.heap.objs.size) (s2.heap.push { cls := .type "list", data := .seq ([] : List Value).toArray }).objs.size) s₃ := by
    rintro s₃ rfl
    refine compLoop_own (fun n s' => ∃ i σb Hb, Inv XB [] σb Hb s' ∧ tn' i s'.heap ∧ (∀ b ∈ fp, Hb b = none) ∧ W i n σb Hb) ?_ m0 ⟨0, stB tn cp σ, _, J3, st3, fun b hb => (f3 b hb).1, w0⟩
    rintro n s4 ⟨i, σ4, H4, I4, st4, fr4, w4⟩
    rcases turn i n σ4 H4 w4 with ⟨stop, qn⟩ | ⟨go, step⟩
    · have d := T.done XB hprog hw hK hcalm i [] s4 σ4 H4 (fun _ _ => False) I4 (fB [] H4 fr4 (fun b hb p hp => by rw [pn0] at hp; simp at hp)) st4 stop
      rw [hA] at d
      refine thn d fun r s5 ⟨hr, I5⟩ => ?_
      subst hr
      obtain ⟨mm, hn5, _⟩ := id I5.loc
      have fr5 : H4 (s2.heap.push { cls := .type "list", data := .seq ([] : List Value).toArray }).objs.size = none := by
        have z := I5.free
        rw [henv] at z
        exact z
      have J5 : Inv X pins σ H4 s5 := by
        rw [← hXB] at I5
        exact block_end (h' := s5.heap) I3 f3 I5 ⟨rfl, fun _ _ => rfl⟩
      exact fin _ _ H4 s5 mm J5 (I3.fpOk (Nat.le_refl _) fr5) (by rw [henv] at hn5; exact hn5) qn
    · have d := T.item XB hprog hw hK hcalm i [] s4 σ4 H4 (fun _ _ => False) I4 (fB [] H4 fr4 (fun b hb p hp => by rw [pn0] at hp; simp at hp)) st4 go
      rw [hA] at d
      refine thn d fun r s5 ⟨u, hr, h5⟩ => ?_
      subst hr
      refine thn h5 fun _ s6 ⟨x, H6, I6, r6, y6, st6, fr6⟩ => ?_
      have I6' := I6.pinned (fB [] H6 fr6 (fun b hb p hp => by rw [pn0] at hp; simp at hp)) (T.obj _ _ st6)
      have q6 := step x H6 y6
      have a1 := hgB _ s6 σ4 H6 x u _ I6' r6 q6
      rw [hxe, hprog, hw, hA] at a1
      refine thn a1 fun _ s7 ⟨σ7, H7, I7, q7⟩ => ?_
      have a2 := hifB _ s7 σ7 H7 _ I7 q7
      rw [hxe, hprog, hw, hA] at a2
      refine thn a2 fun ok s8 ⟨H8, I8, q8⟩ => ?_
      have again : ∀ {σ9 : St} {H9 : Hp} {s9 : Shared}, Inv XB ([] ++ pinsAt fp s6.heap) σ9 H9 s9 → (∃ m', m' < n ∧ W (i + 1) m' σ9 H9) → ∃ m, m < n ∧ ∃ i σb Hb, Inv XB [] σb Hb s9 ∧ tn' i s9.heap ∧ (∀ b ∈ fp, Hb b = none) ∧ W i m σb Hb := fun {σ9 H9 s9} I9 n9 => by
        obtain ⟨m', hm, w9⟩ := n9
        refine ⟨m', hm, i + 1, σ9, H9, I9.unpinned, T.keep _ _ _ st6 fun b hb o e => (I9.pin (b, o) (List.mem_append_right _ (List.mem_append_right _ (mem_pinsAt hb e)))).1, fun b hb => ?_, w9⟩
        obtain ⟨o, e, d⟩ := T.obj _ _ st6 b hb
        exact (I9.pin (b, o) (List.mem_append_right _ (List.mem_append_right _ (mem_pinsAt hb e)))).2.1
      cases ok with
      | false => exact again I8 q8
      | true =>
        show wpAny _ _ _ _ _ _
        have a3 := heB _ s8 σ7 H8 _ I8 q8
        rw [hxe, hprog, hw, hA] at a3
        refine thn a3 fun yv s9 ⟨y, H9, I9, r9, ys, hD, hlen, n9⟩ => ?_
        have a4 := mt_append (X := XB) _ s9 σ7 H9 (.ref s2.heap.objs.size) [y] (.ref s2.heap.objs.size) [yv] (fun _ H' => ∃ m', m' < n ∧ W (i + 1) m' σ7 H') I9 rfl (.cons r9 .nil) ⟨_, ys, y, rfl, rfl, hD, hlen, n9⟩
        rw [hxe, hprog, hw, hA] at a4
        exact thn a4 fun _ s10 ⟨_, H10, I10, _, q10⟩ => again I10 q10
  rw [henv] at loop
  refine codeAny_compStart_list (loop _ rfl) (T.self _ 0 _ _ _ st3 (loop _ rfl))

theorem pe_lcomp {X : Cx} {elt tg iter : Expr} {ifs : List Expr} {scope : Scope} {pos : Pos} {wi : TI} {g : TG} {tif : TT} {te : TE} (tn : List Str) (cp : List (Nat × Str)) (O : CompOk X scope cp) (hc : X.calm = true) (hi : PI X tg iter wi)
    (hg : ∀ cl C s H fp, PG (cxB X scope tn cp cl C s H fp) tg g) (hif : ∀ cl C s H fp, PIfs (cxB X scope tn cp cl C s H fp) ifs tif) (he : ∀ cl C s H fp, PE (cxB X scope tn cp cl C s H fp) elt te)
    (hs : ∀ x, foldedSetIterable iter X.env x = pure x := by intro _; rfl) :
    PE X (.ListComp elt [⟨tg, iter, ifs, 0⟩] scope pos) (tComp tn cp wi g tif te) := by
  intro pins s σ H Q I h
  rw [eval_ListComp]
  refine lcomp_core tn cp O hc hi hg hif he hs I h fun D C H5 s5 m I5 f5 n5 q5 => ⟨m, n5, fun h' hs' => ⟨.ref D, H5, ?_, rfl, q5⟩⟩
  obtain ⟨f0, f1, f2, f3, f4, f5⟩ := f5
  exact I5.turned (t' := s5.toks) (fun b o hb e => (hs'.2 b hb).trans e) f0 f1 f3 f4 f5
/-- name = [.. for ..], the name a plain local: stored ahead of the block's end -/
theorem ps_setC {X : Cx} {i : Nat} {x : Str} {elt tg iter : Expr} {ifs : List Expr} {scope : Scope} {pos pos' spos : Pos} {wi : TI} {g : TG} {tif : TT} {te : TE} (hN : X.N.Nodup) (hx : X.N[i]? = some x) (hl : Loc X.env.scope x) (tn : List Str) (cp : List (Nat × Str)) (O : CompOk X scope cp) (hc : X.calm = true) (hi : PI X tg iter wi)
    (hg : ∀ cl C s H fp, PG (cxB X scope tn cp cl C s H fp) tg g) (hif : ∀ cl C s H fp, PIfs (cxB X scope tn cp cl C s H fp) ifs tif) (he : ∀ cl C s H fp, PE (cxB X scope tn cp cl C s H fp) elt te)
    (hsw : swapsWith (.ListComp elt [⟨tg, iter, ifs, 0⟩] scope pos) (some (.Name x pos')) spos.line X.env = pure true := by rfl) (hs : ∀ x, foldedSetIterable iter X.env x = pure x := by intro _; rfl)
    (hf : X.fn x = true ∨ X.env.scope.names.lookup x = some .local := by first | exact .inl rfl | exact .inr rfl | assumption) :
    PS X (.Assign [.Name x pos'] (.ListComp elt [⟨tg, iter, ifs, 0⟩] scope pos) spos) (tAsg (tComp tn cp wi g tif te) (gName i)) := by
  intro pins s σ H D I h
  rw [exec_Assign_Name_used _ _ _ _ hsw]
  refine wpAny_bind (wpAny_standAt (wpAny_bind ?_))
  show wpAny _ X.A (do let _ ← comprehension (.ListComp elt [⟨tg, iter, ifs, 0⟩] scope pos) scope X.env _ (newList []) false (eval iter X.env) (some (assign (.Name x pos') X.env))) _ _ s
  refine wpAny_bind (wpAny_mono (lcomp_core tn cp O hc hi hg hif he hs (R := fun _ s' => SP X pins D .next s') I h fun E C H5 s5 m I5 f5 n5 q5 => ?_) (fun _ _ q => wpAny_pure (wpAny_pure q)) fun _ _ e => e)
  obtain ⟨f0, f1, f2, f3, f4, f5⟩ := f5
  show wpAny _ X.A (assign (.Name x pos') X.env (.ref E)) _ _ _
  refine wpAny_assign_Name (store_ok2 I5 hN hx hl (v := .ref E) rfl (fun s6 I6 ⟨a, sb, ha⟩ => ?_) hf)
  have ne : C ≠ a := by
    rcases ha with e | e
    · rw [e]; exact f1
    · exact fun z => f4 x a e z.symm
  refine ⟨m, n5.sameBut sb ne, fun h' hs' => ⟨_, H5, I6.turned (t' := s6.toks) (fun b o hb e => (hs'.2 b hb).trans e) f0 f1 f3 f4 f5, q5⟩⟩
end L2

set_option Elab.async false
set_option linter.all false
set_option maxRecDepth 100000
/-! TEXTS, isinstance, all, any, == of lists, over the hand layer -/
namespace L2
open PySem PySem.Spec PyProof.Rows

/-! ### the signs of a text -/
/-! ### slices of a text -/
/-! ### isinstance(x, T), T a built-in type -/
/-! ### all, any, sum -/
section
open PyProof.Rows.LSm
theorem call_sum_int {X : Cx} (hc : X.calm = true) : CallR X (.builtin "sum") (fun xs H Q => ∃ (p : Addr) (ns : List Int), xs = [.ref p] ∧ SqL X.K H p (ns.map V.int) ∧ Q (.int ns.sum) H) := by
  intro pins s σ H xs us Q I r h
  obtain ⟨p, ns, rfl, hx, q⟩ := h
  obtain ⟨u, rfl, rx⟩ := vals1 r
  cases (show u = Value.ref p from rx)
  obtain ⟨vs, rv, pl, hz⟩ := I.list hx
  have hi := intsAre_of rv
  obtain ⟨ys, hy⟩ := hi.allInts.items
  have hl' : s.heap.IsList p (intItems ys) := hy ▸ pl.isList
  refine sum_intListG (I.ok.hd hc) hl' fun h' tk t' hk => ?_
  have e1 : ns = ys.toList.map (·.1) := by
    rw [← nums_intItems, ← hy]
    exact (show numsOf vs.toArray.toList = ns from hi.numsOf).symm
  have e2 : preSum (numAt ys) ys.size = ns.sum := by
    rw [preSum_eq, List.take_of_length_le (by simp), e1]
  rw [e2]
  exact ⟨.int _, H, I.kept hk, ⟨_, rfl⟩, q⟩
end

/-! ### zfill -/
/-! ### == of lists and tuples -/
/-- x == y is b, asked within a comparison of items (the same object is equal) -/
def EqOk (X : Cx) (k : Nat) (H : Hp) (x y : V) (b : Bool) : Prop := ∀ (pins : List (Addr × Obj)) (σ : St) (s : Shared) (A : Around) (u v : Value), A.units + k < cLine → Inv X pins σ H s → RelV x u → RelV y v → SeqAt.EqAt A s u v b
/-- x == y, asked by the operator -/
def RcOk (X : Cx) (k : Nat) (H : Hp) (x y : V) (b : Bool) : Prop := ∀ (pins : List (Addr × Obj)) (σ : St) (s : Shared) (A : Around) (u v : Value), A.units + k < cLine → Inv X pins σ H s → RelV x u → RelV y v → SeqAt.RcAt A s u v b
section
variable {X : Cx} {k : Nat} {H : Hp} {x y : V} {a b : Addr} {xs ys : List V}
theorem eqok_flat (fx : flatV x = true) (fy : flatV y = true) : EqOk X k H x y (eqV x y) := fun _ _ _ _ _ _ _ _ rx ry => eqAt_V rx ry fx fy
theorem eqok_same : EqOk X k H (.ref a) (.ref a) true := fun _ _ _ _ u v _ _ rx ry => by
  cases (show u = Value.ref a from rx)
  cases (show v = Value.ref a from ry)
  exact SeqAt.EqAt.same _
theorem EqOk.of_rc (hne : a ≠ b) {c : Bool} (h : RcOk X k H (.ref a) (.ref b) c) : EqOk X k H (.ref a) (.ref b) c := fun pins σ s A u v hu I rx ry => by
  cases (show u = Value.ref a from rx)
  cases (show v = Value.ref b from ry)
  exact SeqAt.EqAt.of_refs hne (h pins σ s A _ _ hu I rfl rfl)
theorem Vals.at {xs : List V} {us : List Value} (r : Vals xs us) {j : Nat} (h : j < us.length) : ∃ (h' : j < xs.length), RelV xs[j] us[j] := by
  have hl := r.length
  have h' : j < xs.length := by omega
  obtain ⟨u, e, q⟩ := r.get (i := j) (x := xs[j]) (by simp [h'])
  rw [List.getElem?_eq_getElem h] at e
  cases e
  exact ⟨h', q⟩
/-- two lists of the same length, item by item -/
theorem rcok_lists (hx : SqL X.K H a xs) (hy : SqL X.K H b ys) (hl : xs.length = ys.length) (e : Nat → Bool) (he : ∀ j (h1 : j < xs.length) (h2 : j < ys.length), EqOk X k H xs[j] ys[j] (e j)) :
    RcOk X (k + 1) H (.ref a) (.ref b) ((List.range xs.length).all e) := fun pins σ s A u v hu I rx ry => by
  cases (show u = Value.ref a from rx)
  cases (show v = Value.ref b from ry)
  obtain ⟨us, r1, p1, _⟩ := I.list hx
  obtain ⟨vs, r2, p2, _⟩ := I.list hy
  have l1 := r1.length
  have l2 := r2.length
  have q := SeqAt.RcAt.lists (A := A) (e := e) p1.isList p2.isList (by rw [List.size_toArray, List.size_toArray]; omega) (by omega) fun j h1 h2 => by
    rw [List.size_toArray] at h1 h2
    obtain ⟨g1, q1⟩ := r1.at h1
    obtain ⟨g2, q2⟩ := r2.at h2
    exact he j g1 g2 pins σ s A.in1 _ _ (by show A.units + 1 + k < cLine; omega) I (by simpa using q1) (by simpa using q2)
  rw [List.size_toArray, ← l1] at q
  exact q
theorem rcok_lens (hx : SqL X.K H a xs) (hy : SqL X.K H b ys) (hl : xs.length ≠ ys.length) : RcOk X k H (.ref a) (.ref b) false := fun pins σ s A u v hu I rx ry => by
  cases (show u = Value.ref a from rx)
  cases (show v = Value.ref b from ry)
  obtain ⟨us, r1, p1, _⟩ := I.list hx
  obtain ⟨vs, r2, p2, _⟩ := I.list hy
  have l1 := r1.length
  have l2 := r2.length
  exact SeqAt.RcAt.lists_lengths p1.isList p2.isList (by rw [List.size_toArray, List.size_toArray]; simp; omega) (by omega)
theorem rcok_tups (hx : SqT X.K H a xs) (hy : SqT X.K H b ys) (e : Nat → Bool) (he : ∀ j (h1 : j < xs.length) (h2 : j < ys.length), EqOk X k H xs[j] ys[j] (e j)) :
    RcOk X (k + 1) H (.ref a) (.ref b) ((List.range (min xs.length ys.length)).all e && xs.length == ys.length) := fun pins σ s A u v hu I rx ry => by
  cases (show u = Value.ref a from rx)
  cases (show v = Value.ref b from ry)
  obtain ⟨us, r1, p1, _⟩ := I.tuple hx
  obtain ⟨vs, r2, p2, _⟩ := I.tuple hy
  have l1 := r1.length
  have l2 := r2.length
  have q := SeqAt.RcAt.tuples (A := A) (e := e) p1 p2 (by omega) fun j h1 h2 => by
    rw [List.size_toArray] at h1 h2
    obtain ⟨g1, q1⟩ := r1.at h1
    obtain ⟨g2, q2⟩ := r2.at h2
    exact he j g1 g2 pins σ s A.in1 _ _ (by show A.units + 1 + k < cLine; omega) I (by simpa using q1) (by simpa using q2)
  rw [List.size_toArray, List.size_toArray, ← l1, ← l2] at q
  exact q
/-- two lists of flat values -/
theorem rcok_flats (hx : SqL X.K H a xs) (hy : SqL X.K H b ys) (fx : xs.all flatV = true) (fy : ys.all flatV = true) :
    RcOk X 1 H (.ref a) (.ref b) (xs.length == ys.length && (List.range xs.length).all fun j => eqV (xs.getD j .non) (ys.getD j .non)) := by
  by_cases hl : xs.length = ys.length
  · have q := rcok_lists (k := 0) hx hy hl (fun j => eqV (xs.getD j .non) (ys.getD j .non)) fun j h1 h2 => by
      have e1 : xs.getD j .non = xs[j] := by simp [List.getD, h1]
      have e2 : ys.getD j .non = ys[j] := by simp [List.getD, h2]
      rw [e1, e2]
      exact eqok_flat (List.all_eq_true.mp fx _ (List.getElem_mem h1)) (List.all_eq_true.mp fy _ (List.getElem_mem h2))
    rw [show (xs.length == ys.length) = true by simp [hl], Bool.true_and]
    exact q
  · rw [show (xs.length == ys.length) = false by simp [hl], Bool.false_and]
    exact rcok_lens hx hy hl
end
/-- x == y of two lists (tuples), by RcOk -/
def rEqD (X : Cx) (k : Nat) : R2 := fun x y H Q => ∃ c, RcOk X k H x y c ∧ Q (.bl c) H
theorem op_eqD {X : Cx} {k : Nat} (hu : X.A.units + k < cLine) : OpR X (compareOp .Eq) (rEqD X k) := by
  intro pins s σ H x y v u Q I rx ry h
  obtain ⟨c, r, q⟩ := h
  exact r pins σ s X.A v u hu I rx ry _ _ _ _ ⟨.bl c, H, I, rfl, q⟩

/-! ### comprehensions, the forms one uses -/
def CW (D : Addr) (n : Nat) (Pv : Nat → List V → St → Hp → Prop) (i m : Nat) (σ : St) (H : Hp) : Prop := m = n - i ∧ i ≤ n ∧ ∃ ys, H D = some (.lst ys) ∧ ys.length ≤ i ∧ Pv i ys σ H
def CStep (D : Addr) (n i : Nat) (Pv : Nat → List V → St → Hp → Prop) (σ2 : St) (y : V) (H4 : Hp) : Prop :=
  ∃ ys, H4 D = some (.lst ys) ∧ ys.length < sizeLine ∧ ∃ m', m' < n - i ∧ CW D n Pv (i + 1) m' σ2 (upd H4 D (.lst (ys ++ [y])))
def CSkip (D : Addr) (n i : Nat) (Pv : Nat → List V → St → Hp → Prop) (σ2 : St) (H3 : Hp) : Prop := ∃ m', m' < n - i ∧ CW D n Pv (i + 1) m' σ2 H3
section
variable {D : Addr} {Q : VK} {g : TG} {tif : TT} {te : TE} {σ0 : St} {H1 : Hp} {n i : Nat} {Pv : Nat → List V → St → Hp → Prop}
theorem cstep {ys : List V} {y : V} {σ2 : St} {H4 : Hp} (hn : n ≤ sizeLine) (hi : i < n) (hD : H4 D = some (.lst ys)) (hl : ys.length ≤ i) (h : Pv (i + 1) (ys ++ [y]) σ2 (upd H4 D (.lst (ys ++ [y])))) : CStep D n i Pv σ2 y H4 :=
  ⟨ys, hD, by omega, n - (i + 1), by omega, rfl, hi, ys ++ [y], upd_same, by rw [List.length_append, List.length_singleton]; omega, h⟩
/-- over any source of n items; Pv: what holds at turn i of the made items, the block's names, the heap -/
theorem comp_by {J : It} (Pv : Nat → List V → St → Hp → Prop) (hn : n ≤ sizeLine) (h0 : Pv 0 [] σ0 (upd H1 D (.lst [])))
    (hgo : ∀ i ys σ H, i < n → H D = some (.lst ys) → Pv i ys σ H → J.go i H) (hstop : ∀ ys σ H, H D = some (.lst ys) → Pv n ys σ H → J.stop n H)
    (hs : ∀ i ys σ H, i < n → H D = some (.lst ys) → ys.length ≤ i → Pv i ys σ H → ∀ x H', J.yld i H x H' → g x σ H' fun σ2 H2 => tif σ2 H2 fun c H3 =>
      if c = true then te σ2 H3 fun y H4 => CStep D n i Pv σ2 y H4 else CSkip D n i Pv σ2 H3)
    (hd : ∀ ys σ H, H D = some (.lst ys) → ys.length ≤ n → Pv n ys σ H → Q (.ref D) H) :
    ∃ W : Nat → Nat → St → Hp → Prop, (∃ m, W 0 m σ0 (upd H1 D (.lst []))) ∧ ∀ i m σb Hb, W i m σb Hb →
      (J.stop i Hb ∧ Q (.ref D) Hb) ∨ (J.go i Hb ∧ ∀ x H', J.yld i Hb x H' → g x σb H' fun σ2 H2 => tif σ2 H2 fun c H3 =>
        if c = true then te σ2 H3 fun y H4 => ∃ ys, H4 D = some (.lst ys) ∧ ys.length < sizeLine ∧ ∃ m', m' < m ∧ W (i + 1) m' σ2 (upd H4 D (.lst (ys ++ [y])))
        else ∃ m', m' < m ∧ W (i + 1) m' σ2 H3) := by
  refine ⟨CW D n Pv, ⟨n, by omega, Nat.zero_le _, [], upd_same, Nat.le_refl _, h0⟩, ?_⟩
  rintro i m σ H ⟨rfl, hi, ys, hD, hl, p⟩
  by_cases hlt : i < n
  · exact .inr ⟨hgo i ys σ H hlt hD p, hs i ys σ H hlt hD hl p⟩
  · have e : i = n := by omega
    subst e
    exact .inl ⟨hstop ys σ H hD p, hd ys σ H hD hl p⟩
/-- a list that the block leaves as it is -/
theorem comp_list {K : PySem.W.Frag} {a : Addr} {xs : List V} (Pv : Nat → List V → St → Hp → Prop) (hn : xs.length ≤ sizeLine) (h0 : Pv 0 [] σ0 (upd H1 D (.lst [])))
    (hl : ∀ i ys σ H, i ≤ xs.length → H D = some (.lst ys) → Pv i ys σ H → SqL K H a xs)
    (hs : ∀ i ys σ H x, i < xs.length → xs[i]? = some x → H D = some (.lst ys) → ys.length ≤ i → Pv i ys σ H → g x σ H fun σ2 H2 => tif σ2 H2 fun c H3 =>
      if c = true then te σ2 H3 fun y H4 => CStep D xs.length i Pv σ2 y H4 else CSkip D xs.length i Pv σ2 H3)
    (hd : ∀ ys σ H, H D = some (.lst ys) → ys.length ≤ xs.length → Pv xs.length ys σ H → Q (.ref D) H) :
    ∃ W : Nat → Nat → St → Hp → Prop, (∃ m, W 0 m σ0 (upd H1 D (.lst []))) ∧ ∀ i m σb Hb, W i m σb Hb →
      ((Itl K a).stop i Hb ∧ Q (.ref D) Hb) ∨ ((Itl K a).go i Hb ∧ ∀ x H', (Itl K a).yld i Hb x H' → g x σb H' fun σ2 H2 => tif σ2 H2 fun c H3 =>
        if c = true then te σ2 H3 fun y H4 => ∃ ys, H4 D = some (.lst ys) ∧ ys.length < sizeLine ∧ ∃ m', m' < m ∧ W (i + 1) m' σ2 (upd H4 D (.lst (ys ++ [y])))
        else ∃ m', m' < m ∧ W (i + 1) m' σ2 H3) :=
  comp_by Pv hn h0 (fun i ys σ H hi hD p => ⟨xs, xs[i], hl i ys σ H (Nat.le_of_lt hi) hD p, by simp [hi]⟩) (fun ys σ H hD p => ⟨xs, hl _ ys σ H (Nat.le_refl _) hD p, Nat.le_refl _⟩) (fun i ys σ H hi hD hl' p x H' y => by
    obtain ⟨e, y⟩ := y
    subst e
    exact hs i ys σ _ x hi (y xs (hl i ys σ _ (Nat.le_of_lt hi) hD p)) hD hl' p) hd
end
end L2

set_option Elab.async false
set_option linter.all false
set_option maxRecDepth 100000
/-! DEFS AND CALLS in short; what things are; the reading by rewriting -/
namespace L2
open PySem PySem.Spec PyProof.Rows

/-! ### no star among the arguments -/
def notStar : Expr → Bool
  | .Starred _ _ => false
  | _ => true
theorem star_cons {e : Expr} {es : List Expr} {env : Env} (h : notStar e = true) : starEach (e :: es) env = (false, eval e env) :: starEach es env := by
  cases e with
  | Starred v q => exact absurd (show false = true from h) Bool.false_ne_true
  | _ => rw [starEach.eq_def]
theorem star_any : ∀ {es : List Expr} {env : Env} {pos : Pos}, es.all notStar = true → (backTo pos (starEach es env)).any (·.1) = false
  | [], env, pos, _ => by rw [starEach.eq_def]; rfl
  | e :: r, env, pos, h => by
    rw [List.all_cons, Bool.and_eq_true] at h
    rw [star_cons h.1]
    exact star_any h.2
section
variable {X : Cx} {x : Str} {p pos : Pos} {e : Expr} {es : List Expr} {te : TE} {t : TA} {T id : String} {r : List V → Hp → VK → Prop}
theorem pa_c (ha : PE X e te) (hr : PA X es t) (h : notStar e = true := by rfl) : PA X (e :: es) (tCons te t) := pa_cons ha hr (star_cons h)
theorem pe_cB (hc : CallR X (.builtin id) r) (hg : Gl X x) (hm : X.mg x = none) (hv : bootBuiltins x = some (.builtin id)) (ha : PA X (e :: es) t) (hn : x ≠ "__name__" := by decide) (hdb : (x == ("__debug__" : Str)) = false := by decide)
    (h1 : notStar e = true := by rfl) (h2 : es.all notStar = true := by rfl) : PE X (.Call (.Name x p) (e :: es) [] pos) (tCB r t) := pe_callB hc hg hm hv ha hn hdb (star_cons h1) (star_any h2)
theorem pe_cTy (hc : CallR X (.type T) r) (hg : Gl X x) (hm : X.mg x = none) (hv : bootBuiltins x = some (.type T)) (ha : PA X (e :: es) t) (hn : x ≠ "__name__" := by decide) (hdb : (x == ("__debug__" : Str)) = false := by decide)
    (h1 : notStar e = true := by rfl) (h2 : es.all notStar = true := by rfl) : PE X (.Call (.Name x p) (e :: es) [] pos) (tCB r t) := pe_callTy hc hg hm hv ha hn hdb (star_cons h1) (star_any h2)
end

/-! ### a def as the top left it, a call by its promise -/
structure Dfn (K : PySem.W.Frag) (mg : Str → Option Value) (x : Str) (st : Stmt) (ps : List Str) : Prop where
  ex : ∃ f fd, Fun K x x st f fd ∧ Binds K fd ps [] ∧ mg x = some (.ref f)
structure Cal (P : Program) (w : World) (K : PySem.W.Frag) (mg : Str → Option Value) (base : Heap) (n : Nat) (x : Str) (ps : List Str) (sp : Sp) : Prop where
  ex : ∃ f fd, FnOk P w K mg base CX0 n f fd ps sp ∧ Binds K fd ps [] ∧ PySem.W.keepIn K (.ref f) = true ∧ mg x = some (.ref f)
section
variable {P : Program} {w : World} {K : PySem.W.Frag} {mg : Str → Option Value} {base : Heap}
theorem Dfn.cal {x : Str} {st : Stmt} {N ps : List Str} {k : Nat} {sp : Sp} (d : Dfn K mg x st ps) (S : FnScope N ps (defScope st)) (len : ∀ vs H Q E, sp vs H Q E → vs.length = ps.length)
    (hbody : ∀ (f : Addr) (cdv : Value) (A : Around) (outer : List Env) (s : Shared) (H : Hp) (vs : List V) (Q : VK) (E : XK), Room k (A.deeper (envOfC x (defScope st) s.heap.objs.size f cdv)) → sp vs H Q E →
      ∃ t, PSs (cxOf CX0 P w K mg base N x (defScope st) f cdv A outer s H E).nox (defBody st) t ∧ t { nx := fun _ H' => Q .non H', rt := Q } (start N vs) H) : Cal P w K mg base (k + 1) x ps sp := by
  obtain ⟨f, fd, F, b, m⟩ := d.ex
  exact ⟨f, fd, F.ok S len (hbody f), b, F.kp, m⟩
theorem Cal.mono {j k : Nat} {x : Str} {ps : List Str} {sp : Sp} (c : Cal P w K mg base j x ps sp) (h : j ≤ k) : Cal P w K mg base k x ps sp := by
  obtain ⟨f, fd, F, r⟩ := c.ex
  exact ⟨f, fd, F.mono h, r⟩
/-- nothing can be asked -/
theorem Dfn.never {x : Str} {st : Stmt} {ps : List Str} {sp : Sp} (d : Dfn K mg x st ps) (no : ∀ vs H Q E, ¬ sp vs H Q E) : Cal P w K mg base 0 x ps sp := by
  obtain ⟨f, fd, F, b, m⟩ := d.ex
  exact ⟨f, fd, ⟨fun vs H Q E h => absurd h (no vs H Q E), fun A outer s H args us vs Q E _ _ _ _ h => absurd h (no vs H Q E)⟩, b, F.kp, m⟩
end
section
variable {X : Cx} {n k : Nat} {x : Str} {ps : List Str} {sp : Sp} {p pos : Pos} {e : Expr} {es : List Expr} {t : TA}
theorem pe_callC (C : Cal X.prog X.w X.K X.mg X.base n x ps sp) (hr : Room k X.A) (hle : n ≤ k) (hg : Gl X x) (ha : PA X (e :: es) t) (hdb : (x == ("__debug__" : Str)) = false := by decide)
    (h1 : notStar e = true := by rfl) (h2 : es.all notStar = true := by rfl) : PE X (.Call (.Name x p) (e :: es) [] pos) (tCall sp [] E0 t) := by
  obtain ⟨f, fd, F, b, kp, m⟩ := C.ex
  exact pe_call F (hr.mono hle) hg m kp b .nil pass0 ha hdb (star_cons h1) (star_any h2)
end

/-- a comprehension's scope, by a look -/
theorem CompOk.of {X : Cx} {scope : Scope} {cp : List (Nat × Str)} (kind : scope.kind = .function)
    (h1 : (scope.names.all fun y => y.2 != .cell && (y.2 != .local || scope.names.lookup y.1 == some .local) && (y.2 != .free || (X.env.scope.names.lookup y.1 == some .cell || X.env.scope.names.lookup y.1 == some .free))) = true)
    (h2 : (cp.all fun p => X.N[p.1]? == some p.2 && scope.names.lookup p.2 == some .free) = true) : CompOk X scope cp := by
  have g := List.all_eq_true.mp h1
  refine ⟨kind, fun y hy e => ?_, fun y hy e => ?_, fun y hy e => ?_, fun p hp => ?_⟩
  · have q := g y hy
    rw [Bool.and_eq_true, Bool.and_eq_true] at q
    rw [e] at q
    exact absurd q.1.1 (by decide)
  · have q := g y hy
    rw [Bool.and_eq_true, Bool.and_eq_true] at q
    have q := q.1.2
    rw [e] at q
    simpa using q
  · have q := g y hy
    rw [Bool.and_eq_true, Bool.and_eq_true] at q
    have q := q.2
    rw [e] at q
    have q : X.env.scope.names.lookup y.1 = some .cell ∨ X.env.scope.names.lookup y.1 = some .free := by simpa using q
    exact q
  · have q := List.all_eq_true.mp h2 p hp
    rw [Bool.and_eq_true] at q
    exact ⟨by simpa using q.1, by simpa using q.2⟩

/-! ### things: what a value is -/
/-- the name of its type, where the value is one of the plain kinds -/
inductive Kd (H : Hp) : V → String → Prop where
  | non : Kd H .non "NoneType"
  | bl (b : Bool) : Kd H (.bl b) "bool"
  | int (i : Int) : Kd H (.int i) "int"
  | str (z : Str) : Kd H (.str z) "str"
  | lst {a : Addr} {xs : List V} (e : H a = some (.lst xs)) : Kd H (.ref a) "list"
  | tup {a : Addr} {xs : List V} (e : H a = some (.tup xs)) : Kd H (.ref a) "tuple"
  | dK {a : Addr} {kvs : List (Key × V)} (e : H a = some (.dK kvs)) : Kd H (.ref a) "dict"
def kinds : List String := ["NoneType", "bool", "int", "str", "list", "tuple", "dict"]
def subT (k T : String) : Bool := k == T || (k == "bool" && T == "int")
theorem Kd.ty {K : PySem.W.Frag} {H : Hp} {x : V} {k : String} (h : Kd H x k) : TyOf K H x (.type k) ∧ k ∈ kinds := by
  cases h with
  | non => exact ⟨.non, by decide⟩
  | bl b => exact ⟨.bl b, by decide⟩
  | int i => exact ⟨.int i, by decide⟩
  | str z => exact ⟨.str z, by decide⟩
  | lst e => exact ⟨.lst e, by decide⟩
  | tup e => exact ⟨.tup e, by decide⟩
  | dK e => exact ⟨.dK e, by decide⟩
theorem Kd.same {H H' : Hp} {x : V} {k : String} (h : Kd H x k) (g : Same H H') : Kd H' x k := by
  cases h with
  | non => exact .non
  | bl b => exact .bl b
  | int i => exact .int i
  | str z => exact .str z
  | lst e => exact .lst (g _ _ e)
  | tup e => exact .tup (g _ _ e)
  | dK e => exact .dK (g _ _ e)
theorem Kd.inj {H : Hp} {x : V} {k k' : String} (h : Kd H x k) (h' : Kd H x k') : k = k' := by
  cases h with
  | lst e => cases h' with | lst _ => rfl | tup e' => rw [e] at e'; cases e' | dK e' => rw [e] at e'; cases e'
  | tup e => cases h' with | lst e' => rw [e] at e'; cases e' | tup _ => rfl | dK e' => rw [e] at e'; cases e'
  | dK e => cases h' with | lst e' => rw [e] at e'; cases e' | tup e' => rw [e] at e'; cases e' | dK _ => rfl
  | non => cases h'; rfl
  | bl _ => cases h'; rfl
  | int _ => cases h'; rfl
  | str _ => cases h'; rfl
theorem same_upd {H : Hp} {p : Addr} (h : H p = none) (o : HO) : Same H (upd H p o) := fun b u q => by rw [upd_ne (ne_of_none q h)]; exact q
theorem Same.seqT {K : PySem.W.Frag} {H H' : Hp} {a : Addr} {xs : List V} (e : Same H H') (h : SqT K H a xs) : SqT K H' a xs := by
  rcases h with (h | ⟨o, h⟩) | h
  · exact .inl (.inl (e _ _ h))
  · exact .inl (.inr ⟨o, e _ _ h⟩)
  · exact .inr h

/-! ### the reading by rewriting -/
section
variable {H : Hp} {Q : VK} {v : V} {a : Option V} {r : St} {i : Nat}
theorem rd_st {t : TS} {D : Ends} {σ : St} (σ' : St) (e : σ = σ') (h : t D σ' H) : t D σ H := by rw [e]; exact h
theorem rd_v0 : tVar 0 (some v :: r) H Q = Q v H := by simp [tVar]
theorem rd_vS : tVar (i + 1) (a :: r) H Q = tVar i r H Q := rfl
theorem rd_ite_t {A B : Prop} : (if true = true then A else B) = A := if_pos rfl
theorem rd_ite_f {A B : Prop} : (if false = true then A else B) = B := if_neg Bool.false_ne_true
theorem rd_ii {a b : Int} : (scal (.int a) (.int b) = true) = True := by simp [scal]
theorem rd_bb {a b : Bool} : (scal (.bl a) (.bl b) = true) = True := by simp [scal]
def cBody (tn : List Str) (cp : List (Nat × Str)) (g : TG) (tif : TT) (te : TE) (σ : St) (Q : VK) (J : It) (H1 : Hp) : Prop := ∀ D, H1 D = none → ∃ W : Nat → Nat → St → Hp → Prop,
  (∃ m, W 0 m (stB tn cp σ) (upd H1 D (.lst []))) ∧ ∀ i m σb Hb, W i m σb Hb →
    (J.stop i Hb ∧ Q (.ref D) Hb) ∨ (J.go i Hb ∧ ∀ x H', J.yld i Hb x H' → g x σb H' fun σ2 H2 => tif σ2 H2 fun c H3 =>
      if c = true then te σ2 H3 fun y H4 => ∃ ys, H4 D = some (.lst ys) ∧ ys.length < sizeLine ∧ ∃ m', m' < m ∧ W (i + 1) m' σ2 (upd H4 D (.lst (ys ++ [y])))
      else ∃ m', m' < m ∧ W (i + 1) m' σ2 H3)
theorem rd_comp {tn : List Str} {cp : List (Nat × Str)} {wi : TI} {g : TG} {tif : TT} {te : TE} {σ : St} : tComp tn cp wi g tif te σ H Q = wi σ H fun J H1 => cBody tn cp g tif te σ Q J H1 := rfl
def fBody (g : TG) (tb : TS) (D : Ends) (σ : St) (J : It) (H1 : Hp) : Prop := ∃ W : Nat → Nat → St → Hp → Prop, (∃ m, W 0 m σ H1) ∧ ∀ i m σ H, W i m σ H →
  (J.stop i H ∧ D.nx σ H) ∨ (J.go i H ∧ ∃ N : St → Hp → Prop, (∀ σ' H', N σ' H' → ∃ m', m' < m ∧ W (i + 1) m' σ' H') ∧ ∀ x H', J.yld i H x H' → g x σ H' fun σ2 H2 => tb { D with nx := N, ct := N, bk := D.nx } σ2 H2)
theorem rd_for {wi : TI} {g : TG} {tb : TS} {D : Ends} {σ : St} : tFor wi g tb D σ H = wi σ H fun J H1 => fBody g tb D σ J H1 := rfl
end
section
variable {tn : List Str} {cp : List (Nat × Str)} {g : TG} {tif : TT} {te : TE} {σ0 : St} {Q : VK} {H1 : Hp}
/-- a comprehension over n items, by what holds at turn i of the made items, the block's names and the heap -/
theorem cb_by {J : It} (n : Nat) (Pv : Addr → Nat → List V → St → Hp → Prop) (hn : n ≤ sizeLine) (h0 : ∀ D, H1 D = none → Pv D 0 [] (stB tn cp σ0) (upd H1 D (.lst [])))
    (hgo : ∀ D i ys σ H, H1 D = none → i < n → H D = some (.lst ys) → Pv D i ys σ H → J.go i H) (hstop : ∀ D ys σ H, H1 D = none → H D = some (.lst ys) → Pv D n ys σ H → J.stop n H)
    (hs : ∀ D i ys σ H x H', H1 D = none → i < n → H D = some (.lst ys) → ys.length ≤ i → Pv D i ys σ H → J.yld i H x H' → g x σ H' fun σ2 H2 => tif σ2 H2 fun c H3 =>
      if c = true then te σ2 H3 fun y H4 => CStep D n i (Pv D) σ2 y H4 else CSkip D n i (Pv D) σ2 H3)
    (hd : ∀ D ys σ H, H1 D = none → H D = some (.lst ys) → ys.length ≤ n → Pv D n ys σ H → Q (.ref D) H) : cBody tn cp g tif te σ0 Q J H1 := fun D hD =>
  comp_by (Pv D) hn (h0 D hD) (fun i ys σ H => hgo D i ys σ H hD) (fun ys σ H => hstop D ys σ H hD) (fun i ys σ H hi hH hl p x H' y => hs D i ys σ H x H' hD hi hH hl p y) (fun ys σ H => hd D ys σ H hD)
/-- over a list that the block leaves as it is -/
theorem cb_list {K : PySem.W.Frag} {a : Addr} {xs : List V} (Pv : Addr → Nat → List V → St → Hp → Prop) (hn : xs.length ≤ sizeLine) (h0 : ∀ D, H1 D = none → Pv D 0 [] (stB tn cp σ0) (upd H1 D (.lst [])))
    (hl : ∀ D i ys σ H, H1 D = none → i ≤ xs.length → H D = some (.lst ys) → Pv D i ys σ H → SqL K H a xs)
    (hs : ∀ D i ys σ H x, H1 D = none → i < xs.length → xs[i]? = some x → H D = some (.lst ys) → ys.length ≤ i → Pv D i ys σ H → g x σ H fun σ2 H2 => tif σ2 H2 fun c H3 =>
      if c = true then te σ2 H3 fun y H4 => CStep D xs.length i (Pv D) σ2 y H4 else CSkip D xs.length i (Pv D) σ2 H3)
    (hd : ∀ D ys σ H, H1 D = none → H D = some (.lst ys) → ys.length ≤ xs.length → Pv D xs.length ys σ H → Q (.ref D) H) : cBody tn cp g tif te σ0 Q (Itl K a) H1 := fun D hD =>
  comp_list (Pv D) hn (h0 D hD) (fun i ys σ H => hl D i ys σ H hD) (fun i ys σ H x => hs D i ys σ H x hD) (fun ys σ H => hd D ys σ H hD)
/-- over a tuple -/
theorem cb_tup {K : PySem.W.Frag} {a : Addr} {xs : List V} (Pv : Addr → Nat → List V → St → Hp → Prop) (hn : xs.length ≤ sizeLine) (h0 : ∀ D, H1 D = none → Pv D 0 [] (stB tn cp σ0) (upd H1 D (.lst [])))
    (hl : ∀ D i ys σ H, H1 D = none → i ≤ xs.length → H D = some (.lst ys) → Pv D i ys σ H → SqT K H a xs)
    (hs : ∀ D i ys σ H x, H1 D = none → i < xs.length → xs[i]? = some x → H D = some (.lst ys) → ys.length ≤ i → Pv D i ys σ H → g x σ H fun σ2 H2 => tif σ2 H2 fun c H3 =>
      if c = true then te σ2 H3 fun y H4 => CStep D xs.length i (Pv D) σ2 y H4 else CSkip D xs.length i (Pv D) σ2 H3)
    (hd : ∀ D ys σ H, H1 D = none → H D = some (.lst ys) → ys.length ≤ xs.length → Pv D xs.length ys σ H → Q (.ref D) H) : cBody tn cp g tif te σ0 Q (Itt K a) H1 :=
  cb_by xs.length Pv hn h0 (fun D i ys σ H hD hi hH p => ⟨xs, xs[i], hl D i ys σ H hD (Nat.le_of_lt hi) hH p, by simp [hi]⟩) (fun D ys σ H hD hH p => ⟨xs, hl D _ ys σ H hD (Nat.le_refl _) hH p, Nat.le_refl _⟩) (fun D i ys σ H x H' hD hi hH hl' p y => by
    obtain ⟨e, y⟩ := y
    subst e
    exact hs D i ys σ _ x hD hi (y xs (hl D i ys σ _ hD (Nat.le_of_lt hi) hH p)) hH hl' p) hd
variable {tb : TS} {D : Ends}
theorem fb_list {K : PySem.W.Frag} {a : Addr} {xs : List V} (Pv : Nat → St → Hp → Prop) (h0 : Pv 0 σ0 H1) (hl : ∀ i σ H, i ≤ xs.length → Pv i σ H → SqL K H a xs)
    (hs : ∀ i x σ H, xs[i]? = some x → Pv i σ H → g x σ H fun σ2 H2 => tb { D with nx := Pv (i + 1), ct := Pv (i + 1), bk := D.nx } σ2 H2) (hd : ∀ σ H, Pv xs.length σ H → D.nx σ H) : fBody g tb D σ0 (Itl K a) H1 := for_list Pv h0 hl hs hd
theorem fb_tup {K : PySem.W.Frag} {a : Addr} {xs : List V} (Pv : Nat → St → Hp → Prop) (h0 : Pv 0 σ0 H1) (hl : ∀ i σ H, i ≤ xs.length → Pv i σ H → SqT K H a xs)
    (hs : ∀ i x σ H, xs[i]? = some x → Pv i σ H → g x σ H fun σ2 H2 => tb { D with nx := Pv (i + 1), ct := Pv (i + 1), bk := D.nx } σ2 H2) (hd : ∀ σ H, Pv xs.length σ H → D.nx σ H) : fBody g tb D σ0 (Itt K a) H1 := for_tup Pv h0 hl hs hd
theorem fb_range {lo : Int} {n : Nat} (Pv : Nat → St → Hp → Prop) (h0 : Pv 0 σ0 H1)
    (hs : ∀ i σ H, i < n → Pv i σ H → g (.int (lo + i)) σ H fun σ2 H2 => tb { D with nx := Pv (i + 1), ct := Pv (i + 1), bk := D.nx } σ2 H2) (hd : ∀ σ H, Pv n σ H → D.nx σ H) : fBody g tb D σ0 (Itr lo n) H1 := for_range Pv h0 hs hd
end

/-! ### slices of texts and lists, as lists -/
/-- a text's part, as a list -/
def cutL {α : Type} (xs : List α) (lo hi : Option Int) : List α := (xs.drop (HT.sIx xs.length 0 lo)).take (HT.sIx xs.length xs.length hi - HT.sIx xs.length 0 lo)
theorem cutL_len {α : Type} (xs : List α) (lo hi : Option Int) : (cutL xs lo hi).length ≤ xs.length := by
  unfold cutL
  rw [List.length_take, List.length_drop]
  omega
theorem str_len (z : Str) : z.length = z.cps.toList.length := by simp [Str.length]
theorem atI_0 {α : Type} {c : α} {r : List α} : atI (c :: r) 0 = some c := atI_nat (j := 0) rfl
theorem RcOk.up {X : Cx} {j k : Nat} {H : Hp} {x y : V} {b : Bool} (h : RcOk X j H x y b) (hjk : j ≤ k) : RcOk X k H x y b := fun pins σ s A u v hu => h pins σ s A u v (by omega)
theorem small_line {n : Nat} (h : n ≤ 1000) : n ≤ sizeLine := Nat.le_of_lt (small1000 h)
theorem hu_at {A : Around} {k : Nat} (hr : Room k A) (j : Nat) (h : j ≤ 64) : A.units + j < cLine := by have := hr.units; omega
end L2

set_option Elab.async false
set_option linter.all false
set_option maxRecDepth 100000
/-! THE TOP: what the text's own names are behind its top -/
namespace L2
open PySem PySem.Spec PyProof.Rows
section
variable {K : PySem.W.Frag} {h : Heap} {mg : Str → Option Value}
theorem dfn_mk {x : Str} {st : Stmt} {ps : List Str} {f : Addr} {oc : Value} {od an : Option Addr} {osl : Array (Option Value)} {kV doc pm cdv ct : Value} (X : K.In h) (G : h.Ns mainGlobals mg)
    (a : PySem.W.nsIn K mainGlobals x = some (some (.ref f))) (l : K.lookup f = some ⟨oc, od, .func (PySem.W.fnOf x x (defArgs st) (defBody st) (defScope st) .none kV doc pm an cdv ct), osl⟩)
    (c : PySem.W.codeIn K cdv x = true) (k : PySem.W.keepIn K (.ref f) = true)
    (hb : ∀ (kV doc pm : Value) (an : Option Addr) (cdv ct : Value) (us : List Value), us.length = ps.length → bindArgs (PySem.W.fnOf x x (defArgs st) (defBody st) (defScope st) .none kV doc pm an cdv ct) ⟨us, []⟩ = pure (ps.zip us)) : Dfn K mg x st ps :=
  ⟨f, _, fun_mk l c k, (fun_mk l c k).binds hb, PySem.W.mg_of X G a⟩
theorem law_mk {x y : Str} {st : Stmt} {f fa : Addr} {oc : Value} {od an : Option Addr} {osl : Array (Option Value)} {kV doc pm cdv ct : Value} (X : K.In h) (G : h.Ns mainGlobals mg) (hfa : mg x = some (.ref fa))
    (a : PySem.W.nsIn K mainGlobals x = some (some (.ref f))) (l : K.lookup f = some ⟨oc, od, .func (PySem.W.fnOf x x (defArgs st) (defBody st) (defScope st) .none kV doc pm an cdv ct), osl⟩)
    (c : PySem.W.codeIn K cdv x = true) (k : PySem.W.keepIn K (.ref f) = true) (hb : ∀ (s : Shared) (v : Value), BindsTo s (PySem.W.fnOf x x (defArgs st) (defBody st) (defScope st) .none kV doc pm an cdv ct) ⟨[v], []⟩ [(y, v)]) :
    ∃ fd : FuncData, (∀ (s : Shared) (v : Value), BindsTo s fd ⟨[v], []⟩ [(y, v)]) ∧ Fun K x x st fa fd := by
  have e := hfa.symm.trans (PySem.W.mg_of X G a)
  cases e
  exact ⟨_, hb, fun_mk l c k⟩
end
end L2

set_option Elab.async false
set_option linter.all false
set_option maxRecDepth 100000
namespace L2
open PySem PySem.Spec PyProof.Rows
section
variable {CX : CXT} {P : Program} {w : World} {K : PySem.W.Frag} {mg : Str → Option Value} {base : Heap} {N : List Str} {x : Str} {sc : Scope} {f : Addr} {cdv : Value} {A : Around} {outer : List Env} {s : Shared} {H : Hp} {E : XK}
theorem cxK : (cxOf CX P w K mg base N x sc f cdv A outer s H E).K = K := rfl
theorem cxP : (cxOf CX P w K mg base N x sc f cdv A outer s H E).prog = P := rfl
theorem cxW : (cxOf CX P w K mg base N x sc f cdv A outer s H E).w = w := rfl
end
end L2
/-! A CUT: what holds behind a statement, said by the reader -/
namespace L2
open PySem PySem.Spec PyProof.Rows
section
variable {X : Cx} {st : Stmt} {rest : List Stmt} {t u : TS} {e : Expr} {te : TE}
def tCut (t u : TS) : TS := fun D σ H => ∃ Pv : St → Hp → Prop, t { D with nx := Pv } σ H ∧ ∀ σ' H', Pv σ' H' → u D σ' H'
theorem pss_cut (h1 : PS X st t) (h2 : PSs X rest u) : PSs X (st :: rest) (tCut t u) := by
  intro pins s σ H D I h
  obtain ⟨Pv, q1, q2⟩ := h
  refine wpAny_execs_cons (thn (h1 pins s σ H { D with nx := Pv } I q1) fun f s1 q => ?_)
  cases f with
  | next =>
    obtain ⟨σ', H', I', q⟩ := q
    exact h2 pins s1 σ' H' D I' (q2 σ' H' q)
  | ret v => exact q
  | brk => exact q
  | cont => exact q
end
end L2
/-! SETS made of a list of ints and texts; their size -/
namespace L2
open PySem PySem.Spec PyProof.Rows
local instance (priority := 10000) : BEq Key := instBEqOfDecidableEq
local instance (priority := 10000) : LawfulBEq Key := inferInstanceAs (LawfulBEq (Sum Int Str))
/-- each key once, as they first come -/
def onceK : List Key → List Key → List Key
  | acc, [] => acc
  | acc, k :: r => onceK (if k ∈ acc then acc else acc ++ [k]) r
section
variable {P : Program} {w : World} {A : Around} {R : Result → Shared → Prop} {it : Addr} {fp wr : List Addr} {G : Array GenState → Array GenState → Prop} {n : Nat} {Pv : Nat → Value → Prop} {St : Nat → Shared → Prop}
/-- what stands in the set behind i turns -/
def SetIs (P : Program) (w : World) (h : Heap) (a : Addr) (ks : List Key) : Prop := h.SetOf (mixKind P w) a (fun k => decide (k ∈ onceK [] ks)) (onceK [] ks).length
theorem SetIs.kept {h h' : Heap} {a : Addr} {ks : List Key} (x : SetIs P w h a ks) (k : ∀ o, h.get? a = some o → h'.get? a = some o) : SetIs P w h' a ks := by
  obtain ⟨o, es, ep, t, ho, rest⟩ := x
  exact ⟨o, es, ep, t, k o ho, rest⟩
end
section
variable {P : Program} {w : World} {A : Around} {E : Value → Shared → Prop} {s : Shared}
end
end L2

set_option Elab.async false
set_option linter.all false
set_option maxRecDepth 100000
/-! NEW OBJECTS, the heap behind them a letter -/
namespace L2
open PySem PySem.Spec PyProof.Rows
/-- H' is H with the new object o at p -/
structure New (H : Hp) (p : Addr) (o : HO) (H' : Hp) : Prop where
  nil : H p = none
  g : Same H H'
  at' : H' p = some o
  eq : H' = upd H p o
theorem New.mk' {H : Hp} {p : Addr} (h : H p = none) (o : HO) : New H p o (upd H p o) := ⟨h, same_upd h o, upd_same, rfl⟩
theorem New.lst {K : PySem.W.Frag} {H H' : Hp} {p : Addr} {xs : List V} (n : New H p (.lst xs) H') : SqL K H' p xs := .of n.at'
/-- an object that was not there may be written -/
theorem Same.wr {H H' : Hp} {p : Addr} (g : Same H H') (h : H p = none) (o : HO) : Same H (upd H' p o) := fun b u e => by rw [upd_ne (ne_of_none e h)]; exact g b u e
section
variable {X : Cx} {e : Expr} {es : List Expr} {t : TA} {pos : Pos}
def tTupN (t : TA) : TE := fun σ H Q => t σ H fun xs H1 => xs.length ≤ sizeLine ∧ ∀ p H', New H1 p (.tup xs) H' → Q (.ref p) H'
def tLstN (t : TA) : TE := fun σ H Q => t σ H fun xs H1 => xs.length ≤ sizeLine ∧ ∀ p H', New H1 p (.lst xs) H' → Q (.ref p) H'
theorem pe_tupN {x1} (h : PA X es t) : PE X (.Tuple es x1 pos) (tTupN t) := by
  intro pins s σ H Q I hq
  refine wpAny_Tuple_spliced (thn (h pos pins s σ H _ I hq) fun us s1 ⟨xs, H1, I1, r, z, q⟩ => ⟨by rw [← r.length]; exact z, ?_⟩)
  refine ⟨.ref s1.heap.objs.size, upd H1 s1.heap.objs.size (.tup xs), I1.laid (t' := s1.toks) (fun b u e => Heap.get?_push_of_some _ e) (Nat.le_refl _) ?_, rfl, q _ _ (.mk' I1.fresh _)⟩
  exact ⟨z, us, r, ⟨_, Heap.get?_push_size _ rfl, rfl, _, rfl⟩⟩
theorem pe_lstN (h : PA X es t) : PE X (.List es pos) (tLstN t) := by
  intro pins s σ H Q I hq
  refine wpAny_List_spliced (thn (h pos pins s σ H _ I hq) fun us s1 ⟨xs, H1, I1, r, z, q⟩ => ⟨by rw [← r.length]; exact z, ?_⟩)
  refine ⟨.ref s1.heap.objs.size, upd H1 s1.heap.objs.size (.lst xs), I1.laid (t' := s1.toks) (fun b u e => Heap.get?_push_of_some _ e) (Nat.le_refl _) ?_, rfl, q _ _ (.mk' I1.fresh _)⟩
  exact ⟨z, us, 0, r, Heap.get?_push_size _ rfl⟩
def rSlLN (K : PySem.W.Frag) : V → Option Int → Option Int → Hp → VK → Prop := fun x lo hi H Q => ∃ a xs, x = .ref a ∧ SqL K H a xs ∧ ∀ p H', New H p (.lst (cutL xs lo hi)) H' → Q (.ref p) H'
theorem sl_listN : SlR X (rSlLN X.K) := fun pins s σ H x v vl vu lo hi sl Q I rx hs pl pu h => by
  obtain ⟨a, xs, e, hx, q⟩ := h
  exact sl_list pins s σ H x v vl vu lo hi sl Q I rx hs pl pu ⟨a, xs, e, hx, fun p np => q p _ (.mk' np _)⟩
def rCatN : R2 := fun x y H Q => ∃ l b xs zs, x = .ref l ∧ y = .ref b ∧ H l = some (.lst xs) ∧ H b = some (.lst zs) ∧ xs.length + zs.length ≤ sizeLine ∧ ∀ p H', New H p (.lst (xs ++ zs)) H' → Q (.ref p) H'
theorem op_catN : OpR X (binaryOp .Add) rCatN := fun pins s σ H x y v u Q I rx ry h => by
  obtain ⟨l, b, xs, zs, e1, e2, h1, h2, hz, q⟩ := h
  exact op_cat pins s σ H x y v u Q I rx ry ⟨l, b, xs, zs, e1, e2, h1, h2, hz, fun p np => q p _ (.mk' np _)⟩
theorem call_tuple_ofN : CallR X (.type "tuple") (fun xs H Q => ∃ p ys, xs = [.ref p] ∧ ((SqL X.K H p ys ∧ ∀ l H', New H l (.tup ys) H' → Q (.ref l) H') ∨ (SqT X.K H p ys ∧ Q (.ref p) H))) := fun pins s σ H xs us Q I r h => by
  obtain ⟨p, ys, e, hq⟩ := h
  refine call_tuple_of pins s σ H xs us Q I r ⟨p, ys, e, ?_⟩
  rcases hq with ⟨h1, q⟩ | h1
  · exact .inl ⟨h1, fun l nl => q l _ (.mk' nl _)⟩
  · exact .inr h1
end
/-! ### a comprehension whose items are a function of the source's items; the heap only grows -/
section
variable {tn : List Str} {cp : List (Nat × Str)} {g : TG} {tif : TT} {te : TE} {σ0 : St} {Q : VK} {H1 : Hp} {K : PySem.W.Frag} {a : Addr} {xs : List V}
/-- what holds at turn i -/
def PMap (S : St → Prop) (f : V → V) (xs : List V) (H1 : Hp) (i : Nat) (ys : List V) (σ : St) (H : Hp) : Prop := Same H1 H ∧ S σ ∧ ys = (xs.take i).map f
theorem cm_list (S : St → Prop) (f : V → V) (hn : xs.length ≤ 1000) (hS : SqL K H1 a xs) (h0 : S (stB tn cp σ0))
    (hs : ∀ D i σ H x, i < xs.length → x ∈ xs → xs[i]? = some x → Same H1 H → H1 D = none → H D = some (.lst ((xs.take i).map f)) → S σ → g x σ H fun σ2 H2 => tif σ2 H2 fun c H3 =>
      if c = true then te σ2 H3 fun y H4 => CStep D xs.length i (PMap S f xs H1) σ2 y H4 else CSkip D xs.length i (PMap S f xs H1) σ2 H3)
    (hd : ∀ D H, H1 D = none → Same H1 H → H D = some (.lst (xs.map f)) → Q (.ref D) H) : cBody tn cp g tif te σ0 Q (Itl K a) H1 := by
  refine cb_list (K := K) (a := a) (xs := xs) (fun D i ys σ H => PMap S f xs H1 i ys σ H) (small_line hn) (fun D hD => ⟨same_upd hD _, h0, rfl⟩) (fun D i ys σ H _ _ _ p => p.1.seq hS) ?_ ?_
  · rintro D i ys σ H x hD hi hx hH hl ⟨p1, p2, rfl⟩
    exact hs D i σ H x hi (List.mem_of_getElem? hx) hx p1 hD hH p2
  · rintro D ys σ H hD hH hl ⟨p1, p2, rfl⟩
    rw [List.take_of_length_le (Nat.le_refl _)] at hH
    exact hd D H hD p1 hH
theorem cm_tup (S : St → Prop) (f : V → V) (hn : xs.length ≤ 1000) (hS : SqT K H1 a xs) (h0 : S (stB tn cp σ0))
    (hs : ∀ D i σ H x, i < xs.length → x ∈ xs → xs[i]? = some x → Same H1 H → H1 D = none → H D = some (.lst ((xs.take i).map f)) → S σ → g x σ H fun σ2 H2 => tif σ2 H2 fun c H3 =>
      if c = true then te σ2 H3 fun y H4 => CStep D xs.length i (PMap S f xs H1) σ2 y H4 else CSkip D xs.length i (PMap S f xs H1) σ2 H3)
    (hd : ∀ D H, H1 D = none → Same H1 H → H D = some (.lst (xs.map f)) → Q (.ref D) H) : cBody tn cp g tif te σ0 Q (Itt K a) H1 := by
  refine cb_tup (K := K) (a := a) (xs := xs) (fun D i ys σ H => PMap S f xs H1 i ys σ H) (small_line hn) (fun D hD => ⟨same_upd hD _, h0, rfl⟩) (fun D i ys σ H _ _ _ p => p.1.seqT hS) ?_ ?_
  · rintro D i ys σ H x hD hi hx hH hl ⟨p1, p2, rfl⟩
    exact hs D i σ H x hi (List.mem_of_getElem? hx) hx p1 hD hH p2
  · rintro D ys σ H hD hH hl ⟨p1, p2, rfl⟩
    rw [List.take_of_length_le (Nat.le_refl _)] at hH
    exact hd D H hD p1 hH
theorem cm_step {S : St → Prop} {f : V → V} {D : Addr} {i : Nat} {x y : V} {σ2 : St} {H4 : Hp} (hn : xs.length ≤ 1000) (hx : xs[i]? = some x) (hD : H1 D = none) (h4 : H4 D = some (.lst ((xs.take i).map f))) (g4 : Same H1 H4) (s2 : S σ2) (e : y = f x) :
    CStep D xs.length i (PMap S f xs H1) σ2 y H4 := by
  have hi : i < xs.length := (List.getElem?_eq_some_iff.mp hx).1
  refine cstep (small_line hn) hi h4 (by rw [List.length_map, List.length_take]; omega) ⟨g4.wr hD _, s2, ?_⟩
  rw [List.take_add_one, hx, List.map_append, e]
  rfl
end
end L2

set_option Elab.async false
set_option linter.all false
set_option maxRecDepth 100000
/-! lists of texts compared; parts of tuples; islower, isupper; constants that are tuples -/
namespace L2
open PySem PySem.Spec PyProof.Rows
section
variable {X : Cx} {k : Nat} {H : Hp} {a b : Addr} {xs ys : List V}
def rSlTN (K : PySem.W.Frag) : V → Option Int → Option Int → Hp → VK → Prop := fun x lo hi H Q => ∃ a xs, x = .ref a ∧ SqT K H a xs ∧
  ¬ (HT.sIx xs.length 0 lo = 0 ∧ HT.sIx xs.length xs.length hi = xs.length) ∧ ∀ p H', New H p (.tup (cutL xs lo hi)) H' → Q (.ref p) H'
end
section
variable {K : PySem.W.Frag} {h : Heap} {mg : Str → Option Value}
end
/-! ### the same, the written part named -/
section
variable {X : Cx} (K : PySem.W.Frag)
theorem op_notIn_seqK (h : X.K = K := by rfl) : OpR X (compareOp .NotIn) (rIn K true) := h ▸ op_notIn_seq
theorem ix_listK (h : X.K = K := by rfl) : IxR X (rIxL K) := h ▸ ix_list
theorem ix_tupK (h : X.K = K := by rfl) : IxR X (rIxT K) := h ▸ ix_tup
theorem sl_listNK (h : X.K = K := by rfl) : SlR X (rSlLN K) := h ▸ sl_listN
def rLen : List V → Hp → VK → Prop := fun xs H Q => ∃ p ys, xs = [.ref p] ∧ (SqL K H p ys ∨ SqT K H p ys) ∧ Q (.int (List.length ys)) H
theorem call_len_seqK (h : X.K = K := by rfl) : CallR X (.builtin "len") (rLen K) := h ▸ call_len_seq
def rAll : List V → Hp → VK → Prop := fun xs H Q => ∃ (p : Addr) (bs : List Bool), xs = [.ref p] ∧ SqL K H p (bs.map V.bl) ∧ Q (.bl (bs.all id)) H
def rSum : List V → Hp → VK → Prop := fun xs H Q => ∃ (p : Addr) (ns : List Int), xs = [.ref p] ∧ SqL K H p (ns.map V.int) ∧ Q (.int ns.sum) H
theorem call_sum_intK (hc : X.calm = true) (h : X.K = K := by rfl) : CallR X (.builtin "sum") (rSum K) := h ▸ call_sum_int hc
def rListOf : List V → Hp → VK → Prop := fun xs H Q => ∃ p ys, xs = [.ref p] ∧ (SqL K H p ys ∨ SqT K H p ys) ∧ ∀ l H', New H l (.lst ys) H' → Q (.ref l) H'
theorem pi_listK {tg l : Expr} {tl : TE} (hl : PE X l tl) (h : X.K = K := by rfl) : PI X tg l (iList K tl) := h ▸ pi_list hl
theorem pi_tupK {tg l : Expr} {tl : TE} (hl : PE X l tl) (h : X.K = K := by rfl) : PI X tg l (iTup K tl) := h ▸ pi_tup hl
variable {o e : Expr} {es : List Expr} {to : TE} {t : TA} {name : Str} {apos cpos : Pos} {T id : String} {r : V → List V → Hp → VK → Prop}
theorem pe_bmK (pa : PlainAttrs T) (slot : Slot T name id) (hty : typeOf (.builtin id) = pure (.type "method_descriptor")) (hm : MtR X id r) (ho : PE X o to) (ha : PA X (e :: es) t) (h : X.K = K := by rfl)
    (hbase : attributeBase o name X.env (eval o X.env) = eval o X.env := by rfl)
    (hfew : ((backTo cpos (starEach (e :: es) X.env)).all (fun x => !x.1) && (backToKw cpos (keywordEach [] X.env)).all (fun x => x.1.isSome)
      && decide ((e :: es).length + ([] : List Keyword).length + (if ([] : List Keyword).isEmpty then 0 else 1) < 30)) = true := by rfl)
    (hline : (apos.endLine == cpos.line) = true := by rfl) (h1 : notStar e = true := by rfl) (h2 : es.all notStar = true := by rfl) :
    PE X (.Call (.Attribute o name apos) (e :: es) [] cpos) (tBM K T r to t) := h ▸ pe_bm pa slot hty hm ho ha hbase hfew hline (star_cons h1) (star_any h2)
end
/-! ### a cut behind a test -/
section
variable {X : Cx} {e : Expr} {t : TT}
end
end L2

set_option Elab.async false
set_option linter.all false
set_option maxRecDepth 100000
/-! zip of two tuples, walked by a comprehension or a loop with two names -/
namespace L2
open PySem PySem.Spec PyProof.Rows
section
variable {P : Program} {w : World} {A : Around} {E : Value → Shared → Prop} {s : Shared}
end
/-- the five records of a zip of two tuples, at turn i -/
structure ZipT (h : Heap) (z ti ro j1 j2 t1 t2 : Addr) (f0 : Value) (i : Nat) : Prop where
  z : IsZip h z ti ro f0
  ti : IsPair h ti (.ref j1) (.ref j2)
  ro : ∃ a b, IsPair h ro a b
  j1 : h.IsTupleIter j1 t1 i
  j2 : h.IsTupleIter j2 t2 i
section
variable {P : Program} {w : World} {A : Around} {E : Value → Shared → Prop} {s : Shared} {z ti ro j1 j2 t1 t2 : Addr} {i : Nat} {its1 its2 : Array Value}
end
section
variable {P : Program} {w : World} {A : Around} {E : Value → Shared → Prop} {s : Shared}
end
/-! ### several records of ours have turned -/
section
variable {X : Cx} {pins : List (Addr × Obj)} {σ : St} {H : Hp} {s : Shared} {h' : Heap}
end
/-! ### the iterator -/
theorem pg_tupK {X : Cx} (K : PySem.W.Frag) {es : List Expr} {k : Nat} {t : TGs} {n : Nat} {pos : Pos} (hc : X.calm = true) (h : PGs X es t) (hK : X.K = K := by rfl)
    (hn : (assignEach es X.env).length = n := by rfl) (hst : (assignEach es X.env).findIdx? (·.1) = none := by rfl) : PG X (.Tuple es k pos) (gTup K n t) := hK ▸ pg_tup hc h hn hst
section
variable {tn : List Str} {cp : List (Nat × Str)} {g : TG} {tif : TT} {te : TE} {σ0 : St} {Q : VK} {H1 : Hp} {K : PySem.W.Frag} {a b : Addr} {xs ys : List V}
end
end L2

set_option Elab.async false
set_option linter.all false
set_option maxRecDepth 100000
/-! a constant dict of the text, asked by texts -/
namespace L2
open PySem PySem.Spec PyProof.Rows
/-- the written dict at a tells f -/
def DctK (K : PySem.W.Frag) (w : World) (a : Addr) (f : Str → Option V) : Prop := (a == sysModules) = false ∧ ∃ (es : Array DictEntry) (n : Nat), K.lookup a = some ⟨.type "dict", none, .dict es n, #[]⟩ ∧ PySem.W.KeysLit w.params es.toList ∧ ∀ x, RelO (f x) (findBy Value.isStrOf es x)
section
variable {X : Cx} (K : PySem.W.Frag) (w : World)
def rInD (neg : Bool) : R2 := fun x y H Q => ∃ z a f, x = .str z ∧ y = .ref a ∧ DctK K w a f ∧ Q (.bl (if neg then !(f z).isSome else (f z).isSome)) H
def rIxD : R2 := fun x y H Q => ∃ a z f v, x = .ref a ∧ y = .str z ∧ DctK K w a f ∧ f z = some v ∧ Q v H
end
section
variable {tn : List Str} {cp : List (Nat × Str)} {g : TG} {tif : TT} {te : TE} {σ0 : St} {Q : VK} {H1 : Hp} {K : PySem.W.Frag} {a : Addr} {xs : List V}
/-- a comprehension over a list, its items by their place -/
theorem ci_list (S : St → Prop) (f : Nat → V) (hn : xs.length ≤ 1000) (hS : SqL K H1 a xs) (h0 : S (stB tn cp σ0))
    (hs : ∀ D i σ H x, i < xs.length → xs[i]? = some x → Same H1 H → H1 D = none → H D = some (.lst ((List.range i).map f)) → S σ → g x σ H fun σ2 H2 => tif σ2 H2 fun c H3 =>
      if c = true then te σ2 H3 fun v H4 => CStep D xs.length i (fun i ws σ H => Same H1 H ∧ S σ ∧ ws = (List.range i).map f) σ2 v H4 else CSkip D xs.length i (fun i ws σ H => Same H1 H ∧ S σ ∧ ws = (List.range i).map f) σ2 H3)
    (hd : ∀ D H, H1 D = none → Same H1 H → H D = some (.lst ((List.range xs.length).map f)) → Q (.ref D) H) : cBody tn cp g tif te σ0 Q (Itl K a) H1 := by
  refine cb_list (K := K) (a := a) (xs := xs) (fun D i ws σ H => Same H1 H ∧ S σ ∧ ws = (List.range i).map f) (small_line hn) (fun D hD => ⟨same_upd hD _, h0, rfl⟩) (fun D i ys σ H _ _ _ p => p.1.seq hS) ?_ ?_
  · rintro D i ys σ H x hD hi hx hH hl ⟨p1, p2, rfl⟩
    exact hs D i σ H x hi hx p1 hD hH p2
  · rintro D ys σ H hD hH hl ⟨p1, p2, rfl⟩
    exact hd D H hD p1 hH
end
end L2

set_option Elab.async false
set_option linter.all false
/-! is not, of two bools -/
namespace L2
open PySem PySem.Spec PyProof.Rows
variable {X : Cx}
end L2

set_option Elab.async false
set_option linter.all false
set_option maxRecDepth 100000
/-! lists of ints compared; a comprehension over a range -/
namespace L2
open PySem PySem.Spec PyProof.Rows
section
variable {X : Cx} {k : Nat} {H : Hp} {a b : Addr} {xs ys : List V}
theorem eqV_int (a b : Int) : eqV (.int a) (.int b) = decide (a = b) := by
  by_cases h : a = b
  · subst h; simp [eqV]
  · simp [eqV, h]
theorem all_eqi : ∀ (xs ys : List Int), (xs.length == ys.length && (List.range xs.length).all fun j => eqV ((xs.map V.int).getD j .non) ((ys.map V.int).getD j .non)) = decide (xs = ys)
  | [], [] => rfl
  | [], y :: ys => by simp
  | x :: xs, [] => by simp
  | x :: xs, y :: ys => by
    have ih := all_eqi xs ys
    have e : (List.range (x :: xs).length).all (fun j => eqV (((x :: xs).map V.int).getD j .non) (((y :: ys).map V.int).getD j .non)) =
        (decide (x = y) && (List.range xs.length).all fun j => eqV ((xs.map V.int).getD j .non) ((ys.map V.int).getD j .non)) := by
      rw [List.length_cons, List.range_succ_eq_map, List.all_cons, List.all_map]
      exact congrArg (· && _) (eqV_int x y)
    rw [e]
    have e2 : ((x :: xs).length == (y :: ys).length) = (xs.length == ys.length) := by simp
    rw [e2]
    by_cases hx : x = y
    · subst hx
      rw [decide_eq_true rfl, Bool.true_and, ih]
      simp
    · rw [decide_eq_false hx, Bool.false_and, Bool.and_false]
      simp [hx]
theorem flats_int (xs : List Int) : (xs.map V.int).all flatV = true := by
  rw [List.all_eq_true]
  intro x hx
  obtain ⟨z, _, rfl⟩ := List.mem_map.mp hx
  rfl
def rEqI (K : PySem.W.Frag) : R2 := fun x y H Q => ∃ (a b : Addr) (xs ys : List Int), x = .ref a ∧ y = .ref b ∧ SqL K H a (xs.map V.int) ∧ SqL K H b (ys.map V.int) ∧ Q (.bl (decide (xs = ys))) H
theorem op_eqI (hu : X.A.units + 8 < cLine) : OpR X (compareOp .Eq) (rEqI X.K) := by
  intro pins s σ H x y v u Q I rx ry h
  obtain ⟨a, b, xs, ys, rfl, rfl, h1, h2, q⟩ := h
  have r := rcok_flats (X := X) h1 h2 (flats_int xs) (flats_int ys)
  rw [List.length_map, List.length_map, all_eqi] at r
  exact op_eqD (k := 1) (Nat.lt_of_le_of_lt (Nat.add_le_add_left (by decide) _) hu) pins s σ H _ _ v u Q I rx ry ⟨_, r, q⟩
def rNeI (K : PySem.W.Frag) : R2 := fun x y H Q => ∃ (a b : Addr) (xs ys : List Int), x = .ref a ∧ y = .ref b ∧ SqL K H a (xs.map V.int) ∧ SqL K H b (ys.map V.int) ∧ Q (.bl (!decide (xs = ys))) H
theorem op_neI (hu : X.A.units + 8 < cLine) : OpR X (compareOp .NotEq) (rNeI X.K) := by
  intro pins s σ H x y v u Q I rx ry h
  obtain ⟨a, b, xs, ys, rfl, rfl, h1, h2, q⟩ := h
  cases (show v = Value.ref a from rx)
  cases (show u = Value.ref b from ry)
  obtain ⟨us, r1, p1, _⟩ := I.list h1
  obtain ⟨vs, r2, p2, _⟩ := I.list h2
  have l1 := r1.length
  have l2 := r2.length
  have hu' : X.A.units < cLine := by omega
  by_cases hl : us.length = vs.length
  · have z := SeqAt.RcNeAt.lists (A := X.A) (s := s) (e := fun j => eqV ((xs.map V.int).getD j .non) ((ys.map V.int).getD j .non)) p1.isList p2.isList (by rw [List.size_toArray, List.size_toArray]; exact hl) hu' fun j h1 h2 => by
      rw [List.size_toArray] at h1 h2
      obtain ⟨g1, q1⟩ := r1.at h1
      obtain ⟨g2, q2⟩ := r2.at h2
      have e1 : (xs.map V.int).getD j .non = (xs.map V.int)[j] := by rw [List.getD_eq_getElem?_getD, List.getElem?_eq_getElem g1]; rfl
      have e2 : (ys.map V.int).getD j .non = (ys.map V.int)[j] := by rw [List.getD_eq_getElem?_getD, List.getElem?_eq_getElem g2]; rfl
      rw [e1, e2]
      refine eqAt_V (by simpa using q1) (by simpa using q2) ?_ ?_
      · exact List.all_eq_true.mp (flats_int xs) _ (List.getElem_mem g1)
      · exact List.all_eq_true.mp (flats_int ys) _ (List.getElem_mem g2)
    have e := all_eqi xs ys
    rw [List.length_map] at l1 l2
    rw [show (xs.length == ys.length) = true by simp; omega, Bool.true_and] at e
    rw [List.size_toArray, ← l1, e] at z
    exact z _ _ _ _ ⟨.bl (!decide (xs = ys)), H, I, rfl, q⟩
  · have z := SeqAt.RcNeAt.lists_lengths (A := X.A) (s := s) p1.isList p2.isList (by rw [List.size_toArray, List.size_toArray]; simpa using hl) hu'
    have e : decide (xs = ys) = false := decide_eq_false fun h => by rw [h, List.length_map] at l1; rw [List.length_map] at l2; omega
    rw [e] at q
    exact z _ _ _ _ ⟨.bl true, H, I, rfl, q⟩
variable (K : PySem.W.Frag)
theorem op_eqIK (hu : X.A.units + 8 < cLine) (h : X.K = K := by rfl) : OpR X (compareOp .Eq) (rEqI K) := h ▸ op_eqI hu
theorem op_neIK (hu : X.A.units + 8 < cLine) (h : X.K = K := by rfl) : OpR X (compareOp .NotEq) (rNeI K) := h ▸ op_neI hu
end
/-! ### a comprehension over a range -/
section
variable {tn : List Str} {cp : List (Nat × Str)} {g : TG} {tif : TT} {te : TE} {σ0 : St} {Q : VK} {H1 : Hp} {lo : Int} {n : Nat}
def PRng (S : St → Prop) (f : Nat → V) (H1 : Hp) (i : Nat) (ys : List V) (σ : St) (H : Hp) : Prop := Same H1 H ∧ S σ ∧ ys = (List.range i).map f
theorem cr_map (S : St → Prop) (f : Nat → V) (hn : n ≤ 1000) (h0 : S (stB tn cp σ0))
    (hs : ∀ D i σ H, i < n → Same H1 H → H1 D = none → H D = some (.lst ((List.range i).map f)) → S σ → g (.int (lo + i)) σ H fun σ2 H2 => tif σ2 H2 fun c H3 =>
      if c = true then te σ2 H3 fun v H4 => CStep D n i (PRng S f H1) σ2 v H4 else CSkip D n i (PRng S f H1) σ2 H3)
    (hd : ∀ D H, H1 D = none → Same H1 H → H D = some (.lst ((List.range n).map f)) → Q (.ref D) H) : cBody tn cp g tif te σ0 Q (Itr lo n) H1 := by
  refine cb_by n (fun D => PRng S f H1) (small_line hn) (fun D hD => ⟨same_upd hD _, h0, rfl⟩) (fun D i ys σ H _ hi _ _ => hi) (fun D ys σ H _ _ _ => Nat.le_refl _) ?_ ?_
  · rintro D i ys σ H x H' hD hi hH hl ⟨p1, p2, rfl⟩ ⟨rfl, rfl⟩
    exact hs D i σ _ hi p1 hD hH p2
  · rintro D ys σ H hD hH hl ⟨p1, p2, rfl⟩
    exact hd D H hD p1 hH
theorem cr_step {S : St → Prop} {f : Nat → V} {D : Addr} {i : Nat} {v : V} {σ2 : St} {H4 : Hp} (hn : n ≤ 1000) (hi : i < n) (hD : H1 D = none) (h4 : H4 D = some (.lst ((List.range i).map f))) (g4 : Same H1 H4) (s2 : S σ2) (e : v = f i) : CStep D n i (PRng S f H1) σ2 v H4 := by
  subst e
  refine cstep (small_line hn) hi h4 (by simp) ⟨g4.wr hD _, s2, ?_⟩
  rw [List.range_succ, List.map_append]
  rfl
end
/-- what is a tuple stays -/
def TupS (H H' : Hp) : Prop := ∀ b xs, H b = some (.tup xs) → H' b = some (.tup xs)
theorem Same.tups {H H' : Hp} (g : Same H H') : TupS H H' := fun b xs e => g b _ e
theorem TupS.refl (H : Hp) : TupS H H := fun _ _ e => e
theorem TupS.trans {H H1 H2 : Hp} (a : TupS H H1) (b : TupS H1 H2) : TupS H H2 := fun c xs e => b c xs (a c xs e)
/-- a list is written -/
theorem TupS.wr {H : Hp} {p : Addr} {xs : List V} (h : H p = some (.lst xs)) (o : HO) : TupS H (upd H p o) := fun b ys e => by rw [upd_ne (ne_of e h (by intro z; cases z))]; exact e
end L2

set_option Elab.async false
set_option linter.all false
set_option maxRecDepth 100000
/-! zip of a list and a tuple; enumerate of a list -/
namespace L2
open PySem PySem.Spec PyProof.Rows
/-- the five records of a zip of a list and a tuple, at turn i -/
structure ZipL (h : Heap) (z ti ro j1 j2 t1 t2 : Addr) (f0 : Value) (i : Nat) : Prop where
  z : IsZip h z ti ro f0
  ti : IsPair h ti (.ref j1) (.ref j2)
  ro : ∃ a b, IsPair h ro a b
  j1 : h.IsListIter j1 t1 i
  j2 : h.IsTupleIter j2 t2 i
section
variable {P : Program} {w : World} {A : Around} {E : Value → Shared → Prop} {s : Shared} {z ti ro j1 j2 t1 t2 : Addr} {i : Nat} {its1 its2 : Array Value}
end
section
variable {P : Program} {w : World} {A : Around} {E : Value → Shared → Prop} {s : Shared}
end
/-! ### the iterator -/
/-! ### enumerate -/
end L2

set_option Elab.async false
set_option linter.all false
set_option maxRecDepth 100000
/-! dict(pairs), dicts by a compare, len of a dict of tuples, max of a list, list.index; comprehensions whose items are new tuples -/
namespace L2
open PySem PySem.Spec PyProof.Rows
section
variable {P : Program} {w : World} {κ : Type} [DecidableEq κ] {knd : KeyKind P w κ} {A : Around} {R : Result → Shared → Prop} {it : Addr} {fp wr : List Addr} {G : Array GenState → Array GenState → Prop} {n : Nat} {Pv : Nat → Value → Prop} {St : Nat → Shared → Prop}
/-- the pairs' tuples, as they stand -/
def PairsAt (knd : KeyKind P w κ) (h : Heap) (bad : List Addr) (Pv : Nat → Value → Prop) (kvs : List (κ × Value)) : Prop := ∀ i v k u, Pv i v → kvs[i]? = some (k, u) → ∃ p key, v = .ref p ∧ p ∉ bad ∧ knd.is k key = true ∧ h.IsTuple p #[key, u]
theorem PairsAt.kept {h h' : Heap} {bad : List Addr} {kvs : List (κ × Value)} (x : PairsAt knd h bad Pv kvs) (k : ∀ b o, b ∉ bad → h.get? b = some o → h'.get? b = some o) : PairsAt knd h' bad Pv kvs := fun i v k' u pv e => by
  obtain ⟨p, key, e1, e2, e3, o, ho, r⟩ := x i v k' u pv e
  exact ⟨p, key, e1, e2, e3, o, k p o e2 ho, r⟩
end
section
variable {P : Program} {w : World} {κ : Type} [DecidableEq κ] {knd : KeyKind P w κ} {A : Around} {E : Value → Shared → Prop} {s : Shared}
end
/-! ### dicts, by values -/
theorem DGet.b {H : Hp} {a : Addr} {kvs : List (Key × V)} {b : Bool} (e : H a = some (.dK kvs)) : DGet H a (.bl b) (valV kvs (.inl (blI b))) := .inl ⟨kvs, _, .inl e, .inr ⟨b, rfl, rfl⟩, rfl⟩
theorem DPut.b {H : Hp} {a : Addr} {kvs : List (Key × V)} {b : Bool} {v : V} (e : H a = some (.dK kvs)) (hl : kvs.length < sizeLine) : DPut H a (.bl b) v (upd H a (.dK (putK kvs (.inl (blI b)) v))) := .inl ⟨kvs, _, e, .inr ⟨b, rfl, rfl⟩, hl, rfl⟩
theorem DGet.n {H : Hp} {a : Addr} {kvs : List (Key × V)} {n : Int} (e : H a = some (.dK kvs)) : DGet H a (.int n) (valV kvs (.inl n)) := DGet.k (k := .inl n) e
theorem DPut.n {H : Hp} {a : Addr} {kvs : List (Key × V)} {n : Int} {v : V} (e : H a = some (.dK kvs)) (hl : kvs.length < sizeLine) : DPut H a (.int n) v (upd H a (.dK (putK kvs (.inl n) v))) := DPut.k (k := .inl n) e hl
def rInDc (neg : Bool) : R2 := fun y x H Q => ∃ a o, x = .ref a ∧ DGet H a y o ∧ Q (.bl (if neg then !o.isSome else o.isSome)) H
section
variable {X : Cx} {o i value : Expr} {pos pos' : Pos} {td ty tv : TE}
theorem op_notin_d (hu : X.A.units + 8 < cLine) : OpR X (compareOp .NotIn) (rInDc true) := by
  intro pins s σ H y x v u Q I ry rx h
  obtain ⟨a, o, rfl, g, q⟩ := h
  obtain rfl : u = Value.ref a := rx
  exact d_notIn (by omega) I g ry fun s3 I3 => ⟨.bl (!o.isSome), H, I3, rfl, q⟩
theorem pe_dgetH (hu : X.A.units + 8 < cLine) (ho : PE X o td) (hi : PE X i ty) (hs : NoSl i) : PE X (.Subscript o i pos) (tDGet td ty) := pe_dget (by omega) ho hi hs
theorem ps_dputH (hu : X.A.units + 8 < cLine) (ho : PE X o td) (hi : PE X i ty) (hv : PE X value tv) (hs : swapsWith value (some (.Subscript o i pos')) pos.line X.env = pure false) :
    PS X (.Assign [.Subscript o i pos'] value pos) (sDPut td ty tv) := ps_dput (by omega) ho hi hv hs
def tDNewN : TE := fun _ H Q => ∀ p H', New H p (.dK []) H' → Q (.ref p) H'
def tDNewTN : TE := fun _ H Q => ∀ p H', New H p (.dT []) H' → Q (.ref p) H'
theorem pe_dnewN : PE X (.Dict [] [] pos) tDNewN := fun pins s σ H Q I h => pe_dnewK pins s σ H Q I fun p np => h p _ (.mk' np _)
theorem pe_dnewTN : PE X (.Dict [] [] pos) tDNewTN := fun pins s σ H Q I h => pe_dnewT pins s σ H Q I fun p np => h p _ (.mk' np _)
def rLenD : List V → Hp → VK → Prop := fun xs H Q => ∃ a kvs, xs = [V.ref a] ∧ H a = some (.dK kvs) ∧ Q (.int kvs.length) H
theorem call_lenDK : CallR X (.builtin "len") rLenD := call_lenD
end
section
variable {prog : Program} {w : World} {κ : Type} [DecidableEq κ] {knd : HeapKind prog w κ} {A : Around} {E : Value → Shared → Prop} {s : Shared}
theorem meets_len_h (d : Addr) (hd : (d == sysModules) = false) :
    MeetsIn prog w (Builtin.«dict.__len__» ⟨[.ref d], []⟩) (fun _ R s => ∃ xs, s.heap.DictOfH knd d xs ∧ R (.ok (.ret (.int xs.length s.toks))) { s with toks := s.toks + 1 }) :=
  .of_wp fun A R s ⟨xs, hm, h⟩ => by
    obtain ⟨o, es, ep, ho, hc, hdat, he, _⟩ := hm
    show wpAny _ _ (dictSize d >>= _) _ _ s
    unfold dictSize
    refine wpAny_bind (wpAny_bind (wpAny_dictEntries ho hdat (wpAny_pure ?_)))
    show wpAny _ _ (Builtin.Dict.pendingCount d >>= _) _ _ s
    refine wpAny_bind (wpAny_pendingCount_other hd (wpAny_ret_mkInt ?_))
    have e : es.size = xs.length := by rw [← Array.length_toList, he, List.length_map]
    rw [Nat.add_zero, e]
    exact h
theorem len_dict_h {d : Addr} {xs : List (κ × Addr × Value)} {Q : Value → Shared → Prop} (hd : (d == sysModules) = false) (hm : s.heap.DictOfH knd d xs) (hfit : (xs.length : Int) < 2 ^ 63) (hT : s.TypeIs (.ref d) "dict")
    (h : Q (.int xs.length (s.toks + 1)) { s with toks := s.toks + 1 + 1 }) : wpAny (model prog w) A (call (.builtin "len") [.ref d]) Q E s := by
  refine Calls.call_function_entry kind_len plain_len entry_len (args_len1 _) ?_
  unfold Builtin.«len»
  refine wpAny_bind (m := oneArg "len" _) (wpAny_pure ?_)
  refine wpAny_bind (m := callSpecial? (.ref d) (Str.ofString "__len__")) (wpAny_callSpecial?_slot (name := Str.ofString "__len__") hT PySem.F.slot_dict_len (call_meetsIn PySem.F.slot_dict_len hT PySem.F.entry_dict_len (PySem.F.args_dict_len_1 _) (meets_len_h d hd) ⟨xs, hm, ?_⟩))
  show wpAny _ _ _ _ _ { s with toks := s.toks + 1 }
  refine wpAny_bind (wpAny_holding (wpAny_pure (wpAny_bind (wpAny_letGo ?_))))
  show wpAny _ _ (if ((xs.length : Nat) : Int) < 0 then _ else _) _ _ _
  rw [if_neg (by omega)]
  show wpAny _ _ (if ((xs.length : Nat) : Int) ≥ 2 ^ 63 then _ else _) _ _ _
  rw [if_neg (by omega)]
  exact wpAny_bind (wpAny_mkInt (wpAny_pure ⟨_, rfl, h⟩))
end
def rLenT : List V → Hp → VK → Prop := fun xs H Q => ∃ a kvs, xs = [V.ref a] ∧ H a = some (.dT kvs) ∧ Q (.int kvs.length) H
theorem call_lenT {X : Cx} : CallR X (.builtin "len") rLenT := by
  intro pins s σ H xs us Q I r h
  obtain ⟨a, kvs, rfl, ha, q⟩ := h
  obtain ⟨u, rfl, ru⟩ := vals1 r
  cases ru
  obtain ⟨z, hd, ys, rel, dd⟩ := dt_of I.hok ha
  have el := Paired.length rel
  have hT : s.TypeIs (.ref a) "dict" := by obtain ⟨o, _, _, ho, hc, _⟩ := id dd; exact ⟨o, ho, hc.1⟩
  refine len_dict_h hd dd (by rw [sizeLine_eq] at z; omega) hT ?_
  rw [← el]
  exact ⟨.int kvs.length, H, I.tok _, ⟨_, rfl⟩, q⟩
/-! ### dict(pairs) -/
/-! ### max of a list, index -/
def rMaxL (K : PySem.W.Frag) : List V → Hp → VK → Prop := fun xs H Q => ∃ (p : Addr) (ns : List Int), xs = [.ref p] ∧ SqL K H p (ns.map V.int) ∧ 0 < ns.length ∧ ∀ M, M ∈ ns → (∀ a ∈ ns, a ≤ M) → Q (.int M) H
theorem call_max_l {X : Cx} (hc : X.calm = true) : CallR X (.builtin "max") (rMaxL X.K) := by
  intro pins s σ H xs us Q I r h
  obtain ⟨p, ns, rfl, hx, hne, q⟩ := h
  obtain ⟨u, rfl, rx⟩ := vals1 r
  cases (show u = Value.ref p from rx)
  obtain ⟨vs, rv, pl, _⟩ := I.list hx
  have hi := intsAre_of rv
  obtain ⟨xs, e⟩ := hi.allInts.items
  have hl' : s.heap.IsList p (intItems xs) := e ▸ pl.isList
  have hns : ns = xs.toList.map (·.1) := by
    rw [← nums_intItems, ← e]
    exact (show numsOf vs.toArray.toList = ns from hi.numsOf).symm
  have hsz : 0 < xs.size := by rw [hns, List.length_map, Array.length_toList] at hne; exact hne
  refine max_intList (I.ok.hd hc) hl' hsz fun v h' tk hv hk => ?_
  obtain ⟨t, rfl⟩ := intItems_at hv
  obtain ⟨h1, h2⟩ := argBest_gt (numAt xs) (xs.size - 1)
  refine ⟨.int _, H, I.kept hk, ⟨_, rfl⟩, q _ ?_ fun a ha => ?_⟩
  · rw [hns, numAt_eq]; exact getD_mem (by rw [List.length_map, Array.length_toList]; omega)
  · rw [hns] at ha
    obtain ⟨j, hj, rfl⟩ := mem_getD ha
    rw [List.length_map, Array.length_toList] at hj
    rw [← numAt_eq]; exact h2 j (by omega)
theorem call_max_lK {X : Cx} (K : PySem.W.Frag) (hc : X.calm = true) (h : X.K = K := by rfl) : CallR X (.builtin "max") (rMaxL K) := h ▸ call_max_l hc
def rIndex (K : PySem.W.Frag) : V → List V → Hp → VK → Prop := fun x vs H Q => ∃ (p : Addr) (ns : List Int) (k : Int), x = .ref p ∧ vs = [.int k] ∧ SqL K H p (ns.map V.int) ∧ k ∈ ns ∧ ns.length ≤ 1000 ∧ Q (.int (ns.idxOf k : Nat)) H
theorem mt_index {X : Cx} : MtR X "list.index" (rIndex X.K) := by
  intro pins s σ H x xs v us Q I rx rs h
  obtain ⟨p, ns, k, rfl, rfl, hx, hk, hz, q⟩ := h
  cases rx
  obtain ⟨u, rfl, t, rfl⟩ := vals1 rs
  obtain ⟨vs, rv, pl, _⟩ := I.list hx
  have hi := intsAre_of rv
  obtain ⟨⟨cls, dd, data, sl⟩, ho, hc, n, hd⟩ := pl.isList
  simp only at hc hd
  subst hc hd
  have hlen := hi.length
  have hj : ns.idxOf k < ns.length := List.idxOf_lt_length_iff.mpr hk
  refine call_meets PySem.F.slot_list_index ⟨_, ho, rfl⟩ PySem.F.entry_list_index (PySem.F.args_list_index_2 _ _)
    (SeqAt.list_indexAt p vs.toArray n dd sl (.int k t) (isInt k) (ns.idxOf k) (by simpa [hlen] using hj) (by omega) ?_ ?_) ⟨ho, fun y hy => (eq_isInt k t hi y (by simpa using hy)).at _ _, ?_⟩
  · show isInt k vs[ns.idxOf k] = true
    rw [isInt_at k hi _ (by omega) hj]
    simpa using List.getElem_idxOf hj
  · intro j hjs hlt
    show isInt k vs[j] = false
    rw [isInt_at k hi j (by simpa using hjs) (by omega)]
    exact ne_of_lt_idxOf hlt _
  · exact ⟨.int _, H, I.tok _, ⟨_, rfl⟩, q⟩
theorem mt_indexK {X : Cx} (K : PySem.W.Frag) (h : X.K = K := by rfl) : MtR X "list.index" (rIndex K) := h ▸ mt_index
/-! ### a tuple more -/
def rCatTN (K : PySem.W.Frag) : R2 := fun x y H Q => ∃ a b xs ys, x = .ref a ∧ y = .ref b ∧ SqT K H a xs ∧ SqT K H b ys ∧ xs ≠ [] ∧ ys ≠ [] ∧ xs.length + ys.length ≤ sizeLine ∧ ∀ p H', New H p (.tup (xs ++ ys)) H' → Q (.ref p) H'
theorem op_catTN {X : Cx} : OpR X (binaryOp .Add) (rCatTN X.K) := fun pins s σ H x y v u Q I rx ry h => by
  obtain ⟨a, b, xs, ys, e1, e2, ha, hb, hx, hy, hz, q⟩ := h
  exact op_catT pins s σ H x y v u Q I rx ry ⟨a, b, xs, ys, e1, e2, ha, hb, hx, hz, fun z => absurd z hy, fun _ p np => q p _ (.mk' np _)⟩
theorem op_catTNK {X : Cx} (K : PySem.W.Frag) (h : X.K = K := by rfl) : OpR X (binaryOp .Add) (rCatTN K) := h ▸ op_catTN
/-! ### a comprehension by what holds of each item -/
section
variable {tn : List Str} {cp : List (Nat × Str)} {g : TG} {tif : TT} {te : TE} {σ0 : St} {Q : VK} {H1 : Hp} {n : Nat}
def PGen (S : St → Prop) (G : Nat → V → Hp → Prop) (H1 : Hp) (i : Nat) (ys : List V) (σ : St) (H : Hp) : Prop := Same H1 H ∧ S σ ∧ ys.length = i ∧ ∀ j y, ys[j]? = some y → G j y H
theorem cg_by {J : It} (S : St → Prop) (G : Nat → V → Hp → Prop) (hn : n ≤ 1000) (h0 : S (stB tn cp σ0)) (hgo : ∀ i H, i < n → Same H1 H → J.go i H) (hstop : ∀ H, Same H1 H → J.stop n H)
    (hs : ∀ D i ys σ H x H', i < n → Same H1 H → H1 D = none → H D = some (.lst ys) → ys.length = i → (∀ j y, ys[j]? = some y → G j y H) → S σ → J.yld i H x H' → g x σ H' fun σ2 H2 => tif σ2 H2 fun c H3 =>
      if c = true then te σ2 H3 fun v H4 => CStep D n i (PGen S G H1) σ2 v H4 else CSkip D n i (PGen S G H1) σ2 H3)
    (hd : ∀ D ys H, H1 D = none → Same H1 H → H D = some (.lst ys) → ys.length = n → (∀ j y, ys[j]? = some y → G j y H) → Q (.ref D) H) : cBody tn cp g tif te σ0 Q J H1 := by
  refine cb_by n (fun D => PGen S G H1) (small_line hn) (fun D hD => ⟨same_upd hD _, h0, rfl, fun j y e => by simp at e⟩) (fun D i ys σ H _ hi _ p => hgo i H hi p.1) (fun D ys σ H _ _ p => hstop H p.1) ?_ ?_
  · rintro D i ys σ H x H' hD hi hH hl ⟨p1, p2, p3, p4⟩ hy
    exact hs D i ys σ H x H' hi p1 hD hH p3 p4 p2 hy
  · rintro D ys σ H hD hH hl ⟨p1, p2, p3, p4⟩
    exact hd D ys H hD p1 hH p3 p4
theorem cg_step {S : St → Prop} {G : Nat → V → Hp → Prop} {D : Addr} {i : Nat} {ys : List V} {v : V} {σ2 : St} {H H4 : Hp} (hG : ∀ j y H H', TupS H H' → G j y H → G j y H') (hn : n ≤ 1000) (hi : i < n) (hD : H1 D = none) (h4 : H4 D = some (.lst ys)) (hl : ys.length = i)
    (hy : ∀ j y, ys[j]? = some y → G j y H) (ts : TupS H H4) (g4 : Same H1 H4) (s2 : S σ2) (e : G i v H4) : CStep D n i (PGen S G H1) σ2 v H4 := by
  refine cstep (small_line hn) hi h4 (by omega) ⟨g4.wr hD _, s2, by simp [hl], fun j y ej => ?_⟩
  by_cases h : j < ys.length
  · rw [List.getElem?_append_left h] at ej
    exact hG j y _ _ (ts.trans (TupS.wr h4 _)) (hy j y ej)
  · rw [List.getElem?_append_right (by omega)] at ej
    have e0 : j - ys.length = 0 := by
      cases hj : j - ys.length with
      | zero => rfl
      | succ k => rw [hj] at ej; simp at ej
    rw [e0] at ej
    simp at ej
    subst ej
    rw [show j = i by omega]
    exact hG i _ _ _ (TupS.wr h4 _) e
end
end L2

set_option Elab.async false
set_option linter.all false
set_option maxRecDepth 100000
/-! a dict written with one pair, its key a tuple -/
namespace L2
open PySem PySem.Spec PyProof.Rows
end L2

set_option Elab.async false
set_option linter.all false
set_option maxRecDepth 100000
/-! tuples compared by != ; list(range(a, b)); [x] * n -/
namespace L2
open PySem PySem.Spec PyProof.Rows
def NeOk (X : Cx) (k : Nat) (H : Hp) (x y : V) (b : Bool) : Prop := ∀ (pins : List (Addr × Obj)) (σ : St) (s : Shared) (A : Around) (u v : Value), A.units + k < cLine → Inv X pins σ H s → RelV x u → RelV y v → SeqAt.RcNeAt A s u v b
theorem neok_tups {X : Cx} {k : Nat} {H : Hp} {a b : Addr} {xs ys : List V} (hx : SqT X.K H a xs) (hy : SqT X.K H b ys) (e : Nat → Bool) (he : ∀ j (h1 : j < xs.length) (h2 : j < ys.length), EqOk X k H xs[j] ys[j] (e j)) :
    NeOk X (k + 1) H (.ref a) (.ref b) (!((List.range (min xs.length ys.length)).all e && xs.length == ys.length)) := fun pins σ s A u v hu I rx ry => by
  cases (show u = Value.ref a from rx)
  cases (show v = Value.ref b from ry)
  obtain ⟨us, r1, p1, _⟩ := I.tuple hx
  obtain ⟨vs, r2, p2, _⟩ := I.tuple hy
  have l1 := r1.length
  have l2 := r2.length
  have q := SeqAt.RcNeAt.tuples (A := A) (e := e) p1 p2 (by omega) fun j h1 h2 => by
    rw [List.size_toArray] at h1 h2
    obtain ⟨g1, q1⟩ := r1.at h1
    obtain ⟨g2, q2⟩ := r2.at h2
    exact he j g1 g2 pins σ s A.in1 _ _ (by show A.units + 1 + k < cLine; omega) I (by simpa using q1) (by simpa using q2)
  rw [List.size_toArray, List.size_toArray, ← l1, ← l2] at q
  exact q
def rNeM (X : Cx) : R2 := fun x y H Q => ∃ c, NeOk X 8 H x y c ∧ Q (.bl c) H
theorem op_neM {X : Cx} (hu : X.A.units + 8 < cLine) : OpR X (compareOp .NotEq) (rNeM X) := by
  intro pins s σ H x y v u Q I rx ry h
  obtain ⟨c, r, q⟩ := h
  exact r pins σ s X.A v u hu I rx ry _ _ _ _ ⟨.bl c, H, I, rfl, q⟩
theorem vals_of : ∀ {xs : List V} {us : List Value}, xs.length = us.length → (∀ (j : Nat) x y, xs[j]? = some x → us[j]? = some y → RelV x y) → Vals xs us
  | [], [], _, _ => .nil
  | [], _ :: _, h, _ => by simp at h
  | _ :: _, [], h, _ => by simp at h
  | x :: xs, y :: ys, h, f => .cons (f 0 x y rfl rfl) (vals_of (by simpa using h) fun j a b e1 e2 => f (j + 1) a b (by simpa using e1) (by simpa using e2))
/-! ### range objects -/
def rRange2 : List V → Hp → VK → Prop := fun xs H Q => ∃ i j : Int, xs = [.int i, .int j] ∧ ∀ p H', New H p (.rng i j) H' → Q (.ref p) H'
theorem call_range2V {X : Cx} : CallR X (.type "range") rRange2 := by
  intro pins s σ H xs us Q I r h
  obtain ⟨i, j, rfl, q⟩ := h
  obtain ⟨u, v, rfl, ⟨t, rfl⟩, ⟨t', rfl⟩⟩ := vals2 r
  refine call_range_2 ⟨.ref s.heap.objs.size, _, I.laid (t' := s.toks + 1) (fun b o e => Heap.get?_push_of_some _ e) (Nat.le_refl _) ?_, rfl, q _ _ (.mk' I.fresh _)⟩
  exact ⟨_, _, _, Heap.get?_push_size _ rfl⟩
def rListRng : List V → Hp → VK → Prop := fun xs H Q => ∃ (p : Addr) (i j : Int), xs = [.ref p] ∧ H p = some (.rng i j) ∧ (0 ≤ i ∧ i ≤ j ∧ j ≤ 1000) ∧ ∀ l H', New H l (.lst ((List.range (j - i).toNat).map fun (k : Nat) => V.int (i + k))) H' → Q (.ref l) H'
theorem call_list_rng {X : Cx} (hc : X.calm = true) : CallR X (.type "list") rListRng := by
  intro pins s σ H xs us Q I r h
  obtain ⟨p, i, j, rfl, hp, ⟨h1, h2, h3⟩, q⟩ := h
  obtain ⟨u, rfl, rx⟩ := vals1 r
  cases (show u = Value.ref p from rx)
  obtain ⟨t, u, v, ho⟩ := I.hok p _ hp
  have hn : Builtin.Range.rangeSize i j 1 = ((j - i).toNat : Nat) := by rw [rangeSize_one]; split <;> omega
  refine call_list_range (I.ok.hd hc) ho (small_one (by omega) (by omega) (by omega) (by omega)) hn (Nat.le_trans (show (j - i).toNat ≤ 1000 by omega) (by decide)) fun h' tk acc c k hS hacc => ?_
  refine ⟨.ref s.heap.objs.size, _, I.laid (t' := tk) k (Nat.le_refl _) ?_, rfl, q _ _ (.mk' I.fresh _)⟩
  refine ⟨by rw [List.length_map, List.length_range]; exact small_line (by omega), acc.toList, c, ?_, by simpa using hS⟩
  obtain ⟨sz, it⟩ := hacc
  refine vals_of (by rw [List.length_map, List.length_range, Array.length_toList, sz]) fun m x y e1 e2 => ?_
  have hm : m < (j - i).toNat := by
    have := (List.getElem?_eq_some_iff.mp e1).1
    rw [List.length_map, List.length_range] at this
    exact this
  rw [List.getElem?_map, List.getElem?_range hm] at e1
  cases e1
  obtain ⟨tt, et⟩ := it m y (by simpa using e2)
  exact ⟨tt, by rw [et]; simp⟩
def rRepN : R2 := fun x y H Q => ∃ l k xs, x = .ref l ∧ y = .int k ∧ H l = some (.lst xs) ∧ -(2 ^ 63) ≤ k ∧ k < 2 ^ 63 ∧ xs.length * k.toNat ≤ sizeLine ∧ ∀ p H', New H p (.lst (List.replicate k.toNat xs).flatten) H' → Q (.ref p) H'
theorem op_repN {X : Cx} : OpR X (binaryOp .Mult) rRepN := fun pins s σ H x y v u Q I rx ry h => by
  obtain ⟨l, k, xs, e1, e2, h1, h2, h3, h4, q⟩ := h
  exact op_rep pins s σ H x y v u Q I rx ry ⟨l, k, xs, e1, e2, h1, h2, h3, h4, fun p np => q p _ (.mk' np _)⟩
end L2

set_option Elab.async false
set_option linter.all false
set_option maxRecDepth 100000
/-! enumerate of a zip of two tuples -/
namespace L2
open PySem PySem.Spec PyProof.Rows
abbrev IsZipF (h : Heap) (z ti ro : Addr) (f0 f1 : Value) : Prop := h.get? z = some { cls := .type "zip", dict := none, data := .fields #[f0, f1, .bool false, .ref ti, .ref ro], slots := #[] }
/-- the zip's records, whoever holds the tuple handed out last -/
structure ZipG (h : Heap) (z ti ro j1 j2 t1 t2 : Addr) (i : Nat) : Prop where
  z : ∃ f0 f1, IsZipF h z ti ro f0 f1 ∧ (f0 = Value.none ∨ ∃ a : Addr, f0 = rawInt a)
  ti : IsPair h ti (.ref j1) (.ref j2)
  ro : ∃ a b, IsPair h ro a b
  j1 : h.IsTupleIter j1 t1 i
  j2 : h.IsTupleIter j2 t2 i
section
variable {P : Program} {w : World} {A : Around} {E : Value → Shared → Prop} {s : Shared} {z ti ro j1 j2 t1 t2 : Addr} {i : Nat} {its1 its2 : Array Value}
end
/-! ### the iterator -/
end L2

set_option Elab.async false
set_option linter.all false
set_option maxRecDepth 100000
/-! dict.get with another thing; a comprehension over a range with a test; what put leaves of the keys -/
namespace L2
open PySem PySem.Spec PyProof.Rows
section
variable {tn : List Str} {cp : List (Nat × Str)} {g : TG} {tif : TT} {te : TE} {σ0 : St} {Q : VK} {H1 : Hp} {lo : Int} {n : Nat}
end
section
variable {κ : Type} [DecidableEq κ]
theorem keys_new {kvs : List (κ × V)} {k : κ} (v : V) (h : valV kvs k = none) : (putK kvs k v).map (·.1) = kvs.map (·.1) ++ [k] := by rw [putK_new v h, List.map_append]; rfl
end
/-- t + u, either may be empty -/
def rCatTE : R2 := fun x y H Q => ∃ a b xs ys, x = .ref a ∧ y = .ref b ∧ H a = some (.tup xs) ∧ H b = some (.tup ys) ∧ xs.length + ys.length ≤ sizeLine ∧ ∀ p H', Same H H' → H' p = some (.tup (xs ++ ys)) → Q (.ref p) H'
end L2

set_option Elab.async false
set_option linter.all false
set_option maxRecDepth 100000
/-! functions made in a body: def within def, lambda; called as values -/
namespace L2
open PySem PySem.Spec PyProof.Rows

/-! ### the table of a code object -/
theorem codeAmong_app {pos pos' : Pos} {v : Value} (l : List Value) (h : TriplesOk l) : codeAmong pos' (l ++ [rawInt pos.line, rawInt pos.col, v]) = match codeAmong pos' l with
    | some x => some x
    | none => if ((pos.line : Int) == (pos'.line : Int) && (pos.col : Int) == (pos'.col : Int)) = true then some v else none := by
  fun_induction TriplesOk l with
  | case1 => simp [codeAmong, rawInt]
  | case2 a t b u x rest ih =>
    simp only [List.cons_append, codeAmong]
    split
    · rfl
    · exact ih h
  | case3 l h1 h2 => exact h.elim
/-- the table at P, tracked: what it holds for the places qs are code objects, kept -/
def TabOk (H : Hp) (P : Addr) (qs : List (Pos × Str)) : Prop := ∃ ps : Array Value, H P = some (.tbl qs ps)
theorem TabOk.same {H H' : Hp} {P : Addr} {qs : List (Pos × Str)} (T : TabOk H P qs) (g : Same H H') : TabOk H' P qs := let ⟨ps, h⟩ := T; ⟨ps, g _ _ h⟩
def KCode (K : PySem.W.Frag) (c P : Addr) : Prop := ∃ o vs file tf flags tg inF text tt, K.lookup c = some o ∧ o.cls = .type "code" ∧ o.data = .fields vs ∧ vs[11]? = some (.ref P) ∧ vs.getD 11 .none = .ref P ∧ vs.getD 18 .none = .str file tf ∧
  vs.getD 7 .none = .int flags tg ∧ vs.getD 9 .none = .bool inF ∧ vs.getD 10 .none = .int text tt ∧ c ≠ P
section
variable {X : Cx} {pins : List (Addr × Obj)} {σ : St} {H : Hp} {s : Shared}
theorem fn_code {E : Value → Shared → Prop} {c P : Addr} {qs : List (Pos × Str)} {pos : Pos} {line : Nat} {name qual : Str} {params : Arguments} {scope : Scope} {body : FuncBody} {Q : Value → Shared → Prop} (I : Inv X pins σ H s) (hc : X.env.code = .ref c) (kc : KCode X.K c P)
    (T : TabOk H P qs) (hq : (pos, qual) ∈ qs) (hone : ∀ p ∈ qs, p.1.line = pos.line → p.1.col = pos.col → p.2 = qual)
    (h : ∀ c' o H' s', Inv X pins σ H' s' → H' c' = some (.frz o (.own c')) → CodeObj o qual → Same H H' → Q (.ref c') s') :
    wpAny (model X.prog X.w) X.A (functionCode X.env pos line name qual params scope body) Q E s := by
  obtain ⟨ps0, hP⟩ := T
  obtain ⟨more, hop, htr, hcs⟩ := I.hok P _ hP
  obtain ⟨oc, vs, file, tf, flags, tg, inF, text, tt, lk, hcl, hd, h11', h11, h18, h7, h9, h10, hne⟩ := kc
  have ho : s.heap.get? c = some oc := I.kIn c oc lk
  generalize hps : ps0 ++ more = ps at hop htr hcs
  cases hf : codeAmong pos ps.toList with
  | some v =>
    obtain ⟨c', o, rfl, hc', co⟩ := hcs _ hq v hf
    unfold functionCode codeAt
    rw [hc, if_neg (show ¬ ((Value.ref c == Value.none) = true) from Bool.false_ne_true)]
    refine wpAny_bind (wpAny_fieldsOf ho hd ?_)
    rw [h11]
    refine wpAny_bind (wpAny_fieldsOf hop rfl ?_)
    rw [hf]
    exact wpAny_pure (h c' o H s I hc' co fun _ _ e => e)
  | none =>
    have ic : s.heap.IsCode c P ps := ⟨oc, vs, file, tf, flags, tg, inF, text, tt, _, ho, hd, h11, h18, h7, h9, h10, hop, rfl, htr, hne⟩
    refine wpAny_functionCodeX hc ic ⟨⟨oc, vs, ho, hcl, hd, h11'⟩, hop⟩ hf fun c' h' tk hx hge hlt hic hrec htab _ => ?_
    obtain ⟨c₂, o', vs', t', e, hc', hd', hv'⟩ := hrec
    cases e
    have nPn : ∀ b, H b = none → b ≠ P := fun b e z => by rw [z, hP] at e; cases e
    have hcn : H c' = none := I.hok.fresh hge
    have nc : ∀ b u, H b = some u → b ≠ c' := fun b u e z => by rw [z, hcn] at e; cases e
    have nP : ∀ b u, H b = some u → (∀ a b, u ≠ .tbl a b) → b ≠ P := fun b u e n z => by rw [z, hP] at e; cases e; exact n _ _ rfl
    have up : ∀ b u, H b = some u → upd H c' (.frz o' (.own c')) b = some u := fun b u e => by rw [upd_ne (nc b u e)]; exact e
    have co : CodeObj o' qual := ⟨vs', t', hd', hv'⟩
    have I' : Inv X pins σ (upd H c' (.frz o' (.own c'))) { s with heap := h', toks := tk } := by
      refine I.un ⟨fun b o e n _ _ => hx b o (nPn b n) e, fun b o e n _ _ => ⟨o.slots, hx b o (nPn b n) e⟩, fun b o e n _ => ?_, fun b o e _ => ?_, fun b xs e => up b _ e, fun b o u e => up b _ e, fun b qs ps e => up b _ e⟩ fun b u e => ?_
      · rw [upd_ne (Nat.ne_of_lt (Nat.lt_of_lt_of_le (Heap.lt_size e) hge))]; exact n
      · by_cases hb : b = P
        · subst hb; exact ⟨_, htab.2⟩
        · exact ⟨o, hx b o hb e⟩
      · by_cases hb : b = c'
        · subst hb
          rw [upd_same] at e; cases e
          exact ⟨hc', _, hc'⟩
        · rw [upd_ne hb] at e
          by_cases hbP : b = P
          · subst hbP
            rw [hP] at e; cases e
            have hl : (ps ++ #[rawInt pos.line, rawInt pos.col, Value.ref c']).toList = ps.toList ++ [rawInt pos.line, rawInt pos.col, .ref c'] := by simp
            have e2 : ps0 ++ (more ++ #[rawInt pos.line, rawInt pos.col, Value.ref c']) = ps ++ #[rawInt pos.line, rawInt pos.col, Value.ref c'] := by rw [← Array.append_assoc, hps]
            refine ⟨more ++ #[rawInt pos.line, rawInt pos.col, .ref c'], by rw [e2]; exact htab.2, by rw [e2, hl]; exact TriplesOk_snoc _ _ _ _ htr, fun p hp v e => ?_⟩
            rw [e2, hl, codeAmong_app _ htr] at e
            cases hv : codeAmong p.1 ps.toList with
            | some x =>
              rw [hv] at e
              cases e
              obtain ⟨c1, o1, e1, e2, e3⟩ := hcs p hp _ hv
              exact ⟨c1, o1, e1, up c1 _ e2, e3⟩
            | none =>
              rw [hv] at e
              simp only at e
              split at e
              · rename_i hh
                cases e
                rw [Bool.and_eq_true] at hh
                have e1 : pos.line = p.1.line := by have := hh.1; simp at this; omega
                have e2 : pos.col = p.1.col := by have := hh.2; simp at this; omega
                exact ⟨c', o', rfl, upd_same, by rw [hone p hp e1.symm e2.symm]; exact co⟩
              · cases e
          · refine (I.hok b u e).stay (fun c w hc q => hx c w ?_ q) (fun c q => up c _ q) (fun c _ _ _ _ q => up c _ q) fun c xs q => up c _ q
            rcases hc with rfl | hc
            · exact hbP
            · exact nP c _ hc fun _ _ z => nomatch z
    exact h c' o' _ _ I' upd_same co up
/-! ### making one -/
def cloFd (name qual : Str) (params : Arguments) (body : FuncBody) (scope : Scope) (cl : List (Str × Addr)) (ct cd pm : Value) : FuncData :=
  { name, qualname := qual, params, body, scope, globals := mainGlobals, closure := cl, closureTuple := ct, code := cd, builtins := builtinsNs, defaults := .none, kwdefaults := .none, annotations := none, pyModule := pm, doc := .none }
def BltK (base : Heap) (mg : Str → Option Value) : Prop := ∃ bm o, mg "__builtins__" = some (.ref bm) ∧ bm ≠ builtinsNs ∧ base.get? bm = some o ∧ o.cls = .type "module" ∧ o.dict = some builtinsNs ∧ o.data = .plain
def NoDoc : FuncBody → Prop
  | .stmts b => docOf b = none
  | .expr _ => True
/-- the function at f, just made in X -/
structure Made (X : Cx) (H H' : Hp) (name qual : Str) (params : Arguments) (body : FuncBody) (scope : Scope) (f : Addr) : Prop where
  old : Same H H'
  new : H f = none
  ex : ∃ cl ct c' oc pm, (∀ x c, cl.lookup x = some c → X.env.cells.lookup x = some c) ∧ (∀ p ∈ scope.names, p.2 = .free → ∃ c, cl.lookup p.1 = some c) ∧ H' c' = some (.frz oc (.own c')) ∧ CodeObj oc qual ∧
    H' f = some (.frz { cls := .type "function", data := .func (cloFd name qual params body scope cl ct (.ref c') pm) } (.own f))
theorem make_fn {E : Value → Shared → Prop} {c P : Addr} {qs : List (Pos × Str)} {pos : Pos} {line : Nat} {name qual : Str} {params : Arguments} {scope : Scope} {body : FuncBody} {Q : Value → Shared → Prop} (I : Inv X pins σ H s) (hc : X.env.code = .ref c) (kc : KCode X.K c P) (kb : BltK X.base X.mg)
    (hfr : ∀ p ∈ scope.names, p.2 = .free → X.env.kindOf p.1 = some .cell ∨ X.env.kindOf p.1 = some .free) (nd : NoDoc body)
    (T : TabOk H P qs) (hq : (pos, qual) ∈ qs) (hone : ∀ p ∈ qs, p.1.line = pos.line → p.1.col = pos.col → p.2 = qual)
    (h : ∀ f H' s', Inv X pins σ H' s' → Made X H H' name qual params body scope f → Q (.ref f) s') :
    wpAny (model X.prog X.w) X.A (makeFunction name qual params body scope X.env [] [] [] pos line) Q E s := by
  obtain ⟨cl, hcl, hcl1, hcl2⟩ := closure_of (scope := scope) (env := X.env) fun p hp hf => I.ok.has p.1 (hfr p hp hf)
  obtain ⟨bm, ob, b1, b2, b3, b4, b5, b6⟩ := kb
  have tail : ∀ (ct : Value) (s1 : Shared), Inv X pins σ H s1 → wpAny (model X.prog X.w) X.A (do
      let fd : FuncData := { name, qualname := qual, params, body, scope, globals := X.env.globals, closure := cl, closureTuple := ct, code := ← functionCode X.env pos line name qual params scope body, builtins := ← builtinsFor X.env.globals X.env.builtins, defaults := .none, kwdefaults := .none, annotations := none, pyModule := (← nsGet X.env.globals "__name__").getD .none, doc := ← match body with | .stmts b => (match docOf b with | some s => mkText s | none => pure .none) | .expr _ => pure .none }
      newObj (.type "function") (.func fd)) Q E s1 := by
    intro ct s1 I1
    refine wpAny_bind (fn_code I1 hc kc T hq hone fun c' oc H' s' I' e1 co up => ?_)
    have hg : s'.heap.Ns X.env.globals X.mg := by rw [I'.ok.glob]; exact I'.mod.glob.keeps I'.bk
    refine wpAny_bind (wpAny_builtinsFor hg b1 b2 (I'.bk bm ob b3) b4 b5 b6 ?_)
    refine wpAny_bind (wpAny_nsGet hg ?_)
    have fin : wpAny (model X.prog X.w) X.A (newObj (.type "function") (.func { name, qualname := qual, params, body, scope, globals := X.env.globals, closure := cl, closureTuple := ct, code := .ref c', builtins := builtinsNs, defaults := .none, kwdefaults := .none, annotations := none, pyModule := (X.mg "__name__").getD .none, doc := .none })) Q E s' := by
      refine wpAny_newObj_type ?_ (by size_fits)
      rw [I'.ok.glob]
      have hfn : H' s'.heap.objs.size = none := I'.fresh
      have hfn0 : H s'.heap.objs.size = none := by
        cases e : H s'.heap.objs.size with
        | none => rfl
        | some u => rw [up _ u e] at hfn; cases hfn
      have nf : ∀ b u, H' b = some u → b ≠ s'.heap.objs.size := fun b u e z => by rw [z, hfn] at e; cases e
      have I2 := I'.laid (a := s'.heap.objs.size) (o := .frz { cls := .type "function", data := .func (cloFd name qual params body scope cl ct (.ref c') ((X.mg "__name__").getD .none)) } (.own s'.heap.objs.size)) (t' := s'.toks)
        (h' := s'.heap.push { cls := .type "function", data := .func (cloFd name qual params body scope cl ct (.ref c') ((X.mg "__name__").getD .none)) }) (fun b u e => Heap.get?_push_of_some _ e) (Nat.le_refl _) ⟨Heap.get?_push_size _ rfl, _, Heap.get?_push_size _ rfl⟩
      refine h _ _ _ I2 ⟨fun b u e => by rw [upd_ne (nf b u (up b u e))]; exact up b u e, hfn0, cl, ct, c', oc, _, hcl1, hcl2, by rw [upd_ne (nf c' _ e1)]; exact e1, co, upd_same⟩
    cases body with
    | expr e => exact wpAny_bind (wpAny_pure fin)
    | stmts b =>
      have nd' : docOf b = none := nd
      refine wpAny_bind ?_
      show wpAny _ _ (match docOf b with | some s => mkText s | none => pure .none) _ _ _
      rw [nd']
      exact wpAny_pure fin
  rw [makeFunction_eq]
  simp only [List.isEmpty_nil, if_true, List.zip_nil_right, List.filterMap_nil]
  refine wpAny_bind (wpAny_pure (wpAny_bind (wpAny_pure (wpAny_bind (wpAny_pure ?_)))))
  unfold makeTail
  rw [hcl]
  refine wpAny_bind (wpAny_pure ?_)
  show wpAny _ _ (if cl.isEmpty = true then _ else _) _ _ _
  by_cases he : cl.isEmpty = true
  · rw [if_pos he]
    exact wpAny_bind (wpAny_pure (tail .none s I))
  · rw [if_neg he]
    refine wpAny_bind (wpAny_newTextTuple ?_)
    exact (tail _ _ (I.kept (t' := s.toks) fun b o e => Heap.get?_push_of_some _ e))
end
end L2

set_option Elab.async false
set_option linter.all false
set_option maxRecDepth 100000
/-! functions as values: called, and what is promised of one made in a body -/
namespace L2
open PySem PySem.Spec PyProof.Rows
def fnO (fd : FuncData) (f : Addr) : HO := .frz { cls := .type "function", data := .func fd } (.own f)
/-- what is frozen stays -/
def Frz (H H' : Hp) : Prop := ∀ b o u, H b = some (.frz o u) → H' b = some (.frz o u)
theorem Frz.refl (H : Hp) : Frz H H := fun _ _ _ e => e
theorem Frz.trans {H H1 H2 : Hp} (a : Frz H H1) (b : Frz H1 H2) : Frz H H2 := fun c o u e => b c o u (a c o u e)
theorem Same.frz {H H' : Hp} (g : Same H H') : Frz H H' := fun b o u e => g _ _ e
/-- the function at f keeps sp, wherever what is frozen in H is so yet -/
def CloH (P : Program) (w : World) (K : PySem.W.Frag) (mg : Str → Option Value) (base : Heap) (k : Nat) (H : Hp) (f : Addr) (n : Nat) (sp : Sp) : Prop :=
  ∀ (A : Around) (outer : List Env) (s : Shared) (H' : Hp) (us : List Value) (vs : List V) (Q : VK), Room k A → Env0 P w K mg base A outer s H' → Frz H H' → Vals vs us → vs.length = n → sp vs H' Q E0 →
    codeAny (model P w) A (.call (.ref f) ⟨us, []⟩) (CR CX0 outer P w H' s Q E0) s
theorem CloH.mono {P : Program} {w : World} {K : PySem.W.Frag} {mg : Str → Option Value} {base : Heap} {k : Nat} {H H1 : Hp} {f : Addr} {n : Nat} {sp : Sp} (c : CloH P w K mg base k H f n sp) (g : Frz H H1) : CloH P w K mg base k H1 f n sp :=
  fun A outer s H' us vs Q hr e0 fz => c A outer s H' us vs Q hr e0 (g.trans fz)
/-- x(..), x a name whose value is a function -/
def tCallV (P : Program) (w : World) (K : PySem.W.Frag) (mg : Str → Option Value) (base : Heap) (k n : Nat) (sp : Sp) (i : Nat) (t : TA) : TE := fun σ H Q => ∃ f fd, σ[i]? = some (some (.ref f)) ∧ H f = some (fnO fd f) ∧
  t σ H fun vs H1 => H1 f = some (fnO fd f) ∧ CloH P w K mg base k H1 f n sp ∧ vs.length = n ∧ sp vs H1 Q E0
theorem keep_one (f : Addr) (fd : FuncData) : PySem.W.keepIn [(f, { cls := .type "function", data := .func fd })] (.ref f) = true := by
  unfold PySem.W.keepIn
  simp [List.lookup]
theorem pe_callV {X : Cx} {x : Str} {i k n : Nat} {sp : Sp} {p pos : Pos} {e : Expr} {es : List Expr} {t : TA} (hN : X.N[i]? = some x) (hv : Vis X.env.scope x) (hr : Room k X.A) (ha : PA X (e :: es) t)
    (hd : (x == ("__debug__" : Str)) = false := by decide) (hcd : (x == ("__classdict__" : Str)) = false := by decide) (he : starEach (e :: es) X.env = (false, eval e X.env) :: starEach es X.env := by rfl) (hpl : (backTo pos (starEach es X.env)).any (·.1) = false := by rfl) :
    PE X (.Call (.Name x p) (e :: es) [] pos) (tCallV X.prog X.w X.K X.mg X.base k n sp i t) := by
  intro pins s σ H Q I h
  obtain ⟨f, fd, hs, hf, h⟩ := h
  refine wpAny_Call_Name_kw (thn (pe_var (pos := p) hN hv hd hcd pins s σ H (fun v H' => v = .ref f ∧ H' = H) I ⟨.ref f, hs, rfl, rfl⟩) fun u s1 ⟨v, H1, I1, r1, e1, e2⟩ => ?_)
  subst e1 e2
  cases (show u = Value.ref f from r1)
  have at1 : ∀ {H2 : Hp} {s2 : Shared}, Inv X pins σ H2 s2 → H2 f = some (fnO fd f) → PySem.W.Frag.In [(f, { cls := .type "function", data := .func fd })] s2.heap := fun {H2 s2} I2 hf2 a o e => by
    simp only [List.lookup] at e
    split at e
    · rename_i q
      cases e
      rw [beq_iff_eq.mp q]
      exact (I2.hok f _ hf2).1
    · cases e
  refine PySem.W.callWith_K (K := [(f, { cls := .type "function", data := .func fd })]) (h₀ := s1.heap) (at1 I1 hf) (keep_one f fd) (thn (ha pos pins s1 σ H1 _ I1 h) fun us s2 ⟨vs, H2, I2, r, hf2, c, hl, q⟩ => ⟨at1 I2 hf2, ?_⟩) he hpl
  refine wpAny_call (codeAny_mono (c X.A X.stack s2 H2 us vs Q hr I2.env0 (Frz.refl _) r hl q) fun r s' hq => ?_)
  cases r with
  | error e => exact False.elim hq
  | ok fl =>
    cases fl with
    | ret u => exact I2.after hq
    | next => exact False.elim hq
    | brk => exact False.elim hq
    | cont => exact False.elim hq
/-! ### def and lambda within a body -/
def tDef (X : Cx) (P : Addr) (qs : List (Pos × Str)) (name qual : Str) (params : Arguments) (body : FuncBody) (scope : Scope) (j : Nat) : TS := fun D σ H => TabOk H P qs ∧ ∀ f H', Made X H H' name qual params body scope f → D.nx (σ.set j (some (.ref f))) H'
def tLam (X : Cx) (P : Addr) (qs : List (Pos × Str)) (name qual : Str) (params : Arguments) (body : FuncBody) (scope : Scope) : TE := fun σ H Q => TabOk H P qs ∧ ∀ f H', Made X H H' name qual params body scope f → Q (.ref f) H'
section
variable {X : Cx} {c P : Addr} {qs : List (Pos × Str)} {pos : Pos} {name qual : Str} {params : Arguments} {scope : Scope}
theorem pe_lambda {body : Expr} (hc : X.env.code = .ref c) (kc : KCode X.K c P) (kb : BltK X.base X.mg) (hfr : ∀ p ∈ scope.names, p.2 = .free → X.env.kindOf p.1 = some .cell ∨ X.env.kindOf p.1 = some .free)
    (hq : (pos, qual) ∈ qs) (hone : ∀ p ∈ qs, p.1.line = pos.line → p.1.col = pos.col → p.2 = qual) (hd : params.defaults = []) (hk : params.kw_defaults = []) (hqual : X.env.qual ++ "<lambda>" = qual) :
    PE X (.Lambda params body scope pos) (tLam X P qs "<lambda>" qual params (.expr body) scope) := by
  intro pins s σ H Q I h
  obtain ⟨T, h⟩ := h
  rw [arm_eval_Lambda]
  have hdo : defaultsOf params X.env = ([], []) := by rw [defaultsOf_eq, hd, hk]; rfl
  simp only [hdo]
  refine wpAny_bind (wpAny_pure (wpAny_bind (wpAny_holding (wpAny_pure ?_))))
  rw [hqual]
  exact make_fn I hc kc kb hfr trivial T hq hone fun f H' s' I' M => ⟨.ref f, H', I', rfl, h f H' M⟩
theorem ps_defn {j : Nat} {body : List Stmt} (hc : X.env.code = .ref c) (kc : KCode X.K c P) (kb : BltK X.base X.mg) (hfr : ∀ p ∈ scope.names, p.2 = .free → X.env.kindOf p.1 = some .cell ∨ X.env.kindOf p.1 = some .free) (nd : docOf body = none)
    (hq : (pos, qual) ∈ qs) (hone : ∀ p ∈ qs, p.1.line = pos.line → p.1.col = pos.col → p.2 = qual) (hd : params.defaults = []) (hk : params.kw_defaults = []) (ha : ∀ e, annTrees params none e = []) (hqual : qualnameIn X.env name name = qual)
    (hN : X.N.Nodup) (hj : X.N[j]? = some name) (hx : X.env.scope.names.lookup name = some .local) : PS X (.FunctionDef name params body [] none [] scope none name pos) (tDef X P qs name qual params (.stmts body) scope j) := by
  intro pins s σ H D I h
  obtain ⟨T, h⟩ := h
  rw [exec_def]
  have hdo : defaultsOf params X.env = ([], []) := by rw [defaultsOf_eq, hd, hk]; rfl
  simp only [hdo, ha, hqual]
  refine wpAny_bind (wpAny_standAt (wpAny_bind (wpAny_holding (wpAny_bind (wpAny_pure (wpAny_bind (wpAny_holding (wpAny_pure (wpAny_holding (wpAny_bind (wpAny_pure ?_)))))))))))
  refine make_fn I hc kc kb hfr nd T hq hone fun f H' s' I' M => wpAny_bind (wpAny_standAt (wpAny_bind (wpAny_bindName ?_)))
  exact store_ok I' hN hj (.inl hx) (v := .ref f) rfl (fun s2 I2 => wpAny_pure ⟨_, H', I2, h f H' M⟩) (.inr hx)
end
/-! ### the cells of this body, frozen while another def runs -/
def CellOf (X : Cx) (b : Addr) : Prop := ∃ x, X.env.cells.lookup x = some b
def Adopted (X : Cx) (σ : St) (H Hq : Hp) : Prop := (∀ b, ¬ CellOf X b → Hq b = H b) ∧ (∀ b, CellOf X b → H b = none) ∧ (∀ x y c, X.env.cells.lookup x = some c → X.env.cells.lookup y = some c → x = y) ∧ ∀ x c, X.env.cells.lookup x = some c → ∃ o v, Hq c = some (.frz o (.own c)) ∧ o.data = .cell v ∧
  ∀ (i : Nat) y, X.N[i]? = some x → σ[i]? = some (some y) → (X.env.kindOf x = some .cell ∨ X.env.kindOf x = some .free) → ∃ u, RelV y u ∧ v = some u
open Classical in
noncomputable def dropX (X : Cx) (H : Hp) : Hp := fun b => if CellOf X b then none else H b
def tCallA (X : Cx) (sp : Sp) (t : TA) : TE := fun σ H Q => t σ H fun vs H1 => ∀ Hq, Adopted X σ H1 Hq → sp vs Hq (fun v H2 => Q v (dropX X H2)) E0
theorem pe_callA {X : Cx} {k : Nat} {f : Addr} {fd : FuncData} {ps : List Str} {sp : Sp} {x : Str} {p pos : Pos} {e : Expr} {es : List Expr} {t : TA} (F : FnOk X.prog X.w X.K X.mg X.base CX0 k f fd ps sp) (hr : Room k X.A) (hg : Gl X x) (hm : X.mg x = some (.ref f)) (hk : PySem.W.keepIn X.K (.ref f) = true) (hb : Binds X.K fd ps [])
    (hfn : ∀ x, X.fn x = true) (ha : PA X (e :: es) t) (hdb : (x == ("__debug__" : Str)) = false := by decide) (he : starEach (e :: es) X.env = (false, eval e X.env) :: starEach es X.env := by rfl) (hpl : (backTo pos (starEach es X.env)).any (·.1) = false := by rfl) :
    PE X (.Call (.Name x p) (e :: es) [] pos) (tCallA X sp t) := by
  classical
  intro pins s σ H Q I h
  refine wpAny_Call_Name_kw (ld_glob I hg hm ?_ hdb)
  refine PySem.W.callWith_K (h₀ := X.base) I.ok.mod.kin hk (thn (ha pos pins s σ H _ I h) fun us s1 ⟨vs, H1, I1, r, q⟩ => ⟨I1.kIn, ?_⟩) he hpl
  let Hq : Hp := fun b => if CellOf X b then (s1.heap.get? b).map fun o => .frz o (.own b) else H1 b
  have q1 : ∀ b, ¬ CellOf X b → Hq b = H1 b := fun b n => if_neg n
  have q2 : ∀ x c, X.env.cells.lookup x = some c → ∃ o v, s1.heap.get? c = some o ∧ o.data = .cell v ∧ Hq c = some (.frz o (.own c)) := fun x c e => by
    obtain ⟨v, o, ho, hd⟩ := I1.cell x c e
    exact ⟨o, v, ho, hd, by show (if CellOf X c then _ else _) = _; rw [if_pos ⟨x, e⟩, ho]; rfl⟩
  have tr : ∀ b u, H1 b = some u → ¬ CellOf X b := fun b u e ⟨x, z⟩ => by rw [I1.freeC x b z] at e; cases e
  have ad : Adopted X σ H1 Hq := ⟨q1, fun b ⟨x, z⟩ => I1.freeC x b z, I1.ok.inj, fun x c e => by
    obtain ⟨o, v, ho, hd, hq⟩ := q2 x c e
    refine ⟨o, v, hq, hd, fun i y e1 e2 e3 => ?_⟩
    obtain ⟨m, hn, hl⟩ := I1.loc
    obtain ⟨u, ru, l⟩ := hl i x y e1 e2 (by rcases e3 with z | z; exact .inr (.inl z); exact .inr (.inr z))
    rcases l with ⟨z, _⟩ | ⟨_, c', hc', o', ho', hd'⟩
    · rcases e3 with y' | y' <;> (rw [z] at y'; cases y')
    · rw [e] at hc'; cases hc'
      rw [ho] at ho'; cases ho'
      rw [hd] at hd'; cases hd'
      exact ⟨u, ru, rfl⟩⟩
  have low : ∀ b, CellOf X b → X.s₀.heap.objs.size ≤ b := fun b ⟨x, e⟩ => I1.ok.cab x b (hfn x) e
  have nfr : ∀ b ∈ frs X.stack, ¬ CellOf X b := fun b hb ⟨x, e⟩ => by
    rcases List.mem_cons.mp (I1.stkSub b hb) with z | z
    · exact I1.cne x b e z
    · obtain ⟨_, o, ho, _⟩ := I1.ok.funs.mem z
      exact absurd (Nat.lt_of_lt_of_le (Heap.lt_size ho) (low b ⟨x, e⟩)) (Nat.lt_irrefl _)
  have up : ∀ b u, H1 b = some u → Hq b = some u := fun b u e => by rw [q1 b (tr b u e)]; exact e
  have hokq : HOk X.prog X.w Hq s1.heap := fun b u e => by
    by_cases hc : CellOf X b
    · obtain ⟨x, ex⟩ := hc
      obtain ⟨o, v, ho, hd, hq⟩ := q2 x b ex
      rw [hq] at e; cases e
      exact ⟨ho, o, ho⟩
    · rw [q1 b hc] at e
      exact (I1.hok b u e).stay (fun _ _ _ z => z) (fun c z => up c _ z) (fun c _ _ _ _ z => up c _ z) fun c xs z => up c _ z
  have e0 := I1.env0
  have e0q : Env0 X.prog X.w X.K X.mg X.base X.A X.stack s1 Hq := ⟨e0.frames, e0.mod, fun b o e => ⟨(e0.bs b o e).1, by
    rw [q1 b fun hc => absurd (Nat.lt_of_lt_of_le (Heap.lt_size e) (Nat.le_trans I1.ok.bsz (low b hc))) (Nat.lt_irrefl _)]; exact (e0.bs b o e).2⟩, e0.bsz, e0.funs, fun b hb => by rw [q1 b (nfr b hb)]; exact e0.frf b hb, hokq, e0.bare⟩
  have hl : us.length = ps.length := by rw [← r.length]; exact F.len _ _ _ _ (q Hq ad)
  refine wpAny_call (codeAny_mono (F.run X.A X.stack s1 Hq ⟨us, []⟩ us vs _ E0 hr e0q (by have := hb s1 us I1.kIn (by rw [List.append_nil]; exact hl); rw [List.append_nil] at this; exact this) r (q Hq ad)) fun r s' hq => ?_)
  cases r with
  | error e => exact False.elim hq
  | ok fl =>
    cases fl with
    | next => exact False.elim hq
    | brk => exact False.elim hq
    | cont => exact False.elim hq
    | ret u =>
      obtain ⟨v, H2, os, bare, un, hok2, rv, qq⟩ := hq
      have c2 : ∀ x c, X.env.cells.lookup x = some c → ∃ o, s1.heap.get? c = some o ∧ H2 c = some (.frz o (.own c)) ∧ s'.heap.get? c = some o := fun x c e => by
        obtain ⟨o, v, ho, hd, hq⟩ := q2 x c e
        have z := un.frzs c o _ hq
        exact ⟨o, ho, z, (hok2 c _ z).1⟩
      have d1 : ∀ b, ¬ CellOf X b → dropX X H2 b = H2 b := fun b n => if_neg n
      have nmC : ∀ b o u q, CodeObj o q → H2 b = some (.frz o u) → ¬ CellOf X b := fun b o u q ⟨vs, t, hv, _⟩ e ⟨x, z⟩ => by
        obtain ⟨o', ho', z2, _⟩ := c2 x b z
        rw [z2] at e; cases e
        obtain ⟨v, o3, ho, hd⟩ := I1.cell x b z
        rw [ho'] at ho; cases ho
        rw [hv] at hd; cases hd
      have nm : ∀ b u, H2 b = some u → (∀ o a, u ≠ .frz o a) → ¬ CellOf X b := fun b u e n ⟨x, z⟩ => by
        obtain ⟨o, _, z2, _⟩ := c2 x b z
        rw [z2] at e; cases e
        exact n _ _ rfl
      refine I1.after ⟨v, dropX X H2, os, bare, ⟨fun b o e n hf hx => ?_, fun b o e n hf hx => ?_, fun b o e n hx => ?_, fun b o e hx => ?_, fun b xs e => ?_, fun b o a e => ?_, fun b qs ps e => ?_⟩, fun b u e => ?_, rv, qq⟩
      · by_cases hc : CellOf X b
        · obtain ⟨x, ex⟩ := hc
          obtain ⟨o', ho', _, z⟩ := c2 x b ex
          rw [e] at ho'; cases ho'
          exact z
        · exact un.keep b o e (by rw [q1 b hc]; exact n) hf hx
      · exact un.slot b o e (by rw [q1 b (nfr b hf)]; exact n) hf hx
      · by_cases hc : CellOf X b
        · exact if_pos hc
        · rw [d1 b hc]; exact un.free b o e (by rw [q1 b hc]; exact n) hx
      · exact un.there b o e hx
      · rw [d1 b (tr b _ e)]; exact un.tups b xs (up b _ e)
      · rw [d1 b (tr b _ e)]; exact un.frzs b o a (up b _ e)
      · rw [d1 b (tr b _ e)]; exact un.tbls b qs ps (up b _ e)
      · have hc : ¬ CellOf X b := fun hc => by
          have : dropX X H2 b = none := if_pos hc
          rw [this] at e; cases e
        rw [d1 b hc] at e
        exact (hok2 b u e).stay (fun _ _ _ z => z) (fun c z => by rw [d1 c (nm c _ z fun _ _ y => nomatch y)]; exact z) (fun c o a q co z => by rw [d1 c (nmC c o a q co z)]; exact z) fun c xs z => by rw [d1 c (nm c _ z fun _ _ y => nomatch y)]; exact z
theorem paired_len {α β : Type} {R : α → β → Prop} : ∀ {xs : List α} {ys : List β}, Paired R xs ys → xs.length = ys.length
  | _, _, .nil => rfl
  | _, _, .cons _ t => by rw [List.length_cons, List.length_cons, paired_len t]
theorem caps_at {α β : Type} {R : α → β → Prop} : ∀ {xs : List α} {ys : List β} {i : Nat} {x : α} {y : β}, Paired R xs ys → xs[i]? = some x → ys[i]? = some y → R x y
  | _, _, _, _, _, .nil, e, _ => by simp at e
  | _, _, 0, _, _, .cons r _, e1, e2 => by simp at e1 e2; subst e1 e2; exact r
  | _, _, i + 1, _, _, .cons _ t, e1, e2 => caps_at (i := i) t (by simpa using e1) (by simpa using e2)
theorem zip_keys : ∀ {ps : List Str} {us : List Value}, ps.Nodup → ((ps.zip us).map (·.1)).Nodup
  | [], _, _ => by simp
  | _ :: _, [], _ => by simp
  | p :: ps, u :: us, h => by
    rw [List.zip_cons_cons, List.map_cons]
    refine List.nodup_cons.mpr ⟨fun hm => ?_, zip_keys (List.nodup_cons.mp h).2⟩
    obtain ⟨q, hq, e⟩ := List.mem_map.mp hm
    have e' : q.1 = p := e
    exact (List.nodup_cons.mp h).1 (e' ▸ (List.of_mem_zip (show (q.1, q.2) ∈ ps.zip us from hq)).1)
theorem look_mem {x : Str} {u : Value} : ∀ {l : List (Str × Value)}, (l.map (·.1)).Nodup → (x, u) ∈ l → l.lookup x = some u
  | [], _, h => by simp at h
  | (y, v) :: l, nd, h => by
    rw [List.map_cons] at nd
    rw [List.lookup_cons]
    rcases List.mem_cons.mp h with e | h
    · cases e; simp
    · have : (x == y) = false := by
        rw [beq_eq_false_iff_ne]
        intro z
        exact (List.nodup_cons.mp nd).1 (z ▸ List.mem_map.mpr ⟨_, h, rfl⟩)
      rw [this]
      exact look_mem (List.nodup_cons.mp nd).2 h
theorem zip_look {ps : List Str} {us : List Value} {i : Nat} {x : Str} {u : Value} (nd : ps.Nodup) (h1 : ps[i]? = some x) (h2 : us[i]? = some u) : (ps.zip us).reverse.lookup x = some u := by
  refine look_mem ?_ (List.mem_reverse.mpr (List.mem_of_getElem? (i := i) (List.getElem?_zip_eq_some.mpr ⟨h1, h2⟩)))
  rw [List.map_reverse]
  exact (List.reverse_perm _).nodup_iff.mpr (zip_keys nd)
/-! ### the promise of a function made in a body -/
def envL (qual : Str) (scope : Scope) (cl : List (Str × Addr)) (L f : Addr) (cd : Value) : Env :=
  { scope := scope, locals := L, globals := mainGlobals, cells := cl, qual := qual ++ ".<locals>.", func := some f, code := cd, frame := some L, builtins := builtinsNs }
def InCl (cl : List (Str × Addr)) (b : Addr) : Prop := ∃ x, cl.lookup x = some b
open Classical in
noncomputable def dropL (cl : List (Str × Addr)) (H : Hp) : Hp := fun b => if InCl cl b then none else H b
open Classical in
noncomputable def mixL (cl : List (Str × Addr)) (H H2 : Hp) : Hp := fun b => if InCl cl b then H b else H2 b
noncomputable def cxL (P : Program) (w : World) (K : PySem.W.Frag) (mg : Str → Option Value) (base : Heap) (N : List Str) (qual : Str) (scope : Scope) (cl : List (Str × Addr)) (f : Addr) (cd : Value) (A : Around) (outer : List Env) (s : Shared) (H : Hp) : Cx where
  prog := P
  w := w
  K := K
  mg := mg
  base := base
  A := A.deeper (envL qual scope cl s.heap.objs.size f cd)
  N := N
  s₀ := s
  H₀ := dropL cl H
  env := envL qual scope cl s.heap.objs.size f cd
  outer := outer
  stack := envL qual scope cl s.heap.objs.size f cd :: outer
  ex := []
  calm := true
  fn := fun _ => false
  pn := []
  xe := fun _ _ => False
structure CloScope (own ps cap : List Str) (sc : Scope) : Prop where
  kind : sc.kind = .function
  co : sc.isCoroutine = false
  gen : sc.isGenerator = false
  nocell : ∀ y ∈ sc.names, y.2 ≠ .cell
  pre : own.take ps.length = ps
  nd : ps.Nodup
  par : ∀ x ∈ ps, sc.names.lookup x = some .local
  cap : ∀ x ∈ cap, sc.names.lookup x = some .free
/-- the captured names' values, by what is frozen -/
def Caps (H : Hp) (cl : List (Str × Addr)) (cap : List Str) (cv : List V) : Prop := Paired (fun x v => ∃ c o u, cl.lookup x = some c ∧ H c = some (.frz o (.own c)) ∧ o.data = .cell (some u) ∧ RelV v u) cap cv
def stL (own : List Str) (vs cv : List V) : St := vs.map some ++ List.replicate (own.length - vs.length) none ++ cv.map some
section
variable {P : Program} {w : World} {K : PySem.W.Frag} {mg : Str → Option Value} {base : Heap} {A : Around} {outer : List Env} {s : Shared} {H : Hp} {own ps cap : List Str} {qual : Str} {scope : Scope} {cl : List (Str × Addr)} {f : Addr} {cd : Value} {vs cv : List V} {us : List Value}
theorem drop_cells {H : Hp} (hcl : ∀ x c, cl.lookup x = some c → ∃ o v, H c = some (.frz o (.own c)) ∧ o.data = .cell v) {b : Addr} {u : HO} (e : H b = some u) (n : ∀ o a, u ≠ .frz o a) : ¬ InCl cl b := fun ⟨x, z⟩ => by
  obtain ⟨o, v, z2, _⟩ := hcl x b z
  rw [z2] at e; cases e
  exact n _ _ rfl
theorem drop_code {H : Hp} (hcl : ∀ x c, cl.lookup x = some c → ∃ o v, H c = some (.frz o (.own c)) ∧ o.data = .cell v) {b : Addr} {o : Obj} {a : HO} {q : Str} (co : CodeObj o q) (e : H b = some (.frz o a)) : ¬ InCl cl b := fun ⟨x, z⟩ => by
  obtain ⟨o, v, z2, z3⟩ := hcl x b z
  rw [z2] at e; cases e
  obtain ⟨vs, t, hv, _⟩ := co
  rw [hv] at z3; cases z3
theorem inv_clo {h1 : Heap} {tk : Nat} (S : CloScope own ps cap scope) (hd : A.handled = none) (e0 : Env0 P w K mg base A outer s H) (hl : vs.length = ps.length) (hlo : ps.length ≤ own.length) (r : Vals vs us)
    (hcl : ∀ x c, cl.lookup x = some c → ∃ o v, H c = some (.frz o (.own c)) ∧ o.data = .cell v) (hfr : ∀ p ∈ scope.names, p.2 = .free → ∃ c, cl.lookup p.1 = some c) (inj : ∀ x y c, cl.lookup x = some c → cl.lookup y = some c → x = y) (hcap : Caps H cl cap cv)
    (hns : h1.Ns s.heap.objs.size (fun x => (ps.zip us).reverse.lookup x)) (hk : ∀ b o, s.heap.get? b = some o → h1.get? b = some o) :
    Inv (cxL P w K mg base (own ++ cap) qual scope cl f cd A outer s H) [] (stL own vs cv) (dropL cl H) { s with heap := h1, toks := tk } := by
  classical
  have d1 : ∀ b, ¬ InCl cl b → dropL cl H b = H b := fun b n => if_neg n
  have dn : ∀ b, H b = none → dropL cl H b = none := fun b e => by
    by_cases hc : InCl cl b
    · exact if_pos hc
    · rw [d1 b hc]; exact e
  have noA : ∀ b : Addr, b ∉ (cxL P w K mg base (own ++ cap) qual scope cl f cd A outer s H).ex := fun b z => absurd (show b ∈ ([] : List Addr) from z) (by simp)
  have at' : ∀ x c, cl.lookup x = some c → ∃ o v, s.heap.get? c = some o ∧ o.data = .cell v := fun x c e => by
    obtain ⟨o, v, z, zd⟩ := hcl x c e
    exact ⟨o, v, (e0.hok c _ z).1, zd⟩
  have hok0 : HOk P w (dropL cl H) s.heap := fun b u e => by
    have hc : ¬ InCl cl b := fun hc => by
      have : dropL cl H b = none := if_pos hc
      rw [this] at e; cases e
    rw [d1 b hc] at e
    exact (e0.hok b u e).stay (fun _ _ _ z => z) (fun c z => by rw [d1 c (drop_cells hcl z fun _ _ y => nomatch y)]; exact z) (fun c o a q co z => by rw [d1 c (drop_code hcl co z)]; exact z) fun c xs z => by rw [d1 c (drop_cells hcl z fun _ _ y => nomatch y)]; exact z
  refine ⟨⟨e0.mod, S.kind, rfl, rfl, Nat.le_refl _, inj, fun x hx => ?_, fun x c hx => (by cases hx), fun _ => hd, Around.frames_deeper e0.frames, .inr ⟨rfl, rfl⟩, fun b z => absurd z (noA b), fun b o e => ⟨(e0.bs b o e).1, dn b (e0.bs b o e).2⟩, e0.bsz, fun b _ _ => noA b, fun b z => absurd z (noA b), e0.funs, fun b hb => dn b (e0.frf b hb)⟩,
    rfl, e0.bare, Un.kept hk, ⟨_, hns, fun i x v e1 e2 e3 => ?_⟩, fun x c e => ?_, hok0.fresh (Nat.le_refl _), fun x c e => if_pos ⟨x, e⟩, fun p hp => absurd (show p ∈ ([] : List (Addr × Obj)) from hp) (by simp), hok0.kept hk, ?_⟩
  · have hx : scope.names.lookup x = some .cell ∨ scope.names.lookup x = some .free := hx
    rcases hx with z | z
    · exact absurd rfl (S.nocell _ (mem_of_lookup' z))
    · exact hfr (x, .free) (mem_of_lookup' z) rfl
  · have e1' : (own ++ cap)[i]? = some x := e1
    have e2' : (vs.map some ++ List.replicate (own.length - vs.length) none ++ cv.map some)[i]? = some (some v) := e2
    have lo : (vs.map some ++ List.replicate (own.length - vs.length) (none : Option V)).length = own.length := by rw [List.length_append, List.length_map, List.length_replicate]; omega
    by_cases hi : i < own.length
    · rw [List.getElem?_append_left (by omega)] at e2'
      by_cases hv : i < vs.length
      · rw [List.getElem?_append_left (by simpa using hv), List.getElem?_map] at e2'
        rw [List.getElem?_append_left hi] at e1'
        have ha : vs[i]? = some v := by
          cases q : vs[i]? with
          | none => rw [q] at e2'; cases e2'
          | some z => rw [q] at e2'; exact congrArg some (Option.some.inj (Option.some.inj e2'))
        obtain ⟨u, hu, ru⟩ := r.get ha
        have hp : ps[i]? = some x := by rw [← S.pre, List.getElem?_take_of_lt (by omega)]; exact e1'
        refine ⟨u, ru, .inl ⟨S.par x (List.mem_of_getElem? hp), ?_⟩⟩
        exact zip_look S.nd hp hu
      · rw [List.getElem?_append_right (by simpa using Nat.le_of_not_lt hv), List.getElem?_replicate] at e2'
        split at e2' <;> cases e2'
    · rw [List.getElem?_append_right (by omega), lo, List.getElem?_map] at e2'
      rw [List.getElem?_append_right (by omega)] at e1'
      have ha : cv[i - own.length]? = some v := by
        cases q : cv[i - own.length]? with
        | none => rw [q] at e2'; cases e2'
        | some z => rw [q] at e2'; exact congrArg some (Option.some.inj (Option.some.inj e2'))
      obtain ⟨c, o, u, hc, hz, hd', ru⟩ := caps_at hcap e1' ha
      exact ⟨u, ru, .inr ⟨.inr (S.cap x (List.mem_of_getElem? e1')), c, hc, o, hk c o (e0.hok c _ hz).1, hd'⟩⟩
  · obtain ⟨o, v, ho, hd'⟩ := at' x c e
    exact ⟨v, o, hk c o ho, hd'⟩
  · have := paired_len hcap
    show (vs.map some ++ List.replicate (own.length - vs.length) none ++ cv.map some).length = (own ++ cap).length
    rw [List.length_append, List.length_append, List.length_map, List.length_replicate, List.length_map, List.length_append]
    omega
theorem clo_fin {N : List Str} {pins : List (Addr × Obj)} {σ' : St} {H2 : Hp} {s' : Shared} {v : V} {u : Value} {Q : VK} (e0 : Env0 P w K mg base A outer s H) (hcl : ∀ x c, cl.lookup x = some c → ∃ o v, H c = some (.frz o (.own c)) ∧ o.data = .cell v)
    (J : Inv (cxL P w K mg base N qual scope cl f cd A outer s H) pins σ' H2 s') (rv : RelV v u) (q : (∀ b, InCl cl b → H2 b = none) → Q v (mixL cl H H2)) : CE outer P w H s Q u s' := by
  classical
  have d1 : ∀ b, ¬ InCl cl b → dropL cl H b = H b := fun b n => if_neg n
  have m1 : ∀ b, ¬ InCl cl b → mixL cl H H2 b = H2 b := fun b n => if_neg n
  have nc : ∀ b, H b = none → ¬ InCl cl b := fun b e ⟨x, z⟩ => by
    obtain ⟨o, v, z2, _⟩ := hcl x b z
    rw [z2] at e; cases e
  have un : Un (frs outer) [] (dropL cl H) H2 s.heap s'.heap := J.base
  have cellK : ∀ x c, cl.lookup x = some c → ∃ o, H c = some (.frz o (.own c)) ∧ s'.heap.get? c = some o ∧ H2 c = none := fun x c e => by
    obtain ⟨o, v, z, _⟩ := hcl x c e
    have ho := (e0.hok c _ z).1
    have dz : dropL cl H c = none := if_pos ⟨x, e⟩
    have nf : c ∉ frs outer := fun hb => by rw [e0.frf c hb] at z; cases z
    exact ⟨o, z, un.keep c o ho dz nf (by simp), un.free c o ho dz (by simp)⟩
  have nm : ∀ b u, H2 b = some u → ¬ InCl cl b := fun b u e ⟨x, z⟩ => by
    obtain ⟨_, _, _, z2⟩ := cellK x b z
    rw [z2] at e; cases e
  refine ⟨v, mixL cl H H2, J.os, J.bare, ⟨fun b o e n hf hx => un.keep b o e (by rw [d1 b (nc b n)]; exact n) hf hx, fun b o e n hf hx => un.slot b o e (by rw [d1 b (nc b n)]; exact n) hf hx, fun b o e n hx => by rw [m1 b (nc b n)]; exact un.free b o e (by rw [d1 b (nc b n)]; exact n) hx, un.there, fun b xs e => ?_, fun b o a e => ?_, fun b qs ps e => ?_⟩, fun b u e => ?_, rv, q fun b ⟨x, z⟩ => let ⟨_, _, _, z2⟩ := cellK x b z; z2⟩
  · have hc := drop_cells hcl e fun _ _ y => nomatch y
    rw [m1 b hc]; exact un.tups b xs (by rw [d1 b hc]; exact e)
  · by_cases hc : InCl cl b
    · show (if InCl cl b then H b else H2 b) = _
      rw [if_pos hc]; exact e
    · rw [m1 b hc]; exact un.frzs b o a (by rw [d1 b hc]; exact e)
  · have hc := drop_cells hcl e fun _ _ y => nomatch y
    rw [m1 b hc]; exact un.tbls b qs ps (by rw [d1 b hc]; exact e)
  · by_cases hc : InCl cl b
    · have e' : H b = some u := by rw [← e]; exact (if_pos hc).symm
      obtain ⟨x, z⟩ := hc
      obtain ⟨o, z1, z2, _⟩ := cellK x b z
      rw [z1] at e'; cases e'
      exact ⟨z2, o, z2⟩
    · rw [m1 b hc] at e
      exact (J.hok b u e).stay (fun _ _ _ z => z) (fun c z => by rw [m1 c (nm c _ z)]; exact z) (fun c _ _ _ _ z => by rw [m1 c (nm c _ z)]; exact z) fun c xs z => by rw [m1 c (nm c _ z)]; exact z
end
section
variable {prog : Program} {w : World} {A : Around} {R : Result → Shared → Prop} {s : Shared}
theorem codeAny_exprC {e : Expr} {env : Env} (h : wpAny (model prog w) (A.deeper env) (eval e env) (fun v s' => R (.ok (.ret v)) s') (fun e s' => wpAny (model prog w) (A.deeper env) (leaving env e) (fun _ s'' => R (.error e) s'') (fun e' s'' => R (.error e') s'') s') s) :
    codeAny (model prog w) A (.expr e env) R s := by
  refine codeAny_of_tree ?_
  show wpAny _ (A.deeper env) (do point; ret (← (eval e env).onRaise (leaving env))) _ _ s
  exact wpAny_bind (wpAny_point (wpAny_bind (wpAny_onRaise (wpAny_mono h (fun v s' h' => wpAny_pure h') fun _ _ h' => h'))))
theorem codeAny_call_exprC {a : Addr} {args : Args} {o : Obj} {fd : FuncData} {body : Expr} (hroom : A.depth < recursionLimit) (ho : s.heap.get? a = some o) (hd' : o.data = .func fd) (hco : fd.scope.isCoroutine = false) (hgen : fd.scope.isGenerator = false) (hbody : fd.body = .expr body) (hcd : s.heap.CodeRec fd.code fd.qualname)
    (h : wpAny (model prog w) A.in1 (bindArgs fd args) (fun binds s₁ =>
      wpAny (model prog w) A.in1 (newFunctionEnv fd.scope fd.globals fd.closure binds (fd.qualname ++ ".<locals>.") (some a) fd.code none fd.builtins)
        (fun env s₂ => s₂.heap.NoLimit ∧ codeAny (model prog w) A (.expr body env) R s₂) (fun e s' => R (.error e) s') s₁) (fun e s' => R (.error e) s') s) :
    codeAny (model prog w) A (.call (.ref a) args) R s := by
  refine codeAny_of_tree ?_
  show wpAny _ A.in1 (callAny (.ref a) args) _ _ s
  simp only [callAny]
  refine wpAny_bind (wpAny_load ho ?_)
  obtain ⟨c, oc, vs, tq, hc, hoc, hdc, hq⟩ := hcd
  simp only [hd', callFunction, hco, hgen, hbody, hc]
  rw [hc] at h
  refine wpAny_bind (m := field (.ref c) 1) (wpAny_field hoc hdc hq (wpAny_bind (wpAny_pure ?_)))
  exact wpAny_bind (wpAny_mono h (fun binds s₁ h₁ => wpAny_bind (wpAny_mono h₁ (fun env s₂ h₂ => wpAny_bind (wpAny_enterFrame h₂.1 hroom
    (wpAny_pure (And.intro rfl h₂.2)))) fun _ _ h' => h')) fun _ _ h' => h')
end
section
variable {P : Program} {w : World} {K : PySem.W.Frag} {mg : Str → Option Value} {base : Heap} {H : Hp} {own ps cap : List Str} {name qual : Str} {params : Arguments} {scope : Scope} {cl : List (Str × Addr)} {f c' : Addr} {oc : Obj} {ct pm : Value} {cv : List V} {k : Nat} {sp : Sp}
theorem Caps.frz {H H' : Hp} (g : Frz H H') : ∀ {cap : List Str} {cv : List V}, Caps H cl cap cv → Caps H' cl cap cv
  | _, _, .nil => .nil
  | _, _, .cons ⟨c, o, u, e1, e2, e3⟩ t => .cons ⟨c, o, u, e1, g _ _ _ e2, e3⟩ (Caps.frz g t)
theorem clo_expr {body : Expr} (S : CloScope own ps cap scope) (hlo : ps.length ≤ own.length) (hf : H f = some (fnO (cloFd name qual params (.expr body) scope cl ct (.ref c') pm) f)) (hcode : H c' = some (.frz oc (.own c'))) (co : CodeObj oc qual)
    (hcl : ∀ x c, cl.lookup x = some c → ∃ o v, H c = some (.frz o (.own c)) ∧ o.data = .cell v) (hfr : ∀ p ∈ scope.names, p.2 = .free → ∃ c, cl.lookup p.1 = some c) (inj : ∀ x y c, cl.lookup x = some c → cl.lookup y = some c → x = y) (hcap : Caps H cl cap cv)
    (hbind : ∀ us : List Value, us.length = ps.length → bindArgs (cloFd name qual params (.expr body) scope cl ct (.ref c') pm) ⟨us, []⟩ = pure (ps.zip us))
    (hbody : ∀ (A : Around) (outer : List Env) (s : Shared) (H' : Hp) (vs : List V) (Q : VK), Room k (A.deeper (envL qual scope cl s.heap.objs.size f (.ref c'))) → Frz H H' → vs.length = ps.length → sp vs H' Q E0 →
      ∃ t, PE (cxL P w K mg base (own ++ cap) qual scope cl f (.ref c') A outer s H') body t ∧ t (stL own vs cv) (dropL cl H') (fun v H2 => (∀ b, InCl cl b → H2 b = none) → Q v (mixL cl H' H2))) : CloH P w K mg base (k + 1) H f ps.length sp := by
  intro A outer s H' us vs Q hr e0 fz r hl hsp
  have KX : K.In s.heap := e0.mod.kin.keeps fun b o e => (e0.bs b o e).1
  have lim : s.heap.NoLimit := e0.mod.nolimit.keeps fun b o e => (e0.bs b o e).1
  have ho := (e0.hok f _ (fz _ _ _ hf)).1
  have hoc := (e0.hok c' _ (fz _ _ _ hcode)).1
  obtain ⟨ws, t', cd1, cd2⟩ := co
  have hlu : us.length = ps.length := by rw [← r.length]; exact hl
  have hcl' : ∀ x c, cl.lookup x = some c → ∃ o v, H' c = some (.frz o (.own c)) ∧ o.data = .cell v := fun x c e => let ⟨o, v, z, d⟩ := hcl x c e; ⟨o, v, fz _ _ _ z, d⟩
  refine codeAny_call_exprC hr.depth ho rfl S.co S.gen rfl ⟨c', oc, ws, t', rfl, hoc, cd1, cd2⟩ ?_
  rw [hbind us hlu]
  refine wpAny_pure (wpAny_newFunctionEnv S.nocell (fun y hy => S.par y.1 (List.of_mem_zip (show (y.1, y.2) ∈ ps.zip us from hy)).1) (fun h1 hns hsb => ?_) S.kind)
  have hk : ∀ b o, s.heap.get? b = some o → h1.get? b = some o := fun b o e => hsb.extBut b o (Nat.ne_of_lt (Heap.lt_size e)) (Heap.get?_push_of_some _ e)
  refine ⟨lim.keeps hk, codeAny_exprC ?_⟩
  obtain ⟨t, ht, hq⟩ := hbody A outer s H' vs Q (hr.deeper _) fz hl hsp
  have I := inv_clo (qual := qual) (f := f) (cd := .ref c') (tk := s.toks + (ps.zip us).length) S hr.hd e0 hl hlo r hcl' hfr inj (hcap.frz fz) hns hk
  exact wpAny_mono (ht [] _ _ _ _ I hq) (fun u s' ⟨v, H2, J, rv, q⟩ => clo_fin e0 hcl' J rv q) fun _ _ z => z.elim
end
end L2

set_option Elab.async false
set_option linter.all false
set_option maxRecDepth 100000
/-! THE TOP where functions are made in bodies: the tables of code are tracked -/
namespace L2
open PySem PySem.Spec PyProof.Rows
/-! ### a def whose code object is known -/
structure FunC (K : PySem.W.Frag) (x : Str) (st : Stmt) (f : Addr) (fd : FuncData) (c : Addr) : Prop where
  ex : ∃ (oc : Value) (od : Option Addr) (kV doc pm : Value) (an : Option Addr) (ct : Value) (osl : Array (Option Value)),
    fd = PySem.W.fnOf x x (defArgs st) (defBody st) (defScope st) .none kV doc pm an (.ref c) ct ∧ K.lookup f = some ⟨oc, od, .func fd, osl⟩ ∧ PySem.W.codeIn K (.ref c) x = true
  kp : PySem.W.keepIn K (.ref f) = true
structure DfnC (K : PySem.W.Frag) (mg : Str → Option Value) (x : Str) (st : Stmt) (ps : List Str) (c P : Addr) : Prop where
  ex : ∃ f fd, FunC K x st f fd c ∧ Binds K fd ps [] ∧ mg x = some (.ref f)
  code : KCode K c P
theorem kcode_mk {K : PySem.W.Frag} {c P : Addr} {od : Option Addr} {vs : Array Value} {sl : Array (Option Value)} {file : Str} {tf tg tt : Tok} {flags text : Int} {inF : Bool} (l : K.lookup c = some ⟨.type "code", od, .fields vs, sl⟩)
    (e11 : vs[11]? = some (.ref P)) (e18 : vs[18]? = some (.str file tf)) (e7 : vs[7]? = some (.int flags tg)) (e9 : vs[9]? = some (.bool inF)) (e10 : vs[10]? = some (.int text tt)) (ne : c ≠ P) : KCode K c P := by
  have g : ∀ {i : Nat} {v : Value}, vs[i]? = some v → vs.getD i .none = v := fun {i v} e => by rw [Array.getD_eq_getD_getElem?, e]; rfl
  exact ⟨_, vs, file, tf, flags, tg, inF, text, tt, l, rfl, rfl, e11, g e11, g e18, g e7, g e9, g e10, ne⟩
theorem dfnc_mk {K : PySem.W.Frag} {h : Heap} {mg : Str → Option Value} {x : Str} {st : Stmt} {ps : List Str} {f c P : Addr} {oc : Value} {od an : Option Addr} {osl : Array (Option Value)} {kV doc pm ct : Value} (X : K.In h) (G : h.Ns mainGlobals mg)
    (a : PySem.W.nsIn K mainGlobals x = some (some (.ref f))) (l : K.lookup f = some ⟨oc, od, .func (PySem.W.fnOf x x (defArgs st) (defBody st) (defScope st) .none kV doc pm an (.ref c) ct), osl⟩)
    (cd : PySem.W.codeIn K (.ref c) x = true) (k : PySem.W.keepIn K (.ref f) = true) (kc : KCode K c P)
    (hb : ∀ (kV doc pm : Value) (an : Option Addr) (cdv ct : Value) (us : List Value), us.length = ps.length → bindArgs (PySem.W.fnOf x x (defArgs st) (defBody st) (defScope st) .none kV doc pm an cdv ct) ⟨us, []⟩ = pure (ps.zip us)) : DfnC K mg x st ps c P :=
  ⟨⟨f, _, ⟨⟨oc, od, kV, doc, pm, an, ct, osl, rfl, l, cd⟩, k⟩, (fun_mk l cd k).binds hb, PySem.W.mg_of X G a⟩, kc⟩
section
variable {P : Program} {w : World} {K : PySem.W.Frag} {mg : Str → Option Value} {base : Heap}
theorem DfnC.cal {x : Str} {st : Stmt} {N ps : List Str} {k : Nat} {sp : Sp} {c Pt : Addr} (d : DfnC K mg x st ps c Pt) (S : FnScope N ps (defScope st)) (len : ∀ vs H Q E, sp vs H Q E → vs.length = ps.length)
    (hbody : ∀ (f : Addr) (A : Around) (outer : List Env) (s : Shared) (H : Hp) (vs : List V) (Q : VK) (E : XK), Room k (A.deeper (envOfC x (defScope st) s.heap.objs.size f (.ref c))) → sp vs H Q E →
      ∃ t, PSs (cxOf CX0 P w K mg base N x (defScope st) f (.ref c) A outer s H E).nox (defBody st) t ∧ t { nx := fun _ H' => Q .non H', rt := Q } (start N vs) H) : Cal P w K mg base (k + 1) x ps sp := by
  obtain ⟨f, fd, F, b, m⟩ := d.ex
  obtain ⟨oc, od, kV, doc, pm, an, ct, osl, rfl, lk, hcd⟩ := F.ex
  refine ⟨f, _, fn_of lk hcd S len fun A outer s H vs Q E hr hsp => ?_, b, F.kp, m⟩
  obtain ⟨t, h, q⟩ := hbody f A outer s H vs Q E hr hsp
  exact ⟨t, h.nox, q⟩
end
/-! ### the tables that are tracked -/
def TabFor (q : Program) (K : PySem.W.Frag) (mg : Str → Option Value) (b : Addr) : Prop := ∃ d ∈ recsOf q, ∃ f oc od fd osl c, mg d.name = some (.ref f) ∧ K.lookup f = some ⟨oc, od, .func fd, osl⟩ ∧ fd.code = .ref c ∧ KCode K c b
theorem DfnC.tab {q : Program} {K : PySem.W.Frag} {mg : Str → Option Value} {x : Str} {st : Stmt} {ps : List Str} {c b : Addr} (d : DfnC K mg x st ps c b) (hx : ((recsOf q).any fun r => r.name == x) = true) : TabFor q K mg b := by
  obtain ⟨r, hr, e⟩ := List.any_eq_true.mp hx
  obtain ⟨f, fd, F, _, m⟩ := d.ex
  obtain ⟨oc, od, kV, doc, pm, an, ct, osl, rfl, lk, hcd⟩ := F.ex
  exact ⟨r, hr, f, oc, od, _, osl, c, by rw [beq_iff_eq.mp e]; exact m, lk, rfl, d.code⟩
def TabsOf (q : Program) (mg : Str → Option Value) (h : Heap) : Prop := ∀ d ∈ recsOf q, ∃ a o fd c P, mg d.name = some (.ref a) ∧ h.get? a = some o ∧ o.data = .func fd ∧ fd.code = .ref c ∧ h.IsCode c P #[] ∧ h.TableAt c P #[]
theorem TabFor.at {q : Program} {K : PySem.W.Frag} {mg : Str → Option Value} {h : Heap} {b : Addr} (t : TabFor q K mg b) (X : K.In h) (T : TabsOf q mg h) : ∃ c, h.TableAt c b #[] := by
  obtain ⟨d, hd, f, oc, od, fd, osl, c, m, lk, ec, kc⟩ := t
  obtain ⟨a, o, fd', c', P', m', ho, hf, hc, _, ta⟩ := T d hd
  rw [m] at m'; cases m'
  rw [X f _ lk] at ho; cases ho
  cases hf
  rw [ec] at hc; cases hc
  obtain ⟨o, vs, _, _, _, _, _, _, _, lk', _, hd', h11, _⟩ := kc
  obtain ⟨⟨o2, vs2, e1, e2, e3, e4⟩, e5⟩ := id ta
  rw [X c o lk'] at e1; cases e1
  rw [hd'] at e3; cases e3
  rw [h11] at e4; cases e4
  exact ⟨c, ta⟩
/-- what is tracked at the head: the script, the tables -/
def OnlyT (ts : List (Addr × List (Pos × Str))) (H : Hp) : Prop := (∀ b, H b = none ∨ (∃ o xs, H b = some (.frz o (.lst xs))) ∨ ∃ qs, ts.lookup b = some qs ∧ H b = some (.tbl qs #[])) ∧ ∀ b qs, ts.lookup b = some qs → H b = some (.tbl qs #[])
theorem OnlyT.tab {ts : List (Addr × List (Pos × Str))} {H : Hp} (h : OnlyT ts H) {b : Addr} {qs : List (Pos × Str)} (e : ts.lookup b = some qs) : TabOk H b qs := ⟨#[], h.2 b qs e⟩
theorem law_callT {P : Program} {w : World} {K : PySem.W.Frag} {mg mb : Str → Option Value} {CX : CXT} {k : Nat} {fa a : Addr} {fd : FuncData} {x : Str} {sp : Sp} {s₁ : Shared} {vs : List Value} {ns : List Int} {ts : List (Addr × List (Pos × Str))}
    (KX : K.In s₁.heap) (hns : s₁.heap.Ns mainGlobals mg) (hb : s₁.heap.Ns builtinsNs mb) (hbb : ∀ x : Str, x ≠ "__name__" → mb x = bootBuiltins x) (hlim : s₁.heap.NoLimit) (hg : s₁.gens = #[])
    (ha : s₁.heap.get? a = some { cls := .type "list", data := .seq vs.toArray }) (hi : IntsAre vs ns) (hl : ns.length ≤ sizeLine) (hr : Room k callerA)
    (hbm : BltK s₁.heap mg) (hts : ∀ b qs, ts.lookup b = some qs → ∃ c, s₁.heap.TableAt c b #[]) (hKt : ∀ b qs, ts.lookup b = some qs → K.lookup b = none)
    (F : ∀ base : Heap, K.In base → base.Ns mainGlobals mg → BltK base mg → FnOk P w K mg base CX k fa fd [x] sp) (hbind : ∀ (s : Shared) (u : Value), BindsTo s fd ⟨[u], []⟩ [(x, u)])
    (hsp : ∀ H : Hp, OnlyT ts H → SqL K H a (ns.map V.int) → sp [.ref a] H (fun v _ => v = .bl true) fun _ _ _ => False)
    (hCX : ∀ H e s', CX [] H s₁ (fun _ _ _ => False) e s' → False) :
    codeAny (model P w) callerA (.call (.ref fa) ⟨[.ref a], []⟩) (fun r s' => r = .ok (.ret (.bool true)) ∧ OldK s₁.heap s'.heap ∧ s'.os = s₁.os ∧ AllBare s'.gens) s₁ := by
  have rv := vals_ints hi
  have lenV := hi.length
  have core : ∀ H : Hp, OnlyT ts H → SqL K H a (ns.map V.int) → HOk P w H s₁.heap → (∀ b, H b ≠ none → b = a ∨ ∃ qs, ts.lookup b = some qs) → (H a ≠ none → K.lookup a = none) →
      codeAny (model P w) callerA (.call (.ref fa) ⟨[.ref a], []⟩) (fun r s' => r = .ok (.ret (.bool true)) ∧ OldK s₁.heap s'.heap ∧ s'.os = s₁.os ∧ AllBare s'.gens) s₁ := by
    intro H hO hS hok hA hK
    have base_of : ∀ {b : Addr} {o : Obj}, s₁.heap.get? b = some o → H b = none → (hidT s₁.heap H).get? b = some o := fun e n => hidT_get e n
    have noT : ∀ {b : Addr} {o : Obj}, s₁.heap.get? b = some o → (∀ q n, o.data ≠ .seq q n) → (∀ ps, o.data ≠ .fields ps ∨ o.cls ≠ .none) → H b = none := fun {b o} e n1 n2 => by
      cases q : H b with
      | none => rfl
      | some u =>
        rcases hA b (by rw [q]; simp) with e' | ⟨qs, e'⟩
        · subst e'
          rw [ha] at e; cases e
          exact absurd rfl (n1 _ _)
        · obtain ⟨c, _, e5⟩ := hts b qs e'
          rw [e5] at e; cases e
          rcases n2 #[] with z | z
          · exact absurd rfl z
          · exact absurd rfl z
    have noA : ∀ {b : Addr} {o : Obj} {es : Array DictEntry} {ep : Nat}, s₁.heap.get? b = some o → o.data = .dict es ep → H b = none := fun {b o es ep} e d => noT e (fun q n z => by rw [d] at z; cases z) fun ps => .inl fun z => by rw [d] at z; cases z
    have nsK : ∀ {b : Addr} {m : Str → Option Value}, s₁.heap.Ns b m → (hidT s₁.heap H).Ns b m := fun {b m} ⟨o, es, ep, e, d, r⟩ => ⟨o, es, ep, base_of e (noA e d), d, r⟩
    have hKb : K.In (hidT s₁.heap H) := fun b o e => base_of (KX b o e) (by
      cases q : H b with
      | none => rfl
      | some u =>
        rcases hA b (by rw [q]; simp) with e' | ⟨qs, e'⟩
        · subst e'
          rw [hK (by rw [q]; simp)] at e; cases e
        · rw [hKt b qs e'] at e; cases e)
    have hBb : BltK (hidT s₁.heap H) mg := by
      obtain ⟨bm, o, b1, b2, b3, b4, b5, b6⟩ := hbm
      exact ⟨bm, o, b1, b2, base_of b3 (noT b3 (fun q n z => by rw [b6] at z; cases z) fun ps => .inl fun z => by rw [b6] at z; cases z), b4, b5, b6⟩
    have hM : Mod K mg (hidT s₁.heap H) := ⟨hKb, nsK hns, ⟨mb, nsK hb, hbb⟩, let ⟨mc, h1, h2⟩ := hlim; ⟨mc, nsK h1, h2⟩⟩
    have e0 : Env0 P w K mg (hidT s₁.heap H) callerA [] s₁ H := ⟨rfl, hM, fun b o e => of_hidT e, Nat.le_of_eq (hidT_size _ _), trivial, fun b hb => absurd (show b ∈ ([] : List Addr) from hb) (by simp), hok, .of_eq hg⟩
    refine codeAny_mono ((F _ hKb (nsK hns) hBb).run callerA [] s₁ H ⟨[.ref a], []⟩ [.ref a] [.ref a] _ _ hr e0 (hbind s₁ (.ref a)) (.cons rfl .nil) (hsp H hO hS)) fun r s' h => ?_
    cases r with
    | error e => exact (hCX H e s' h).elim
    | ok fl =>
      cases fl with
      | next => exact False.elim h
      | brk => exact False.elim h
      | cont => exact False.elim h
      | ret u =>
        obtain ⟨v, H', os, bare, un, hok', r', q⟩ := h
        have q' : v = .bl true := q
        subst q'
        obtain rfl : u = Value.bool true := r'
        have was : ∀ b o, s₁.heap.get? b = some o → asItWas s₁.heap s'.heap b o := fun b o e => by
          rcases hO.1 b with z | ⟨ob, xs, z⟩ | ⟨qs, l, z⟩
          · exact .inl (un.keep b o e z (by intro z; exact absurd (show b ∈ ([] : List Addr) from z) (by simp)) (by simp))
          · have z2 := un.frzs b ob _ z
            obtain ⟨e1, _⟩ := hok b _ z
            obtain ⟨e2, _⟩ := hok' b _ z2
            rw [e] at e1; cases e1
            exact .inl e2
          · have z2 := un.tbls b qs _ z
            obtain ⟨more, e2, _⟩ := hok' b _ z2
            obtain ⟨c, ta⟩ := hts b qs l
            have e5 := ta.2
            rw [e5] at e; cases e
            exact .inr (.inl ⟨ta.isCodeTable, rfl, #[], more, rfl, e2⟩)
        exact ⟨rfl, ⟨was, fun b o e => un.there b o e (by simp)⟩, os, bare⟩
  have neA : ∀ qs, ts.lookup a = some qs → False := fun qs e => by
    obtain ⟨c, _, e5⟩ := hts a qs e
    rw [e5] at ha; cases ha
  have tabOk : ∀ (H : Hp) b qs, ts.lookup b = some qs → ObjOk P w H s₁.heap b (.tbl qs #[]) := fun H b qs e => by
    obtain ⟨c, _, e5⟩ := hts b qs e
    exact ⟨#[], by simpa using e5, trivial, fun p hp v z => by simp [codeAmong] at z⟩
  let HT : Hp := fun b => (ts.lookup b).map fun qs => .tbl qs #[]
  have hT1 : ∀ b qs, ts.lookup b = some qs → HT b = some (.tbl qs #[]) := fun b qs e => by show (ts.lookup b).map _ = _; rw [e]; rfl
  have hT2 : ∀ b, ts.lookup b = none → HT b = none := fun b e => by show (ts.lookup b).map _ = _; rw [e]; rfl
  cases hk : K.lookup a with
  | some o =>
    have e := KX a o hk
    rw [ha] at e
    cases e
    refine core HT ⟨fun b => ?_, hT1⟩ (.inr ⟨_, vs.toArray, _, hk, rfl, rfl, rfl, by rw [List.size_toArray, lenV]; exact hl, by simpa using rv⟩) (fun b u z => ?_) (fun b z => ?_) fun z => ?_
    · cases e : ts.lookup b with
      | none => exact .inl (hT2 b e)
      | some qs => exact .inr (.inr ⟨qs, rfl, hT1 b qs e⟩)
    · cases e : ts.lookup b with
      | none => rw [hT2 b e] at z; cases z
      | some qs => rw [hT1 b qs e] at z; cases z; exact tabOk _ b qs e
    · cases e : ts.lookup b with
      | none => exact absurd (hT2 b e) z
      | some qs => exact .inr ⟨qs, rfl⟩
    · cases e : ts.lookup a with
      | none => exact absurd (hT2 a e) z
      | some qs => exact (neA qs e).elim
  | none =>
    let H1 : Hp := fun b => if b = a then some (.frz { cls := .type "list", data := .seq vs.toArray } (.lst (ns.map V.int))) else HT b
    have h1a : H1 a = some (.frz { cls := .type "list", data := .seq vs.toArray } (.lst (ns.map V.int))) := if_pos rfl
    have h1b : ∀ b, b ≠ a → H1 b = HT b := fun b e => if_neg e
    refine core H1 ⟨fun b => ?_, fun b qs e => ?_⟩ (.inl (.inr ⟨{ cls := .type "list", data := .seq vs.toArray }, h1a⟩)) (fun b u z => ?_) (fun b z => ?_) fun _ => hk
    · by_cases hb : b = a
      · subst hb; exact .inr (.inl ⟨_, _, h1a⟩)
      · rw [h1b b hb]
        cases e : ts.lookup b with
        | none => exact .inl (hT2 b e)
        | some qs => exact .inr (.inr ⟨qs, rfl, hT1 b qs e⟩)
    · rw [h1b b fun z => neA qs (z ▸ e)]; exact hT1 b qs e
    · by_cases hb : b = a
      · subst hb
        rw [h1a] at z; cases z
        exact ⟨ha, by rw [List.length_map]; exact hl, vs, _, rv, ha⟩
      · rw [h1b b hb] at z
        cases e : ts.lookup b with
        | none => rw [hT2 b e] at z; cases z
        | some qs => rw [hT1 b qs e] at z; cases z; exact tabOk _ b qs e
    · by_cases hb : b = a
      · exact .inl hb
      · rw [h1b b hb] at z
        cases e : ts.lookup b with
        | none => exact absurd (hT2 b e) z
        | some qs => exact .inr ⟨qs, rfl⟩
/-- the goal that k_head leaves, where functions are made in bodies -/
theorem walk_ofT {l : PySem.W.OpenLaw} {n k : Nat} {q : Program} {loose : List Str} {XP : (Str → Option Value) → Heap → Prop} {YP : World → Heap → Prop} {d : DefRec} {K : Params → PySem.W.Frag} {CX : CXT} {sp : PySem.W.Frag → List (Addr × List (Pos × Str)) → Sp} {x : Str}
    (hn : l.most = some n) (hn2 : n ≤ sizeLine) (hdf : d.params.defaults = []) (hr : Room k callerA)
    (hY : ∀ (w : World) (h : Heap), YP w h → (K w.params).In h)
    (F : ∀ (w : World) (mg : Str → Option Value) (fa : Addr) (h : Heap), (K w.params).In h → h.Ns mainGlobals mg → mg d.name = some (.ref fa) →
      ∃ (fd : FuncData) (ts : List (Addr × List (Pos × Str))), (∀ (s : Shared) (u : Value), BindsTo s fd ⟨[u], []⟩ [(x, u)]) ∧ (∀ b qs, ts.lookup b = some qs → TabFor q (K w.params) mg b ∧ (K w.params).lookup b = none) ∧
        ∀ base : Heap, (K w.params).In base → base.Ns mainGlobals mg → BltK base mg → FnOk l.prog w (K w.params) mg base CX k fa fd [x] (sp (K w.params) ts))
    (hsp : ∀ (K : PySem.W.Frag) (ts : List (Addr × List (Pos × Str))) (H : Hp) (a : Addr) (ns : List Int), ns.length ≤ n → OnlyT ts H → SqL K H a (ns.map V.int) → sp K ts [.ref a] H (fun v _ => v = .bl true) fun _ _ _ => False)
    (hCX : ∀ (H : Hp) (s : Shared) (e : Value) (s' : Shared), CX [] H s (fun _ _ _ => False) e s' → False) :
    PySem.W.WalkO q loose XP YP l.row.toRowW d [] (fun f vs => PySem.call f vs) := by
  refine Att.attach_call hn hdf fun w s₀ s₁ mg mb fa o pm cd doc a vs ns G Y ho hd hcd hmg hobj hints hlen hg => ?_
  have KX := hY w _ Y
  obtain ⟨fd, ts, hb, ht, hF⟩ := F w mg fa _ KX G.T.g hmg
  exact law_callT KX G.T.g G.T.b G.T.builtins G.T.nolimit hg hobj hints (Nat.le_trans hlen hn2) hr G.T.bmain (fun b qs e => (ht b qs e).1.at KX G.T.tab) (fun b qs e => (ht b qs e).2) hF hb (fun H hO hS => hsp (K w.params) ts H a ns hlen hO hS) fun H e s' => hCX H s₁ e s'
theorem lk_mem : ∀ {ts : List (Addr × List (Pos × Str))} {b : Addr} {qs : List (Pos × Str)}, ts.lookup b = some qs → (b, qs) ∈ ts
  | [], _, _, e => by simp at e
  | (a, q) :: ts, b, qs, e => by
    rw [List.lookup_cons] at e
    split at e
    · rename_i z
      cases e
      rw [show b = a from beq_iff_eq.mp z]; exact List.mem_cons_self
    · exact List.mem_cons_of_mem _ (lk_mem e)
theorem ts_all {ts : List (Addr × List (Pos × Str))} {R : Addr → Prop} (h : ∀ p ∈ ts, R p.1) : ∀ b qs, ts.lookup b = some qs → R b := fun b qs e => h (b, qs) (lk_mem e)
/-! ### calls while names of this body are held in cells -/
theorem pe_callAC {X : Cx} {n k : Nat} {x : Str} {ps : List Str} {sp : Sp} {p pos : Pos} {e : Expr} {es : List Expr} {t : TA} (C : Cal X.prog X.w X.K X.mg X.base n x ps sp) (hr : Room k X.A) (hle : n ≤ k) (hg : Gl X x) (hfn : ∀ x, X.fn x = true) (ha : PA X (e :: es) t) (hdb : (x == ("__debug__" : Str)) = false := by decide)
    (h1 : notStar e = true := by rfl) (h2 : es.all notStar = true := by rfl) : PE X (.Call (.Name x p) (e :: es) [] pos) (tCallA X sp t) := by
  obtain ⟨f, fd, F, b, kp, m⟩ := C.ex
  exact pe_callA F (hr.mono hle) hg m kp b hfn ha hdb (star_cons h1) (star_any h2)
theorem pe_callVC {X : Cx} {x : Str} (i k n : Nat) (sp : Sp) {m : Nat} {p pos : Pos} {e : Expr} {es : List Expr} {t : TA} (hr : Room m X.A) (hle : k ≤ m) (ha : PA X (e :: es) t) (hN : X.N[i]? = some x := by rfl) (hv : Vis X.env.scope x := by first | exact Or.inl rfl | exact Or.inr (Or.inl rfl) | exact Or.inr (Or.inr rfl))
    (hd : (x == ("__debug__" : Str)) = false := by decide) (hcd : (x == ("__classdict__" : Str)) = false := by decide) (h1 : notStar e = true := by rfl) (h2 : es.all notStar = true := by rfl) :
    PE X (.Call (.Name x p) (e :: es) [] pos) (tCallV X.prog X.w X.K X.mg X.base k n sp i t) := pe_callV hN hv (hr.mono hle) ha hd hcd (star_cons h1) (star_any h2)
def freeOk (env : Env) (sc : Scope) : Bool := sc.names.all fun p => p.2 != .free || (env.kindOf p.1 == some .cell || env.kindOf p.1 == some .free)
theorem freeOk.of {env : Env} {sc : Scope} (h : freeOk env sc = true) : ∀ p ∈ sc.names, p.2 = .free → env.kindOf p.1 = some .cell ∨ env.kindOf p.1 = some .free := fun p hp e => by
  have q := List.all_eq_true.mp h p hp
  rw [e] at q
  simpa using q
def oneOk (qs : List (Pos × Str)) (pos : Pos) (qual : Str) : Bool := qs.any (fun p => p.1.line == pos.line && p.1.col == pos.col && p.1.endLine == pos.endLine && p.1.endCol == pos.endCol && p.2 == qual) && qs.all fun p => p.1.line != pos.line || p.1.col != pos.col || p.2 == qual
theorem oneOk.one {qs : List (Pos × Str)} {pos : Pos} {qual : Str} (h : oneOk qs pos qual = true) : ∀ p ∈ qs, p.1.line = pos.line → p.1.col = pos.col → p.2 = qual := fun p hp e1 e2 => by
  have q := List.all_eq_true.mp (Bool.and_eq_true _ _ ▸ h : _ ∧ _).2 p hp
  rw [e1, e2] at q
  simpa using q
theorem oneOk.mem {qs : List (Pos × Str)} {pos : Pos} {qual : Str} (h : oneOk qs pos qual = true) : (pos, qual) ∈ qs := by
  obtain ⟨p, hp, e⟩ := List.any_eq_true.mp (Bool.and_eq_true _ _ ▸ h : _ ∧ _).1
  simp only [Bool.and_eq_true, beq_iff_eq] at e
  obtain ⟨⟨⟨⟨e1, e2⟩, e3⟩, e4⟩, e5⟩ := e
  have : p = (pos, qual) := by
    obtain ⟨⟨a, b, c, d⟩, z⟩ := p
    obtain ⟨a', b', c', d'⟩ := pos
    simp only at e1 e2 e3 e4 e5
    subst e1 e2 e3 e4 e5
    rfl
  rw [← this]; exact hp
section
variable {X : Cx} {c P : Addr} {qs : List (Pos × Str)} {pos : Pos} {params : Arguments} {scope : Scope}
theorem pe_lam (qual : Str) {body : Expr} (hc : X.env.code = .ref c) (kc : KCode X.K c P) (kb : BltK X.base X.mg) (hfr : freeOk X.env scope = true) (hq : oneOk qs pos qual = true) (hd : params.defaults = [] := by rfl) (hk : params.kw_defaults = [] := by rfl) (hqual : X.env.qual ++ "<lambda>" = qual := by rfl) :
    PE X (.Lambda params body scope pos) (tLam X P qs "<lambda>" qual params (.expr body) scope) := pe_lambda hc kc kb (freeOk.of hfr) (oneOk.mem hq) (oneOk.one hq) hd hk hqual
theorem ps_dfn (qual : Str) {name : Str} {j : Nat} {body : List Stmt} (hc : X.env.code = .ref c) (kc : KCode X.K c P) (kb : BltK X.base X.mg) (hfr : freeOk X.env scope = true) (hq : oneOk qs pos qual = true) (hN : X.N.Nodup) (hj : X.N[j]? = some name) (hx : X.env.scope.names.lookup name = some .local) (nd : docOf body = none := by rfl)
    (hd : params.defaults = [] := by rfl) (hk : params.kw_defaults = [] := by rfl) (ha : ∀ e, annTrees params none e = [] := by intro e; rfl) (hqual : qualnameIn X.env name name = qual := by rfl) :
    PS X (.FunctionDef name params body [] none [] scope none name pos) (tDef X P qs name qual params (.stmts body) scope j) := ps_defn hc kc kb (freeOk.of hfr) nd (oneOk.mem hq) (oneOk.one hq) hd hk ha hqual hN hj hx
end
/-! ### what stays -/
open Classical
theorem Adopted.same {X : Cx} {σ : St} {H1 Hq H2 : Hp} (ad : Adopted X σ H1 Hq) (g : Same Hq H2) : Same H1 (dropX X H2) := fun b u e => by
  have hc : ¬ CellOf X b := fun hc => by rw [ad.2.1 b hc] at e; cases e
  show (if CellOf X b then none else H2 b) = some u
  rw [if_neg hc]
  exact g b u (by rw [ad.1 b hc]; exact e)
theorem Adopted.up {X : Cx} {σ : St} {H1 Hq : Hp} (ad : Adopted X σ H1 Hq) : Same H1 Hq := fun b u e => by
  have hc : ¬ CellOf X b := fun hc => by rw [ad.2.1 b hc] at e; cases e
  rw [ad.1 b hc]; exact e
theorem Adopted.keep {X : Cx} {σ : St} {H1 Hq H2 : Hp} (ad : Adopted X σ H1 Hq) (g : Same Hq H2) {b : Addr} {u : HO} (e : H2 b = some u) (n : ∀ o a, u ≠ .frz o a) : dropX X H2 b = some u := by
  have hc : ¬ CellOf X b := fun ⟨x, z⟩ => by
    obtain ⟨o, v, h1, _⟩ := ad.2.2.2 x b z
    rw [g _ _ h1] at e; cases e
    exact n _ _ rfl
  show (if CellOf X b then none else H2 b) = some u
  rw [if_neg hc]; exact e
/-! ### what a function made in a body keeps -/
/-- what is not frozen stays -/
def SameN (H H' : Hp) : Prop := ∀ b u, H b = some u → (∀ o a, u ≠ .frz o a) → H' b = some u
theorem Same.n {H H' : Hp} (g : Same H H') : SameN H H' := fun b u e _ => g b u e
section
variable {cl : List (Str × Addr)} {H : Hp}
/-- cl's cells are frozen in H -/
def ClOk (cl : List (Str × Addr)) (H : Hp) : Prop := ∀ x c, cl.lookup x = some c → ∃ o v, H c = some (.frz o (.own c)) ∧ o.data = .cell v
theorem ClOk.n (hcl : ClOk cl H) : SameN H (dropL cl H) := fun b u e n => by
  show (if InCl cl b then none else H b) = some u
  rw [if_neg (drop_cells hcl e n)]; exact e
theorem ClOk.tab (hcl : ClOk cl H) {P : Addr} {qs : List (Pos × Str)} (T : TabOk H P qs) : TabOk (dropL cl H) P qs := let ⟨ps, e⟩ := T; ⟨ps, hcl.n _ _ e fun _ _ z => nomatch z⟩
theorem ClOk.fn (hcl : ClOk cl H) {f : Addr} {fd : FuncData} (e : H f = some (fnO fd f)) : dropL cl H f = some (fnO fd f) := by
  have nc : ¬ InCl cl f := fun ⟨x, z⟩ => by
    obtain ⟨o, v, z2, z3⟩ := hcl x f z
    rw [z2] at e; cases e
    cases z3
  exact (if_neg nc).trans e
theorem mix_same {H2 : Hp} (g : Same (dropL cl H) H2) : Same H (mixL cl H H2) := fun b u e => by
  show (if InCl cl b then H b else H2 b) = some u
  by_cases hc : InCl cl b
  · rw [if_pos hc]; exact e
  · rw [if_neg hc]
    exact g b u (by show (if InCl cl b then none else H b) = some u; rw [if_neg hc]; exact e)
theorem mix_up {H2 : Hp} (g : ∀ b, InCl cl b → H2 b = none) : Same H2 (mixL cl H H2) := fun b u e => by
  show (if InCl cl b then H b else H2 b) = some u
  rw [if_neg fun hc => by rw [g b hc] at e; cases e]; exact e
end
/-- where the captured names stand in the maker's slots -/
def CapAt (X : Cx) (σ : St) (cap : List Str) (cv : List V) : Prop := Paired (fun x v => ∃ i : Nat, X.N[i]? = some x ∧ σ[i]? = some (some v) ∧ (X.env.kindOf x = some .cell ∨ X.env.kindOf x = some .free)) cap cv
theorem caps_of {X : Cx} {σ : St} {H1 Hq : Hp} (ad : Adopted X σ H1 Hq) {cl : List (Str × Addr)} (h1 : ∀ x c, cl.lookup x = some c → X.env.cells.lookup x = some c) : ∀ {cap : List Str} {cv : List V}, (∀ x ∈ cap, ∃ c, cl.lookup x = some c) → CapAt X σ cap cv → Caps Hq cl cap cv
  | _, _, _, .nil => .nil
  | x :: _, _ :: _, hc, .cons ⟨i, e1, e2, e3⟩ t => by
    obtain ⟨c, lc⟩ := hc x List.mem_cons_self
    obtain ⟨o, v, z1, z2, z3⟩ := ad.2.2.2 x c (h1 x c lc)
    obtain ⟨u, ru, rfl⟩ := z3 i _ e1 e2 e3
    exact .cons ⟨c, o, u, lc, z1, z2, ru⟩ (caps_of ad h1 (fun y hy => hc y (List.mem_cons_of_mem _ hy)) t)
section
variable {X : Cx} {H H1 H1' Hq : Hp} {σ : St} {name qual : Str} {params : Arguments} {scope : Scope} {f : Addr} {own ps cap : List Str} {cv : List V} {k : Nat} {sp : Sp}
theorem Made.fn {body : FuncBody} (M : Made X H H1 name qual params body scope f) : ∃ fd, H1 f = some (fnO fd f) := by
  obtain ⟨cl, ct, c', oc, pm, _, _, _, _, h⟩ := M.ex
  exact ⟨_, h⟩
theorem frz_drop {cl : List (Str × Addr)} {H' : Hp} (ad : Adopted X σ H1' Hq) (l1 : ∀ x c, cl.lookup x = some c → X.env.cells.lookup x = some c) (fz : Frz Hq H') : Frz H1' (dropL cl H') := fun b o u e => by
  have nc : ¬ InCl cl b := fun ⟨x, z⟩ => by rw [ad.2.1 b ⟨x, l1 x b z⟩] at e; cases e
  show (if InCl cl b then none else H' b) = _
  rw [if_neg nc]
  exact fz _ _ _ (ad.up _ _ e)
theorem Made.clo_e {body : Expr} (M : Made X H H1 name qual params (.expr body) scope f) (g : Same H1 H1') (ad : Adopted X σ H1' Hq) (S : CloScope own ps cap scope) (hlo : ps.length ≤ own.length) (hcap : CapAt X σ cap cv)
    (hbind : ∀ (cl : List (Str × Addr)) (ct cd pm : Value) (us : List Value), us.length = ps.length → bindArgs (cloFd name qual params (.expr body) scope cl ct cd pm) ⟨us, []⟩ = pure (ps.zip us))
    (hbody : ∀ (cl : List (Str × Addr)) (c' : Addr) (A : Around) (outer : List Env) (s : Shared) (H' : Hp) (vs : List V) (Q : VK), Room k (A.deeper (envL qual scope cl s.heap.objs.size f (.ref c'))) → ClOk cl H' → Frz Hq H' → Frz H1' (dropL cl H') → vs.length = ps.length → sp vs H' Q E0 →
      ∃ t, PE (cxL X.prog X.w X.K X.mg X.base (own ++ cap) qual scope cl f (.ref c') A outer s H') body t ∧ t (stL own vs cv) (dropL cl H') (fun v H2 => (∀ b, InCl cl b → H2 b = none) → Q v (mixL cl H' H2))) : CloH X.prog X.w X.K X.mg X.base (k + 1) Hq f ps.length sp := by
  obtain ⟨cl, ct, c', oc, pm, l1, l2, l3, l4, l5⟩ := M.ex
  have hcl : ClOk cl Hq := fun x c e => let ⟨o, v, z1, z2, _⟩ := ad.2.2.2 x c (l1 x c e); ⟨o, v, z1, z2⟩
  have up := ad.up
  refine clo_expr S hlo (up _ _ (g _ _ l5)) (up _ _ (g _ _ l3)) l4 hcl l2 (fun x y c e1 e2 => ad.2.2.1 x y c (l1 x c e1) (l1 y c e2)) (caps_of ad l1 (fun x hx => l2 (x, .free) (mem_of_lookup' (S.cap x hx)) rfl) hcap) (hbind cl ct _ pm) fun A outer s H' vs Q hr fz hl hsp => ?_
  exact hbody cl c' A outer s H' vs Q hr (fun x c e => let ⟨o, v, z, d⟩ := hcl x c e; ⟨o, v, fz _ _ _ z, d⟩) fz (frz_drop ad l1 fz) hl hsp
end
end L2

set_option Elab.async false
set_option linter.all false
set_option maxRecDepth 100000
/-! t += u of tuples -/
namespace L2
open PySem PySem.Spec PyProof.Rows
theorem tuple_no_iadd : typeLookup (.type "tuple") (dunderI "add") = pure none := by rw [show (dunderI "add" : Str) = "__iadd__" from rfl, typeLookup_type, builtinLookup_eq_fast]; kernel_rfl
section
variable {prog : Program} {w : World} {A : Around} {E : Value → Shared → Prop} {s : Shared}
theorem iconcat_meets {T id : String} {B : Builtin} {a b : Value} {S : PySem.Spec} {Q : Value → Shared → Prop} (ha : s.TypeIs a T) (hb : s.TypeIs b T) (hno : typeLookup (.type T) (dunderI "add") = pure none)
    (hfill : fillsNumberSlot (.type T) "add" = pure false) (hseq : seqSlot? (.type T) "__add__" = pure (some (.builtin id))) (slot : Slot T "__add__" id)
    (entry : entryFor table id = some B) (args : argsOk id ⟨[a, b], []⟩) (g : Meets (B ⟨[a, b], []⟩) S) (h : S A (wants Q E) s) : wpAny (model prog w) A (inplaceOp .Add a b) Q E s :=
  wpAny_inplaceOp_concat ha hb hno hfill hseq (call_meets slot ha entry args g h)
theorem icat_tup {t b : Addr} {vs ws : List Value} {Q : Value → Shared → Prop} (ht : IsTup s.heap t vs.toArray) (hb : IsTup s.heap b ws.toArray) (hv : vs ≠ []) (hw : ws ≠ [])
    (h2 : Q (.ref s.heap.objs.size) { s with heap := s.heap.push { cls := .type "tuple", data := .seq (vs ++ ws).toArray } })
    (hsz : vs.length + ws.length ≤ sizeLine) : wpAny (model prog w) A (inplaceOp .Add (.ref t) (.ref b)) Q E s := by
  obtain ⟨⟨cls, dd, data, sl⟩, ho, hc, n, hd⟩ := id ht
  obtain ⟨⟨cls2, dd2, data2, sl2⟩, ho2, hc2, n2, hd2⟩ := id hb
  simp only at hc hd hc2 hd2
  subst hc hd hc2 hd2
  have e : vs.toArray ++ ws.toArray = (vs ++ ws).toArray := by simp
  refine iconcat_meets ⟨_, ho, rfl⟩ ⟨_, ho2, rfl⟩ tuple_no_iadd noFill_tuple_add seq_tuple_add PySem.F.slot_tuple_add PySem.F.entry_tuple_add (PySem.F.args_tuple_add_2 _ _)
    (tuple_addW2 t b vs.toArray ws.toArray n n2 dd dd2 sl sl2 (by simpa using hv) (by simpa using hw) (by rw [List.size_toArray, List.size_toArray]; exact hsz)) ⟨ho, ho2, ?_⟩
  rw [e]
  exact h2
end
def ipCatT (K : PySem.W.Frag) : TIp := fun x y H Q => ∃ a b xs ys, x = .ref a ∧ y = .ref b ∧ SqT K H a xs ∧ SqT K H b ys ∧ xs ≠ [] ∧ ys ≠ [] ∧ xs.length + ys.length ≤ sizeLine ∧ ∀ p H', New H p (.tup (xs ++ ys)) H' → Q (.ref p) H'
theorem ip_catT {X : Cx} : PIp X .Add (ipCatT X.K) := by
  intro pins s σ H x y v u Q I rx ry h
  obtain ⟨a, b, xs, ys, rfl, rfl, ha, hb, hx, hy, hz, q⟩ := h
  cases rx
  cases ry
  obtain ⟨its, r1, p1, _⟩ := I.tuple ha
  obtain ⟨its2, r2, p2, _⟩ := I.tuple hb
  refine icat_tup p1 p2 (fun z => hx (r1.nil_iff.mp z)) (fun z => hy (r2.nil_iff.mp z)) ?_ (by rw [← r1.length, ← r2.length]; exact hz)
  refine ⟨.ref s.heap.objs.size, _, I.laid (t' := s.toks) (o := .tup (xs ++ ys)) (fun b ob q => Heap.get?_push_of_some _ q) (Nat.le_refl _) ?_, rfl, q _ _ (.mk' (I.hok.fresh (Nat.le_refl _)) _)⟩
  exact ⟨by rw [List.length_append]; exact hz, _, r1.append r2, IsTup.new _ _⟩
theorem ip_catTK {X : Cx} (K : PySem.W.Frag) (h : X.K = K := by rfl) : PIp X .Add (ipCatT K) := h ▸ ip_catT
end L2

set_option Elab.async false
set_option linter.all false
set_option maxRecDepth 100000
/-! a function as a value called, its reading not hanging on the place (for blocks) -/
namespace L2
open PySem PySem.Spec PyProof.Rows
theorem pe_callVK {X : Cx} {x : Str} (P : Program) (w : World) (K : PySem.W.Frag) (mg : Str → Option Value) (base : Heap) (i k n : Nat) (sp : Sp) {m : Nat} {p pos : Pos} {e : Expr} {es : List Expr} {t : TA} (hr : Room m X.A) (hle : k ≤ m) (ha : PA X (e :: es) t) (e1 : X.prog = P := by rfl) (e2 : X.w = w := by rfl) (e3 : X.K = K := by rfl) (e4 : X.mg = mg := by rfl) (e5 : X.base = base := by rfl)
    (hN : X.N[i]? = some x := by rfl) (hv : Vis X.env.scope x := by first | exact Or.inl rfl | exact Or.inr (Or.inl rfl) | exact Or.inr (Or.inr rfl))
    (hd : (x == ("__debug__" : Str)) = false := by decide) (hcd : (x == ("__classdict__" : Str)) = false := by decide) (h1 : notStar e = true := by rfl) (h2 : es.all notStar = true := by rfl) :
    PE X (.Call (.Name x p) (e :: es) [] pos) (tCallV P w K mg base k n sp i t) := by
  subst e1 e2 e3 e4 e5
  exact pe_callVC i k n sp hr hle ha hN hv hd hcd h1 h2
end L2

set_option Elab.async false
set_option linter.all false
set_option maxRecDepth 100000
/-! functions made in a body whose own names are cells (a comprehension of theirs takes them) -/
namespace L2
open PySem PySem.Spec PyProof.Rows
theorem cellsFrom_app : ∀ (ns : List (Str × NameKind)) (n : Nat) (cl : List (Str × Addr)), cellsFrom n ns cl = cellsFrom n ns [] ++ cl
  | [], _, _ => rfl
  | (x, k) :: r, n, cl => by
    unfold cellsFrom
    split
    · rw [cellsFrom_app r (n + 1) ((x, n) :: cl), cellsFrom_app r (n + 1) [(x, n)]]; simp
    · exact cellsFrom_app r n cl
theorem cellsFrom_kind : ∀ (ns : List (Str × NameKind)) (n : Nat) {x : Str} {c : Addr}, (x, c) ∈ cellsFrom n ns [] → (x, NameKind.cell) ∈ ns
  | [], _, _, _, h => nomatch h
  | (y, k) :: r, n, x, c, h => by
    unfold cellsFrom at h
    split at h
    · rename_i hk
      rw [cellsFrom_app] at h
      rcases List.mem_append.mp h with z | z
      · exact List.mem_cons_of_mem _ (cellsFrom_kind r (n + 1) z)
      · cases List.mem_singleton.mp z
        rw [beq_iff_eq.mp hk]; exact List.mem_cons_self
    · exact List.mem_cons_of_mem _ (cellsFrom_kind r n h)
theorem look_app {α : Type} {x : Str} : ∀ {a b : List (Str × α)}, (a ++ b).lookup x = (a.lookup x).or (b.lookup x)
  | [], _ => rfl
  | (y, v) :: r, b => by
    rw [List.cons_append, List.lookup_cons, List.lookup_cons]
    cases x == y with
    | true => rfl
    | false => exact look_app
section
variable {M : Model} {A : Around} {E : Value → Shared → Prop} {s₀ s : Shared} {m cm : Str → Option Value} {env : Env} {ow : List (Str × Addr)}
theorem putL {n : Str} {v : Value} {Q : Unit → Shared → Prop} (x : InCallC s₀ env.locals m ow cm s) (hk : env.scope.kind = .function) (hl : env.kindOf n = some .local)
    (q : ∀ t, InCallC s₀ env.locals (fun y => if y = n then some v else m y) ow cm t → Q () t) : wpAny M A (storeName env n v) Q E s := by
  obtain ⟨g0, t0, eS⟩ := x.toInCall.same
  refine wpAny_storeName_local hl x.toInCall.ns (fun g1 gn gs => q _ { toInCall := ⟨⟨g1, t0 + 1, by rw [eS]⟩, gn, fun b o e => ?_, x.toInCall.fresh⟩, cell := fun k c hc => ?_, apart := x.apart, above := x.above }) (by rw [hk]; rfl)
  · have lt := Heap.lt_size e
    have fr := x.toInCall.fresh
    exact gs.extBut b o (Nat.ne_of_lt (Nat.lt_of_lt_of_le lt fr)) (x.toInCall.keep b o e)
  · have ab := x.above k c (mem_of_lookup' hc)
    exact (x.cell k c hc).sameBut gs (Nat.ne_of_gt ab)
theorem putC {n : Str} {c : Addr} {v : Value} {Q : Unit → Shared → Prop} (x : InCallC s₀ env.locals m ow cm s) (hk : env.scope.kind = .function) (hl : env.kindOf n = some .cell) (ho : ow.lookup n = some c) (hc : env.cells.lookup n = some c)
    (q : ∀ t, InCallC s₀ env.locals m ow (fun y => if y = n then some v else cm y) t → Q () t) : wpAny M A (storeName env n v) Q E s := by
  have ab := x.above n c (mem_of_lookup' ho)
  obtain ⟨g0, t0, eS⟩ := x.toInCall.same
  refine wpAny_storeName_cell hk hl hc (x.cell n c ho) fun g1 gc gs => q _ { toInCall := ⟨⟨g1, t0, by rw [eS]⟩, x.toInCall.ns.sameBut gs (Nat.ne_of_lt ab), fun b o e => ?_, x.toInCall.fresh⟩, cell := fun k d hd => ?_, apart := x.apart, above := x.above }
  · have lt := Heap.lt_size e
    have fr := x.toInCall.fresh
    exact gs.extBut b o (Nat.ne_of_lt (Nat.lt_trans (Nat.lt_of_lt_of_le lt fr) ab)) (x.toInCall.keep b o e)
  · by_cases kn : k = n
    · rw [kn, ho] at hd
      cases hd
      rw [if_pos kn]; exact gc
    · rw [if_neg kn]
      refine (x.cell k d hd).sameBut gs fun e => kn ?_
      rw [e] at hd
      exact name_of_addr x.apart (mem_of_lookup' hd) (mem_of_lookup' ho)
theorem bindM (f : Str × Value → PUnit → Sem (ForInStep PUnit)) (hf : ∀ n v u, f (n, v) u = (do storeName env n v; pure (.yield ⟨⟩))) (hk : env.scope.kind = .function) (hsub : ∀ n c, ow.lookup n = some c → env.cells.lookup n = some c) :
    ∀ (bs : List (Str × Value)) (m cm : Str → Option Value) (s : Shared) (Q : PUnit → Shared → Prop), InCallC s₀ env.locals m ow cm s → (∀ y ∈ bs, env.kindOf y.1 = some .local ∨ (env.kindOf y.1 = some .cell ∧ ∃ c, ow.lookup y.1 = some c)) →
      (∀ t, InCallC s₀ env.locals (bindL env.kindOf bs m) ow (bindC env.kindOf bs cm) t → Q ⟨⟩ t) → wpAny M A (forIn bs ⟨⟩ f) Q E s
  | [], m, cm, s, Q, x, _, q => by rw [List.forIn_nil]; exact wpAny_pure (q s x)
  | (n, v) :: r, m, cm, s, Q, x, hb, q => by
    rw [List.forIn_cons, hf]
    have hb' := fun y hy => hb y (List.mem_cons_of_mem _ hy)
    rcases hb (n, v) List.mem_cons_self with z | ⟨z, c, hc⟩
    · refine wpAny_bind (wpAny_bind (putL x hk z fun t x1 => wpAny_pure (bindM f hf hk hsub r _ _ t Q x1 hb' fun t2 x2 => q t2 ?_)))
      rw [bindL, bindC, if_pos z, if_pos z]; exact x2
    · have nz : ¬ env.kindOf n = some .local := by rw [z]; decide
      refine wpAny_bind (wpAny_bind (putC x hk z hc (hsub n c hc) fun t x1 => wpAny_pure (bindM f hf hk hsub r _ _ t Q x1 hb' fun t2 x2 => q t2 ?_)))
      rw [bindL, bindC, if_neg nz, if_neg nz]; exact x2
theorem newEnvM {scope : Scope} {globals : Addr} {cl : List (Str × Addr)} {bs : List (Str × Value)} {qual : Str} {func : Option Addr} {code : Value} {builtins : Addr} {Q : Env → Shared → Prop} (hk : scope.kind = .function)
    (hb : ∀ y ∈ bs, scope.names.lookup y.1 = some .local ∨ scope.names.lookup y.1 = some .cell)
    (q : ∀ t, InCallC s s.heap.objs.size (bindL (fun x => scope.names.lookup x) bs fun _ => none) (cellsFrom (s.heap.objs.size + 1) scope.names []) (bindC (fun x => scope.names.lookup x) bs fun _ => none) t →
      Q (newEnv scope s.heap.objs.size globals (cellsFrom (s.heap.objs.size + 1) scope.names [] ++ cl) qual func code none builtins) t) : wpAny M A (newFunctionEnv scope globals cl bs qual func code none builtins) Q E s := by
  simp only [newFunctionEnv, Option.isSome_none, Bool.false_eq_true, if_false]
  refine wpAny_bind (wpAny_alloc (wpAny_bind (wpAny_layCells _ (fun name kind cells => by cases hkc : kind == NameKind.cell <;> simp [hkc]) _ _ _ _ ?_)))
  have c1 := cellsFrom_ok scope.names (s.heap.push { cls := .type "frame", data := .dict #[] }) (s.heap.objs.size + 1) [] ⟨fun _ _ z => (nomatch z), .nil⟩ (by rw [Heap.size_push]; exact Nat.le_refl _)
  rw [Heap.size_push] at c1
  rw [show ({ s with heap := s.heap.push { cls := .type "frame", data := .dict #[] } } : Shared).heap.objs.size = s.heap.objs.size + 1 from Heap.size_push .., cellsFrom_app]
  refine wpAny_bind (bindM (s₀ := s) (ow := cellsFrom (s.heap.objs.size + 1) scope.names []) (env := newEnv scope s.heap.objs.size globals (cellsFrom (s.heap.objs.size + 1) scope.names [] ++ cl) qual func code none builtins) _ (fun _ _ _ => rfl) hk (fun n c e => ?_) bs (fun _ => none) (fun _ => none) _ _ ?_ (fun y hy => ?_) fun t x => wpAny_pure (q t x))
  · show (cellsFrom (s.heap.objs.size + 1) scope.names [] ++ cl).lookup n = some c
    rw [look_app, e]; rfl
  · refine { toInCall := ⟨⟨_, _, rfl⟩, (Heap.Ns.new s.heap (.type "frame")).keeps (pushCells_keeps _ _), fun b o e => pushCells_keeps _ _ b o (Heap.get?_push_of_some _ e), Nat.le_refl _⟩, cell := fun n c e => (c1.empty n c (mem_of_lookup' e)).1, apart := c1.apart, above := fun n c e => ?_ }
    have := (c1.empty n c e).2
    exact this
  · rcases hb y hy with z | z
    · exact .inl z
    · exact .inr ⟨z, cell_has z⟩
end
def envM (qual : Str) (scope : Scope) (cl : List (Str × Addr)) (L f : Addr) (cd : Value) : Env :=
  { scope := scope, locals := L, globals := mainGlobals, cells := cellsFrom (L + 1) scope.names [] ++ cl, qual := qual ++ ".<locals>.", func := some f, code := cd, frame := some L, builtins := builtinsNs }
noncomputable def cxM (P : Program) (w : World) (K : PySem.W.Frag) (mg : Str → Option Value) (base : Heap) (N : List Str) (qual : Str) (scope : Scope) (cl : List (Str × Addr)) (f : Addr) (cd : Value) (A : Around) (outer : List Env) (s : Shared) (H : Hp) : Cx where
  prog := P
  w := w
  K := K
  mg := mg
  base := base
  A := A.deeper (envM qual scope cl s.heap.objs.size f cd)
  N := N
  s₀ := s
  H₀ := dropL cl H
  env := envM qual scope cl s.heap.objs.size f cd
  outer := outer
  stack := envM qual scope cl s.heap.objs.size f cd :: outer
  ex := []
  calm := true
  fn := fun x => scope.names.lookup x == some .cell
  pn := []
  xe := fun _ _ => False
structure CloScopeM (own ps cap : List Str) (sc : Scope) : Prop where
  kind : sc.kind = .function
  co : sc.isCoroutine = false
  gen : sc.isGenerator = false
  pre : own.take ps.length = ps
  nd : ps.Nodup
  par : ∀ x ∈ ps, sc.names.lookup x = some .local ∨ sc.names.lookup x = some .cell
  cap : ∀ x ∈ cap, sc.names.lookup x = some .free
  one : ∀ y ∈ sc.names, y.2 = .cell → sc.names.lookup y.1 = some .cell
section
variable {P : Program} {w : World} {K : PySem.W.Frag} {mg : Str → Option Value} {base : Heap} {A : Around} {outer : List Env} {s s1 : Shared} {H : Hp} {own ps cap : List Str} {qual : Str} {scope : Scope} {cl : List (Str × Addr)} {f : Addr} {cd : Value} {vs cv : List V} {us : List Value}
theorem inv_cloM (S : CloScopeM own ps cap scope) (hd : A.handled = none) (e0 : Env0 P w K mg base A outer s H) (hl : vs.length = ps.length) (hlo : ps.length ≤ own.length) (r : Vals vs us)
    (hcl : ∀ x c, cl.lookup x = some c → ∃ o v, H c = some (.frz o (.own c)) ∧ o.data = .cell v) (hfr : ∀ p ∈ scope.names, p.2 = .free → ∃ c, cl.lookup p.1 = some c) (inj : ∀ x y c, cl.lookup x = some c → cl.lookup y = some c → x = y) (hcap : Caps H cl cap cv)
    (xc : InCallC s s.heap.objs.size (bindL (fun x => scope.names.lookup x) (ps.zip us) fun _ => none) (cellsFrom (s.heap.objs.size + 1) scope.names []) (bindC (fun x => scope.names.lookup x) (ps.zip us) fun _ => none) s1) :
    Inv (cxM P w K mg base (own ++ cap) qual scope cl f cd A outer s H) [] (stL own vs cv) (dropL cl H) s1 := by
  classical
  obtain ⟨h1, tk, rfl, hk⟩ := xc.done
  have d1 : ∀ b, ¬ InCl cl b → dropL cl H b = H b := fun b n => if_neg n
  have dn : ∀ b, H b = none → dropL cl H b = none := fun b e => by
    by_cases hc : InCl cl b
    · exact if_pos hc
    · rw [d1 b hc]; exact e
  have noA : ∀ b : Addr, b ∉ (cxM P w K mg base (own ++ cap) qual scope cl f cd A outer s H).ex := fun b z => absurd (show b ∈ ([] : List Addr) from z) (by simp)
  have at' : ∀ x c, cl.lookup x = some c → ∃ o v, s.heap.get? c = some o ∧ o.data = .cell v := fun x c e => by
    obtain ⟨o, v, z, zd⟩ := hcl x c e
    exact ⟨o, v, (e0.hok c _ z).1, zd⟩
  have hok0 : HOk P w (dropL cl H) s.heap := fun b u e => by
    have hc : ¬ InCl cl b := fun hc => by
      have : dropL cl H b = none := if_pos hc
      rw [this] at e; cases e
    rw [d1 b hc] at e
    exact (e0.hok b u e).stay (fun _ _ _ z => z) (fun c z => by rw [d1 c (drop_cells hcl z fun _ _ y => nomatch y)]; exact z) (fun c o a q co z => by rw [d1 c (drop_code hcl co z)]; exact z) fun c xs z => by rw [d1 c (drop_cells hcl z fun _ _ y => nomatch y)]; exact z
  -- a name's cell: an own one, or one of cl
  have two : ∀ x c, (cellsFrom (s.heap.objs.size + 1) scope.names [] ++ cl).lookup x = some c → ((cellsFrom (s.heap.objs.size + 1) scope.names []).lookup x = some c ∧ s.heap.objs.size < c) ∨ ((cellsFrom (s.heap.objs.size + 1) scope.names []).lookup x = none ∧ cl.lookup x = some c ∧ c < s.heap.objs.size) := fun x c e => by
    rw [look_app] at e
    cases z : (cellsFrom (s.heap.objs.size + 1) scope.names []).lookup x with
    | some y =>
      rw [z] at e
      cases e
      exact .inl ⟨rfl, xc.above x c (mem_of_lookup' z)⟩
    | none =>
      rw [z] at e
      have e' : cl.lookup x = some c := e
      obtain ⟨o, v, ho, _⟩ := at' x c e'
      exact .inr ⟨rfl, e', Heap.lt_size ho⟩
  have free' : ∀ x, scope.names.lookup x = some .free → (cellsFrom (s.heap.objs.size + 1) scope.names []).lookup x = none := fun x hx => by
    cases z : (cellsFrom (s.heap.objs.size + 1) scope.names []).lookup x with
    | none => rfl
    | some y =>
      have := S.one (x, .cell) (cellsFrom_kind _ _ (mem_of_lookup' z)) rfl
      rw [hx] at this; cases this
  refine ⟨⟨e0.mod, S.kind, rfl, rfl, Nat.le_refl _, fun x y c hx hy => ?_, fun x hx => ?_, fun x c hx hc => ?_, fun _ => hd, Around.frames_deeper e0.frames, .inr ⟨rfl, rfl⟩, fun b z => absurd z (noA b), fun b o e => ⟨(e0.bs b o e).1, dn b (e0.bs b o e).2⟩, e0.bsz, fun b _ _ => noA b, fun b z => absurd z (noA b), e0.funs, fun b hb => dn b (e0.frf b hb)⟩,
    rfl, e0.bare, Un.kept hk, ⟨_, xc.toInCall.ns, fun i x v e1 e2 e3 => ?_⟩, fun x c e => ?_, hok0.fresh (Nat.le_refl _), fun x c e => ?_, fun p hp => absurd (show p ∈ ([] : List (Addr × Obj)) from hp) (by simp), hok0.kept hk, ?_⟩
  · rcases two x c hx with ⟨z1, z2⟩ | ⟨_, z1, z2⟩ <;> rcases two y c hy with ⟨z3, z4⟩ | ⟨_, z3, z4⟩
    · exact name_of_addr xc.apart (mem_of_lookup' z1) (mem_of_lookup' z3)
    · exact absurd (Nat.lt_trans z2 z4) (Nat.lt_irrefl _)
    · exact absurd (Nat.lt_trans z4 z2) (Nat.lt_irrefl _)
    · exact inj x y c z1 z3
  · have hx : scope.names.lookup x = some .cell ∨ scope.names.lookup x = some .free := hx
    show ∃ c, (cellsFrom (s.heap.objs.size + 1) scope.names [] ++ cl).lookup x = some c
    rw [look_app]
    rcases hx with z | z
    · obtain ⟨c, e⟩ := cell_has (n := s.heap.objs.size + 1) z
      exact ⟨c, by rw [e]; rfl⟩
    · obtain ⟨c, e⟩ := hfr (x, .free) (mem_of_lookup' z) rfl
      exact ⟨c, by rw [free' x z]; exact e⟩
  · have hx' : scope.names.lookup x = some .cell := beq_iff_eq.mp hx
    obtain ⟨c', e⟩ := cell_has (n := s.heap.objs.size + 1) hx'
    rcases two x c hc with ⟨z1, z2⟩ | ⟨z1, _⟩
    · exact Nat.le_of_lt z2
    · rw [e] at z1; cases z1
  · have e1' : (own ++ cap)[i]? = some x := e1
    have e2' : (vs.map some ++ List.replicate (own.length - vs.length) none ++ cv.map some)[i]? = some (some v) := e2
    have lo : (vs.map some ++ List.replicate (own.length - vs.length) (none : Option V)).length = own.length := by rw [List.length_append, List.length_map, List.length_replicate]; omega
    by_cases hi : i < own.length
    · rw [List.getElem?_append_left (by omega)] at e2'
      by_cases hv : i < vs.length
      · rw [List.getElem?_append_left (by simpa using hv), List.getElem?_map] at e2'
        rw [List.getElem?_append_left hi] at e1'
        have ha : vs[i]? = some v := by
          cases q : vs[i]? with
          | none => rw [q] at e2'; cases e2'
          | some z => rw [q] at e2'; exact congrArg some (Option.some.inj (Option.some.inj e2'))
        obtain ⟨u, hu, ru⟩ := r.get ha
        have hp : ps[i]? = some x := by rw [← S.pre, List.getElem?_take_of_lt (by omega)]; exact e1'
        refine ⟨u, ru, ?_⟩
        rcases S.par x (List.mem_of_getElem? hp) with k | k
        · exact .inl ⟨k, bindL_get S.nd hp hu k⟩
        · obtain ⟨c, e⟩ := cell_has (n := s.heap.objs.size + 1) k
          have qc := xc.cell x c e
          rw [bindC_get S.nd hp hu (by show scope.names.lookup x ≠ _; rw [k]; decide)] at qc
          refine .inr ⟨.inl k, c, ?_, qc⟩
          show (cellsFrom (s.heap.objs.size + 1) scope.names [] ++ cl).lookup x = some c
          rw [look_app, e]; rfl
      · rw [List.getElem?_append_right (by simpa using Nat.le_of_not_lt hv), List.getElem?_replicate] at e2'
        split at e2' <;> cases e2'
    · rw [List.getElem?_append_right (by omega), lo, List.getElem?_map] at e2'
      rw [List.getElem?_append_right (by omega)] at e1'
      have ha : cv[i - own.length]? = some v := by
        cases q : cv[i - own.length]? with
        | none => rw [q] at e2'; cases e2'
        | some z => rw [q] at e2'; exact congrArg some (Option.some.inj (Option.some.inj e2'))
      obtain ⟨c, o, u, hc, hz, hd', ru⟩ := caps_at hcap e1' ha
      have hf' := S.cap x (List.mem_of_getElem? e1')
      refine ⟨u, ru, .inr ⟨.inr hf', c, ?_, o, hk c o (e0.hok c _ hz).1, hd'⟩⟩
      show (cellsFrom (s.heap.objs.size + 1) scope.names [] ++ cl).lookup x = some c
      rw [look_app, free' x hf']; exact hc
  · rcases two x c e with ⟨z1, z2⟩ | ⟨_, z1, z2⟩
    · exact ⟨_, xc.cell x c z1⟩
    · obtain ⟨o, v, ho, hd'⟩ := at' x c z1
      exact ⟨v, o, hk c o ho, hd'⟩
  · rcases two x c e with ⟨z1, z2⟩ | ⟨_, z1, z2⟩
    · exact hok0.fresh (Nat.le_of_lt z2)
    · exact if_pos ⟨x, z1⟩
  · have := paired_len hcap
    show (vs.map some ++ List.replicate (own.length - vs.length) none ++ cv.map some).length = (own ++ cap).length
    rw [List.length_append, List.length_append, List.length_map, List.length_replicate, List.length_map, List.length_append]
    omega
theorem clo_finM {N : List Str} {pins : List (Addr × Obj)} {σ' : St} {H2 : Hp} {s' : Shared} {v : V} {u : Value} {Q : VK} (e0 : Env0 P w K mg base A outer s H) (hcl : ∀ x c, cl.lookup x = some c → ∃ o v, H c = some (.frz o (.own c)) ∧ o.data = .cell v)
    (J : Inv (cxM P w K mg base N qual scope cl f cd A outer s H) pins σ' H2 s') (rv : RelV v u) (q : (∀ b, InCl cl b → H2 b = none) → Q v (mixL cl H H2)) : CE outer P w H s Q u s' := by
  classical
  have d1 : ∀ b, ¬ InCl cl b → dropL cl H b = H b := fun b n => if_neg n
  have m1 : ∀ b, ¬ InCl cl b → mixL cl H H2 b = H2 b := fun b n => if_neg n
  have nc : ∀ b, H b = none → ¬ InCl cl b := fun b e ⟨x, z⟩ => by
    obtain ⟨o, v, z2, _⟩ := hcl x b z
    rw [z2] at e; cases e
  have un : Un (frs outer) [] (dropL cl H) H2 s.heap s'.heap := J.base
  have cellK : ∀ x c, cl.lookup x = some c → ∃ o, H c = some (.frz o (.own c)) ∧ s'.heap.get? c = some o ∧ H2 c = none := fun x c e => by
    obtain ⟨o, v, z, _⟩ := hcl x c e
    have ho := (e0.hok c _ z).1
    have dz : dropL cl H c = none := if_pos ⟨x, e⟩
    have nf : c ∉ frs outer := fun hb => by rw [e0.frf c hb] at z; cases z
    exact ⟨o, z, un.keep c o ho dz nf (by simp), un.free c o ho dz (by simp)⟩
  have nm : ∀ b u, H2 b = some u → ¬ InCl cl b := fun b u e ⟨x, z⟩ => by
    obtain ⟨_, _, _, z2⟩ := cellK x b z
    rw [z2] at e; cases e
  refine ⟨v, mixL cl H H2, J.os, J.bare, ⟨fun b o e n hf hx => un.keep b o e (by rw [d1 b (nc b n)]; exact n) hf hx, fun b o e n hf hx => un.slot b o e (by rw [d1 b (nc b n)]; exact n) hf hx, fun b o e n hx => by rw [m1 b (nc b n)]; exact un.free b o e (by rw [d1 b (nc b n)]; exact n) hx, un.there, fun b xs e => ?_, fun b o a e => ?_, fun b qs ps e => ?_⟩, fun b u e => ?_, rv, q fun b ⟨x, z⟩ => let ⟨_, _, _, z2⟩ := cellK x b z; z2⟩
  · have hc := drop_cells hcl e fun _ _ y => nomatch y
    rw [m1 b hc]; exact un.tups b xs (by rw [d1 b hc]; exact e)
  · by_cases hc : InCl cl b
    · show (if InCl cl b then H b else H2 b) = _
      rw [if_pos hc]; exact e
    · rw [m1 b hc]; exact un.frzs b o a (by rw [d1 b hc]; exact e)
  · have hc := drop_cells hcl e fun _ _ y => nomatch y
    rw [m1 b hc]; exact un.tbls b qs ps (by rw [d1 b hc]; exact e)
  · by_cases hc : InCl cl b
    · have e' : H b = some u := by rw [← e]; exact (if_pos hc).symm
      obtain ⟨x, z⟩ := hc
      obtain ⟨o, z1, z2, _⟩ := cellK x b z
      rw [z1] at e'; cases e'
      exact ⟨z2, o, z2⟩
    · rw [m1 b hc] at e
      exact (J.hok b u e).stay (fun _ _ _ z => z) (fun c z => by rw [m1 c (nm c _ z)]; exact z) (fun c _ _ _ _ z => by rw [m1 c (nm c _ z)]; exact z) fun c xs z => by rw [m1 c (nm c _ z)]; exact z
end
section
variable {P : Program} {w : World} {K : PySem.W.Frag} {mg : Str → Option Value} {base : Heap} {H : Hp} {own ps cap : List Str} {name qual : Str} {params : Arguments} {scope : Scope} {cl : List (Str × Addr)} {f c' : Addr} {oc : Obj} {ct pm : Value} {cv : List V} {k : Nat} {sp : Sp}
theorem clo_stmtsM {body : List Stmt} (S : CloScopeM own ps cap scope) (hlo : ps.length ≤ own.length) (hf : H f = some (fnO (cloFd name qual params (.stmts body) scope cl ct (.ref c') pm) f)) (hcode : H c' = some (.frz oc (.own c'))) (co : CodeObj oc qual)
    (hcl : ∀ x c, cl.lookup x = some c → ∃ o v, H c = some (.frz o (.own c)) ∧ o.data = .cell v) (hfr : ∀ p ∈ scope.names, p.2 = .free → ∃ c, cl.lookup p.1 = some c) (inj : ∀ x y c, cl.lookup x = some c → cl.lookup y = some c → x = y) (hcap : Caps H cl cap cv)
    (hbind : ∀ us : List Value, us.length = ps.length → bindArgs (cloFd name qual params (.stmts body) scope cl ct (.ref c') pm) ⟨us, []⟩ = pure (ps.zip us))
    (hbody : ∀ (A : Around) (outer : List Env) (s : Shared) (H' : Hp) (vs : List V) (Q : VK), Room k (A.deeper (envM qual scope cl s.heap.objs.size f (.ref c'))) → Frz H H' → vs.length = ps.length → sp vs H' Q E0 →
      ∃ t, PSs (cxM P w K mg base (own ++ cap) qual scope cl f (.ref c') A outer s H') body t ∧ t { nx := fun _ H2 => (∀ b, InCl cl b → H2 b = none) → Q .non (mixL cl H' H2), rt := fun v H2 => (∀ b, InCl cl b → H2 b = none) → Q v (mixL cl H' H2) } (stL own vs cv) (dropL cl H')) : CloH P w K mg base (k + 1) H f ps.length sp := by
  intro A outer s H' us vs Q hr e0 fz r hl hsp
  have lim : s.heap.NoLimit := e0.mod.nolimit.keeps fun b o e => (e0.bs b o e).1
  have ho := (e0.hok f _ (fz _ _ _ hf)).1
  have hoc := (e0.hok c' _ (fz _ _ _ hcode)).1
  obtain ⟨ws, t', cd1, cd2⟩ := co
  have hlu : us.length = ps.length := by rw [← r.length]; exact hl
  have hcl' : ∀ x c, cl.lookup x = some c → ∃ o v, H' c = some (.frz o (.own c)) ∧ o.data = .cell v := fun x c e => let ⟨o, v, z, d⟩ := hcl x c e; ⟨o, v, fz _ _ _ z, d⟩
  refine codeAny_call_function hr.depth ho rfl S.co S.gen rfl ⟨c', oc, ws, t', rfl, hoc, cd1, cd2⟩ ?_
  rw [hbind us hlu]
  refine wpAny_pure (newEnvM S.kind (fun y hy => S.par y.1 (List.of_mem_zip (show (y.1, y.2) ∈ ps.zip us from hy)).1) fun s1 x => ?_)
  refine ⟨lim.keeps x.toInCall.keep, codeAny_func ?_⟩
  obtain ⟨t, ht, hq⟩ := hbody A outer s H' vs Q (hr.deeper _) fz hl hsp
  have I := inv_cloM (qual := qual) (f := f) (cd := .ref c') S hr.hd e0 hl hlo r hcl' hfr inj (hcap.frz fz) x
  refine wpAny_mono (ht [] _ _ _ _ I hq) (fun fl s' hs => ?_) fun _ _ z => z.elim
  cases fl with
  | ret u =>
    obtain ⟨v, σ', H2, J, rv, q⟩ := hs
    exact clo_finM e0 hcl' J rv q
  | next =>
    obtain ⟨σ', H2, J, q⟩ := hs
    exact clo_finM (v := V.non) (u := Value.none) e0 hcl' J rfl q
  | brk =>
    obtain ⟨_, _, _, q⟩ := hs
    exact False.elim q
  | cont =>
    obtain ⟨_, _, _, q⟩ := hs
    exact False.elim q
end
section
variable {X : Cx} {H H1 H1' Hq : Hp} {σ : St} {name qual : Str} {params : Arguments} {scope : Scope} {f : Addr} {own ps cap : List Str} {cv : List V} {k : Nat} {sp : Sp}
theorem Made.clo_sM {body : List Stmt} (M : Made X H H1 name qual params (.stmts body) scope f) (g : Same H1 H1') (ad : Adopted X σ H1' Hq) (S : CloScopeM own ps cap scope) (hlo : ps.length ≤ own.length) (hcap : CapAt X σ cap cv)
    (hbind : ∀ (cl : List (Str × Addr)) (ct cd pm : Value) (us : List Value), us.length = ps.length → bindArgs (cloFd name qual params (.stmts body) scope cl ct cd pm) ⟨us, []⟩ = pure (ps.zip us))
    (hbody : ∀ (cl : List (Str × Addr)) (c' : Addr) (A : Around) (outer : List Env) (s : Shared) (H' : Hp) (vs : List V) (Q : VK), Room k (A.deeper (envM qual scope cl s.heap.objs.size f (.ref c'))) → ClOk cl H' → Frz Hq H' → Frz H1' (dropL cl H') → vs.length = ps.length → sp vs H' Q E0 →
      ∃ t, PSs (cxM X.prog X.w X.K X.mg X.base (own ++ cap) qual scope cl f (.ref c') A outer s H') body t ∧ t { nx := fun _ H2 => (∀ b, InCl cl b → H2 b = none) → Q .non (mixL cl H' H2), rt := fun v H2 => (∀ b, InCl cl b → H2 b = none) → Q v (mixL cl H' H2) } (stL own vs cv) (dropL cl H')) : CloH X.prog X.w X.K X.mg X.base (k + 1) Hq f ps.length sp := by
  obtain ⟨cl, ct, c', oc, pm, l1, l2, l3, l4, l5⟩ := M.ex
  have hcl : ClOk cl Hq := fun x c e => let ⟨o, v, z1, z2, _⟩ := ad.2.2.2 x c (l1 x c e); ⟨o, v, z1, z2⟩
  have up := ad.up
  refine clo_stmtsM S hlo (up _ _ (g _ _ l5)) (up _ _ (g _ _ l3)) l4 hcl l2 (fun x y c e1 e2 => ad.2.2.1 x y c (l1 x c e1) (l1 y c e2)) (caps_of ad l1 (fun x hx => l2 (x, .free) (mem_of_lookup' (S.cap x hx)) rfl) hcap) (hbind cl ct _ pm) fun A outer s H' vs Q hr fz hl hsp => ?_
  exact hbody cl c' A outer s H' vs Q hr (fun x c e => let ⟨o, v, z, d⟩ := hcl x c e; ⟨o, v, fz _ _ _ z, d⟩) fz (frz_drop ad l1 fz) hl hsp
end
end L2

set_option Elab.async false
set_option linter.all false
set_option maxRecDepth 100000
/-! range(n) as a thing; list.index of tuples -/
namespace L2
open PySem PySem.Spec PyProof.Rows
def rRange1 : List V → Hp → VK → Prop := fun xs H Q => ∃ j : Int, xs = [.int j] ∧ ∀ p H', New H p (.rng 0 j) H' → Q (.ref p) H'
theorem call_range1V {X : Cx} : CallR X (.type "range") rRange1 := by
  intro pins s σ H xs us Q I r h
  obtain ⟨j, rfl, q⟩ := h
  obtain ⟨u, rfl, t, rfl⟩ := vals1 r
  refine call_range_1 ⟨.ref s.heap.objs.size, _, I.laid (t' := s.toks + 1 + 1) (fun b o e => Heap.get?_push_of_some _ e) (Nat.le_refl _) ?_, rfl, q _ _ (.mk' I.fresh _)⟩
  exact ⟨_, _, _, Heap.get?_push_size _ rfl⟩
/-- l.index(k), each item of l an object; e says which of them are like k -/
def rIndexD (K : PySem.W.Frag) : V → List V → Hp → VK → Prop := fun x vs H Q => ∃ (p : Addr) (xs : List Addr) (k : V) (e : Addr → Bool) (j : Nat) (a : Addr), x = .ref p ∧ vs = [k] ∧ SqL K H p (xs.map V.ref) ∧ (∀ (X : Cx), ∀ a ∈ xs, EqOk X 7 H (.ref a) k (e a)) ∧ xs[j]? = some a ∧ e a = true ∧ (∀ i b, i < j → xs[i]? = some b → e b = false) ∧ xs.length ≤ 1000 ∧ Q (.int (j : Nat)) H
theorem mt_indexD {X : Cx} (hu : X.A.units + 8 < cLine) : MtR X "list.index" (rIndexD X.K) := by
  intro pins s σ H x xs v us Q I rx rs h
  obtain ⟨p, as, k, e, j, a, rfl, rfl, hx, he, hj, ej, hno, hz, q⟩ := h
  cases rx
  obtain ⟨u, rfl, rk⟩ := vals1 rs
  obtain ⟨vs, rv, pl, _⟩ := I.list hx
  have hlen := rv.length
  rw [List.length_map] at hlen
  have hv : ∀ i b, as[i]? = some b → ∃ h : i < vs.length, vs[i] = .ref b := fun i b h => by
    have hi := (List.getElem?_eq_some_iff.mp h).1
    obtain ⟨h', z⟩ := rv.at (j := i) (by omega)
    rw [List.getElem_map] at z
    rw [(List.getElem?_eq_some_iff.mp h).2] at z
    exact ⟨by omega, z⟩
  obtain ⟨⟨cls, dd, data, sl⟩, ho, hc, n, hd⟩ := pl.isList
  simp only at hc hd
  subst hc hd
  have hjl := (List.getElem?_eq_some_iff.mp hj).1
  let e' : Value → Bool := fun | .ref b => e b | _ => false
  refine call_meets PySem.F.slot_list_index ⟨_, ho, rfl⟩ PySem.F.entry_list_index (PySem.F.args_list_index_2 _ _)
    (SeqAt.list_indexAt p vs.toArray n dd sl u e' j (by simp; omega) (by omega) ?_ ?_) ⟨ho, fun y hy => ?_, ?_⟩
  · obtain ⟨h, z⟩ := hv j a hj
    show e' vs[j] = true
    rw [z]; exact ej
  · intro m hm hlt
    have hm' : m < as.length := by simp at hm; omega
    obtain ⟨h, z⟩ := hv m as[m] (List.getElem?_eq_getElem hm')
    show e' vs[m] = false
    rw [z]
    exact hno m _ hlt (List.getElem?_eq_getElem hm')
  · obtain ⟨i, hi, rfl⟩ := List.getElem_of_mem (show y ∈ vs by simpa using hy)
    have hi' : i < as.length := by omega
    obtain ⟨h, z⟩ := hv i as[i] (List.getElem?_eq_getElem hi')
    rw [z]
    exact he X _ (List.getElem_mem hi') pins σ s X.A.in1 _ _ (by show X.A.units + 1 + 7 < cLine; omega) I rfl rk
  · exact ⟨.int _, H, I.tok _, ⟨_, rfl⟩, q⟩
theorem mt_indexDK {X : Cx} (K : PySem.W.Frag) (hu : X.A.units + 8 < cLine) (h : X.K = K := by rfl) : MtR X "list.index" (rIndexD K) := h ▸ mt_indexD hu
end L2

set_option Elab.async false
set_option linter.all false
set_option maxRecDepth 100000
/-! NAMES AND FRAMES: what they are, and the promises of the defs that tell it -/
namespace SS
open PySem PySem.Spec PyProof.Rows L2
def SMALL : Str := "abcdefghijklmnopqrstuvwxyz"
def GREAT : Str := "ABCDEFGHIJKLMNOPQRSTUVWXYZ"
def FIGS : Str := "0123456789"
/-! ### the mirror -/
def signIn (c : Nat) (z : Str) : Bool := !(Builtin.Str.occurrences z ⟨#[c]⟩ 0 z.length 1).isEmpty
def nameB (z letters : Str) : Bool := match z.cps.toList with
  | [] => false
  | c :: r => decide (r.length ≤ 3) && signIn c letters && r.all fun d => signIn d FIGS
def isNm (x : V) (letters : Str) : Bool := match x with
  | .str z => nameB z letters
  | _ => false
/-! ### the promises -/
/-- what a drawn name is -/
structure Nam (z letters : Str) : Prop where
  ex : ∃ d ds, z.cps.toList = d :: ds ∧ d ∈ letters.cps.toList ∧ ds.length ≤ 3 ∧ ∀ x ∈ ds, x ∈ FIGS.cps.toList
theorem sign_in (c : Nat) (z : Str) : signIn c z = decide (c ∈ z.cps.toList) := PySem.StrLaws.found_one z c
/-- a thing of a plain kind, no great text -/
def Thing (H : Hp) (y : V) : Prop := (∃ k, Kd H y k) ∧ ∀ z, y = .str z → z.length ≤ 1000
theorem Thing.same {H H' : Hp} {y : V} (h : Thing H y) (g : Same H H') : Thing H' y := ⟨let ⟨k, q⟩ := h.1; ⟨k, q.same g⟩, h.2⟩
theorem Thing.str {H : Hp} {z : Str} (h : z.length ≤ 1000) : Thing H (.str z) := ⟨⟨_, .str z⟩, fun z' e => by cases e; exact h⟩
theorem Thing.non {H : Hp} : Thing H .non := ⟨⟨_, .non⟩, fun z' e => by cases e⟩
theorem Thing.int {H : Hp} (i : Int) : Thing H (.int i) := ⟨⟨_, .int i⟩, fun z' e => by cases e⟩
theorem Thing.bl {H : Hp} (b : Bool) : Thing H (.bl b) := ⟨⟨_, .bl b⟩, fun z' e => by cases e⟩
theorem Thing.lst {H : Hp} {a : Addr} {xs : List V} (e : H a = some (.lst xs)) : Thing H (.ref a) := ⟨⟨_, .lst e⟩, fun z' e => by cases e⟩
theorem Thing.tup {H : Hp} {a : Addr} {xs : List V} (e : H a = some (.tup xs)) : Thing H (.ref a) := ⟨⟨_, .tup e⟩, fun z' e => by cases e⟩
theorem Thing.dK {H : Hp} {a : Addr} {xs : List (Key × V)} (e : H a = some (.dK xs)) : Thing H (.ref a) := ⟨⟨_, .dK e⟩, fun z' e => by cases e⟩
def isName (x : V) : Bool := isNm x SMALL || isNm x GREAT
/-- a list of things -/
def Things (H : Hp) (xs : List V) : Prop := xs.length ≤ 1000 ∧ ∀ y ∈ xs, Thing H y
theorem Things.same {H H' : Hp} {xs : List V} (h : Things H xs) (g : Same H H') : Things H' xs := ⟨h.1, fun y hy => (h.2 y hy).same g⟩
end SS

set_option Elab.async false
set_option linter.all false
set_option maxRecDepth 100000
/-! what the laws' own defs promise -/
namespace SS
open PySem PySem.Spec PyProof.Rows L2
def sp_cell (K : PySem.W.Frag) : Sp := fun vs H Q _ => ∃ (a : Addr) (ns : List Int) (k : Int), vs = [.ref a, .int k] ∧ SqL K H a (ns.map V.int) ∧ 0 ≤ k ∧ ∀ c, Q (.int c) H
theorem mem_cut {α : Type} {xs : List α} {lo hi : Option Int} {y : α} (h : y ∈ cutL xs lo hi) : y ∈ xs := List.mem_of_mem_drop (List.mem_of_mem_take h)
theorem Things.cut {H : Hp} {xs : List V} {lo hi : Option Int} (h : Things H xs) : Things H (cutL xs lo hi) := ⟨Nat.le_trans (cutL_len xs lo hi) h.1, fun y hy => h.2 y (mem_cut hy)⟩
end SS
namespace SS
open PySem PySem.Spec PyProof.Rows L2
theorem cutL_map {α β : Type} (f : α → β) (xs : List α) (lo hi : Option Int) : cutL (xs.map f) lo hi = (cutL xs lo hi).map f := by
  unfold cutL
  rw [List.length_map, List.map_take, List.map_drop]
theorem Things.app {H : Hp} {xs ys : List V} (h1 : Things H xs) (h2 : Things H ys) (l : xs.length + ys.length ≤ 1000) : Things H (xs ++ ys) := ⟨by rw [List.length_append]; exact l, fun y hy => (List.mem_append.mp hy).elim (h1.2 y) (h2.2 y)⟩
theorem Things.one {H : Hp} {y : V} (h : Thing H y) : Things H [y] := ⟨by show 1 ≤ 1000; decide, fun z hz => by rw [List.mem_singleton.mp hz]; exact h⟩
theorem Things.nil {H : Hp} : Things H [] := ⟨Nat.zero_le _, fun _ h => nomatch h⟩
end SS

set_option Elab.async false
set_option linter.all false
set_option maxRecDepth 100000
/-! SAYINGS: what they are, how the heap bears them -/
namespace SS
open PySem PySem.Spec PyProof.Rows L2
inductive Sy where
  | bare (w n m : Str)
  | neg (s : Sy)
  | two (w : Str) (s t : Sy)
  | qu (w n : Str) (s : Sy)
def bareWords : List Str := ["in", "same", "within", "ahead", "next", "left", "right", "above"]
def Sy.depth : Sy → Nat
  | .bare _ _ _ => 1
  | .neg s => s.depth + 1
  | .two _ s t => max s.depth t.depth + 1
  | .qu _ _ s => s.depth + 1
def Sy.parts : Sy → Nat
  | .bare _ _ _ => 1
  | .neg s => s.parts + 1
  | .two _ s t => s.parts + t.parts + 1
  | .qu _ _ s => s.parts + 1
/-- the saying as the heap bears it -/
inductive Rep (H : Hp) : V → Sy → Prop where
  | bare {a : Addr} {w n m : Str} (hw : w ∈ bareWords) (e : H a = some (.tup [.str w, .str n, .str m])) : Rep H (.ref a) (.bare w n m)
  | neg {a : Addr} {x : V} {s : Sy} (e : H a = some (.tup [.str "not", x])) (h : Rep H x s) : Rep H (.ref a) (.neg s)
  | two {a : Addr} {w : Str} {x y : V} {s t : Sy} (hw : w ∈ (["and", "or"] : List Str)) (e : H a = some (.tup [.str w, x, y])) (h1 : Rep H x s) (h2 : Rep H y t) : Rep H (.ref a) (.two w s t)
  | qu {a : Addr} {w n : Str} {x : V} {s : Sy} (hw : w ∈ (["some", "all"] : List Str)) (e : H a = some (.tup [.str w, .str n, x])) (h : Rep H x s) : Rep H (.ref a) (.qu w n s)
theorem Rep.same {H H' : Hp} {v : V} {s : Sy} (r : Rep H v s) (g : Same H H') : Rep H' v s := by
  induction r with
  | bare hw e => exact .bare hw (g _ _ e)
  | neg e _ ih => exact .neg (g _ _ e) ih
  | two hw e _ _ ih1 ih2 => exact .two hw (g _ _ e) ih1 ih2
  | qu hw e _ ih => exact .qu hw (g _ _ e) ih
theorem Rep.tup {H : Hp} {v : V} {s : Sy} (r : Rep H v s) : ∃ a xs, v = .ref a ∧ H a = some (.tup xs) := by
  cases r with
  | bare hw e => exact ⟨_, _, rfl, e⟩
  | neg e _ => exact ⟨_, _, rfl, e⟩
  | two hw e _ _ => exact ⟨_, _, rfl, e⟩
  | qu hw e _ => exact ⟨_, _, rfl, e⟩
/-! ### words -/
/-! ### names that nothing tells -/
/-- each once -/
def addAll : List Str → List Str → List Str
  | f, [] => f
  | f, x :: r => addAll (if x ∈ f then f else f ++ [x]) r
def once (xs : List Str) : List Str := addAll [] xs
end SS

set_option Elab.async false
set_option linter.all false
set_option maxRecDepth 100000
/-! the promises of the defs about sayings -/
namespace SS
open PySem PySem.Spec PyProof.Rows L2
def isT (H : Hp) (x : V) : Bool := match x with
  | .ref a => match H a with
    | some (.tup _) => true
    | _ => false
  | _ => false
theorem Kd.isT {H : Hp} {x : V} {k : String} (h : Kd H x k) : subT k "tuple" = isT H x := by
  cases h with
  | lst e => simp only [SS.isT, e]; decide
  | tup e => simp only [SS.isT, e]; decide
  | dK e => simp only [SS.isT, e]; decide
  | _ => rfl
def Sy.inner : Sy → List Sy
  | .bare _ _ _ => []
  | .neg s => [s]
  | .two _ s t => [s, t]
  | .qu _ _ s => [s]
theorem Rep.kd {H : Hp} {v : V} {s : Sy} (r : Rep H v s) : Kd H v "tuple" := by
  obtain ⟨a, xs, rfl, e⟩ := r.tup
  exact .tup e
theorem Rep.isT {H : Hp} {v : V} {s : Sy} (r : Rep H v s) : isT H v = true := by
  obtain ⟨a, xs, rfl, e⟩ := r.tup
  simp only [SS.isT, e]
/-- a saying's tuple, and its sayings among the items -/
theorem Rep.items {H : Hp} {v : V} {s : Sy} (r : Rep H v s) : ∃ a xs, v = .ref a ∧ H a = some (.tup xs) ∧ xs.length ≤ 3 ∧ (∀ y ∈ xs, ∃ k, Kd H y k) ∧ Paired (Rep H) (xs.filter (SS.isT H)) s.inner := by
  cases r with
  | bare hw e =>
    refine ⟨_, _, rfl, e, Nat.le_refl _, fun y hy => ?_, .nil⟩
    simp only [List.mem_cons, List.not_mem_nil, or_false] at hy
    rcases hy with rfl | rfl | rfl <;> exact ⟨_, .str _⟩
  | neg e h =>
    refine ⟨_, _, rfl, e, by simp, fun y hy => ?_, ?_⟩
    · simp only [List.mem_cons, List.not_mem_nil, or_false] at hy
      rcases hy with rfl | rfl
      · exact ⟨_, .str _⟩
      · exact ⟨_, h.kd⟩
    · rw [List.filter_cons_of_neg (by simp [SS.isT]), List.filter_cons_of_pos h.isT]
      exact .cons h .nil
  | two hw e h1 h2 =>
    refine ⟨_, _, rfl, e, by simp, fun y hy => ?_, ?_⟩
    · simp only [List.mem_cons, List.not_mem_nil, or_false] at hy
      rcases hy with rfl | rfl | rfl
      · exact ⟨_, .str _⟩
      · exact ⟨_, h1.kd⟩
      · exact ⟨_, h2.kd⟩
    · rw [List.filter_cons_of_neg (by simp [SS.isT]), List.filter_cons_of_pos h1.isT, List.filter_cons_of_pos h2.isT]
      exact .cons h1 (.cons h2 .nil)
  | qu hw e h =>
    refine ⟨_, _, rfl, e, by simp, fun y hy => ?_, ?_⟩
    · simp only [List.mem_cons, List.not_mem_nil, or_false] at hy
      rcases hy with rfl | rfl | rfl
      · exact ⟨_, .str _⟩
      · exact ⟨_, .str _⟩
      · exact ⟨_, h.kd⟩
    · rw [List.filter_cons_of_neg (by simp [SS.isT]), List.filter_cons_of_neg (by simp [SS.isT]), List.filter_cons_of_pos h.isT]
      exact .cons h .nil
end SS
namespace SS
open PySem PySem.Spec PyProof.Rows L2
theorem Paired.at {α β : Type} {R : α → β → Prop} : ∀ {xs : List α} {ys : List β} {i : Nat} {x : α}, Paired R xs ys → xs[i]? = some x → ∃ y, ys[i]? = some y ∧ R x y
  | _, _, _, _, .nil, h => by simp at h
  | _, _, 0, _, .cons h _, e => by simp at e; subst e; exact ⟨_, rfl, h⟩
  | _, _, i + 1, _, .cons _ h, e => by simp only [List.getElem?_cons_succ] at e ⊢; exact Paired.at h e
theorem Paired.len {α β : Type} {R : α → β → Prop} : ∀ {xs : List α} {ys : List β}, Paired R xs ys → xs.length = ys.length
  | _, _, .nil => rfl
  | _, _, .cons _ h => by rw [List.length_cons, List.length_cons, Paired.len h]
theorem flat_le {f : Sy → List Str} : ∀ (xs : List Sy) (i : Nat), ((xs.take i).flatMap f).length ≤ (xs.flatMap f).length
  | [], i => by simp
  | x :: r, 0 => by simp
  | x :: r, i + 1 => by
    rw [List.take_succ_cons, List.flatMap_cons, List.flatMap_cons, List.length_append, List.length_append]
    have := flat_le (f := f) r i
    omega
end SS
namespace SS
open PySem PySem.Spec PyProof.Rows L2
end SS

set_option Elab.async false
set_option linter.all false
set_option maxRecDepth 100000
/-! drawn sayings: what the laws' own drawing promises -/
namespace SS
open PySem PySem.Spec PyProof.Rows L2
def isPl (z : Str) : Bool := isNm (.str z) SMALL
def isSt (z : Str) : Bool := isNm (.str z) GREAT
theorem nm_ex {z l : Str} (h : isNm (.str z) l = true) : ∃ c r, z.cps.toList = c :: r ∧ r.length ≤ 3 ∧ c ∈ l.cps.toList ∧ ∀ d ∈ r, d ∈ FIGS.cps.toList := by
  simp only [isNm, nameB] at h
  split at h
  · cases h
  · rename_i c r e
    rw [Bool.and_eq_true, Bool.and_eq_true, sign_in, decide_eq_true_eq, decide_eq_true_eq, List.all_eq_true] at h
    exact ⟨c, r, e, h.1.1, h.1.2, fun d hd => by have := h.2 d hd; rw [sign_in, decide_eq_true_eq] at this; exact this⟩
theorem name_cases {z : Str} (h : isName (.str z) = true) : isPl z = true ∨ isSt z = true := by
  unfold isName at h
  rw [Bool.or_eq_true] at h
  exact h
/-- a list of names, each once -/
structure Names (tl : List Str) : Prop where
  nd : tl.Nodup
  nm : ∀ z ∈ tl, isName (.str z) = true
  len : ∀ z ∈ tl, z.length ≤ 4
theorem Names.nil : Names [] := ⟨List.nodup_nil, fun _ h => (nomatch h), fun _ h => (nomatch h)⟩
theorem Names.snoc {tl : List Str} {z : Str} (h : Names tl) (h1 : isName (.str z) = true) (h2 : z.length ≤ 4) (h3 : z ∉ tl) : Names (tl ++ [z]) := by
  refine ⟨nd_snoc h.nd h3, fun y hy => ?_, fun y hy => ?_⟩
  · rcases List.mem_append.mp hy with hy | hy
    · exact h.nm y hy
    · rw [List.mem_singleton.mp hy]; exact h1
  · rcases List.mem_append.mp hy with hy | hy
    · exact h.len y hy
    · rw [List.mem_singleton.mp hy]; exact h2
end SS
namespace SS
open PySem PySem.Spec PyProof.Rows L2
end SS
namespace SS
open PySem PySem.Spec PyProof.Rows L2
end SS
namespace SS
open PySem PySem.Spec PyProof.Rows L2
end SS

set_option Elab.async false
set_option linter.all false
set_option maxRecDepth 100000
/-! what has the form of a saying; which sayings are let -/
namespace SS
open PySem PySem.Spec PyProof.Rows L2
def forms : List (Str × List Str) := [("in", ["place", "set"]), ("same", ["place", "place"]), ("within", ["set", "set"]), ("ahead", ["place", "place"]), ("next", ["place", "place"]), ("left", ["place", "place"]), ("right", ["place", "place"]), ("above", ["place", "place"]),
  ("not", ["saying"]), ("and", ["saying", "saying"]), ("or", ["saying", "saying"]), ("some", ["name", "saying"]), ("all", ["name", "saying"])]
/-- what may be looked into, so deep -/
def Exp (H : Hp) : Nat → V → Prop
  | 0, v => Thing H v
  | n + 1, v => Thing H v ∧ ∀ a xs, v = .ref a → H a = some (.tup xs) → xs.length ≤ 1000 ∧ ∀ x ∈ xs, Exp H n x
theorem Exp.thing {H : Hp} : ∀ {n : Nat} {v : V}, Exp H n v → Thing H v
  | 0, _, h => h
  | _ + 1, _, h => h.1
theorem Thing.same_tup {H H' : Hp} {a : Addr} {xs : List V} (h : Thing H (.ref a)) (g : Same H H') (e : H' a = some (.tup xs)) : H a = some (.tup xs) := by
  obtain ⟨⟨k, hk⟩, _⟩ := h
  cases hk with
  | lst z => rw [g _ _ z] at e; cases e
  | tup z => rw [g _ _ z] at e; cases e; exact z
  | dK z => rw [g _ _ z] at e; cases e
theorem Exp.same {H H' : Hp} (g : Same H H') : ∀ {n : Nat} {v : V}, Exp H n v → Exp H' n v
  | 0, _, h => Thing.same h g
  | n + 1, v, h => ⟨h.1.same g, fun a xs ev e => by
    subst ev
    obtain ⟨h1, h2⟩ := h.2 a xs rfl (h.1.same_tup g e)
    exact ⟨h1, fun x hx => (h2 x hx).same g⟩⟩
theorem Exp.mono {H : Hp} : ∀ {n : Nat} {v : V}, Exp H (n + 1) v → Exp H n v
  | 0, _, h => h.1
  | n + 1, v, h => ⟨h.1, fun a xs ev e => ⟨(h.2 a xs ev e).1, fun x hx => ((h.2 a xs ev e).2 x hx).mono⟩⟩
/-! ### sayings of the right sorts -/
def wfB : Sy → Bool
  | .bare w n m => if w = "in" then isPl n && isSt m else if w = "within" then isSt n && isSt m else isPl n && isPl m
  | .neg s => wfB s
  | .two _ s t => wfB s && wfB t
  | .qu _ n s => isName (.str n) && wfB s
def letB (barred : List Str) (most : Nat) : List Str → Sy → Bool
  | known, .bare w n m => decide (known.length ≤ most) && decide (w ∉ barred) && (decide (n ∈ known) && decide (m ∈ known))
  | known, .neg s => decide (known.length ≤ most) && decide (("not" : Str) ∉ barred) && letB barred most known s
  | known, .two w s t => decide (known.length ≤ most) && decide (w ∉ barred) && (letB barred most known s && letB barred most known t)
  | known, .qu w n s => decide (known.length ≤ most) && decide (w ∉ barred) && (decide (n ∉ known) && letB barred most (known ++ [n]) s)
end SS

set_option Elab.async false
set_option linter.all false
set_option maxRecDepth 100000
set_option maxHeartbeats 1000000
namespace SS
open PySem PySem.Spec PyProof.Rows L2
section
variable {f : V → Bool} {x y : V} {r : List V} {s1 s2 : Str}
end
end SS
namespace SS
open PySem PySem.Spec PyProof.Rows L2
/-- the written table of forms -/
structure Forms (K : PySem.W.Frag) (w : World) (fa : Addr) : Prop where
  ex : ∃ f, DctK K w fa f ∧ ∀ x, (∃ ss b, forms.lookup x = some ss ∧ f x = some (.ref b) ∧ ∀ H, SqT K H b (List.map V.str ss)) ∨ (forms.lookup x = none ∧ f x = none)
end SS
namespace SS
open PySem PySem.Spec PyProof.Rows L2
def wordOf : Sy → Str
  | .bare w _ _ => w
  | .neg _ => "not"
  | .two w _ _ => w
  | .qu w _ _ => w
end SS
namespace SS
open PySem PySem.Spec PyProof.Rows L2
end SS
namespace SS
open L2
end SS

set_option Elab.async false
set_option linter.all false
set_option maxRecDepth 100000
set_option maxHeartbeats 1000000
/-! written things: what they are as sayings -/
namespace SS
open PySem PySem.Spec PyProof.Rows L2
/-- a written thing; a tuple as the chain of its items -/
inductive Lit where
  | str (z : Str)
  | oth
  | tnil
  | tcons (x r : Lit)
  deriving DecidableEq
/-- neither a text nor a tuple -/
def Oth (H : Hp) (v : V) : Prop := ∃ k, Kd H v k ∧ k ≠ "str" ∧ k ≠ "tuple"
/-- the heap bears the thing -/
def LitAt (H : Hp) : Lit → V → Prop
  | .str z, v => v = .str z ∧ z.length ≤ 1000
  | .oth, v => Oth H v
  | .tnil, v => ∃ a, v = .ref a ∧ H a = some (.tup [])
  | .tcons x r, v => ∃ a y ys, v = .ref a ∧ H a = some (.tup (y :: ys)) ∧ ys.length ≤ 100 ∧ LitAt H x y ∧ Items H r ys
where Items (H : Hp) : Lit → List V → Prop
  | .tcons x r, ys => ∃ z zs, ys = z :: zs ∧ LitAt H x z ∧ Items H r zs
  | .tnil, ys => ys = []
  | _, _ => False
abbrev Items := LitAt.Items
end SS
namespace SS
open PySem PySem.Spec PyProof.Rows L2
theorem Oth.same {H H' : Hp} {v : V} (g : Same H H') (h : Oth H v) : Oth H' v := let ⟨k, z, r⟩ := h; ⟨k, z.same g, r⟩
mutual
theorem LitAt.same {H H' : Hp} (g : Same H H') : ∀ {l : Lit} {v : V}, LitAt H l v → LitAt H' l v
  | .str z, _, h => h
  | .oth, _, h => Oth.same g h
  | .tnil, _, ⟨a, e, h⟩ => ⟨a, e, g _ _ h⟩
  | .tcons x r, _, ⟨a, y, ys, e, h, hl, h1, h2⟩ => ⟨a, y, ys, e, g _ _ h, hl, LitAt.same g h1, Items.same g h2⟩
theorem Items.same {H H' : Hp} (g : Same H H') : ∀ {l : Lit} {ys : List V}, Items H l ys → Items H' l ys
  | .tcons x r, _, ⟨z, zs, e, h1, h2⟩ => ⟨z, zs, e, LitAt.same g h1, Items.same g h2⟩
  | .tnil, _, h => h
  | .str _, _, h => h
  | .oth, _, h => h
end
theorem LitAt.thing {H : Hp} : ∀ {l : Lit} {v : V}, LitAt H l v → Thing H v
  | .str z, _, ⟨e, h⟩ => by subst e; exact .str h
  | .oth, v, ⟨k, h, h1, _⟩ => ⟨⟨k, h⟩, fun z e => by subst e; cases h; exact absurd rfl h1⟩
  | .tnil, _, ⟨a, e, h⟩ => by subst e; exact .tup h
  | .tcons x r, _, ⟨a, y, ys, e, h, _, _, _⟩ => by subst e; exact .tup h
mutual
theorem LitAt.exp {H : Hp} : ∀ (n : Nat) {l : Lit} {v : V}, LitAt H l v → Exp H n v
  | 0, _, _, h => h.thing
  | n + 1, .str z, _, h => ⟨h.thing, fun a xs e _ => by rw [h.1] at e; cases e⟩
  | n + 1, .oth, v, h => ⟨h.thing, fun a xs e e' => by
    subst e
    obtain ⟨k, hk, _, h2⟩ := h
    exact absurd (hk.inj (.tup e')) h2⟩
  | n + 1, .tnil, _, h => ⟨h.thing, fun a xs e e' => by
    obtain ⟨a', e1, e2⟩ := h
    rw [e] at e1
    cases e1
    rw [e2] at e'
    cases e'
    exact ⟨Nat.zero_le _, fun x hx => nomatch hx⟩⟩
  | n + 1, .tcons x r, _, h => ⟨h.thing, fun a xs e e' => by
    obtain ⟨a', y, ys, e1, e2, hl, h1, h2⟩ := h
    rw [e] at e1
    cases e1
    rw [e2] at e'
    cases e'
    refine ⟨by rw [List.length_cons]; omega, fun x' hx => ?_⟩
    rcases List.mem_cons.mp hx with rfl | hx
    · exact LitAt.exp n h1
    · exact Items.exp n h2 x' hx⟩
theorem Items.exp {H : Hp} : ∀ (n : Nat) {l : Lit} {ys : List V}, Items H l ys → ∀ y ∈ ys, Exp H n y
  | n, .tcons x r, _, ⟨z, zs, e, h1, h2⟩, y, hy => by
    subst e
    rcases List.mem_cons.mp hy with rfl | hy
    · exact LitAt.exp n h1
    · exact Items.exp n h2 y hy
  | n, .tnil, _, h, y, hy => by rw [show _ = [] from h] at hy; exact nomatch hy
  | n, .str _, _, h, y, hy => False.elim h
  | n, .oth, _, h, y, hy => False.elim h
end
def toSy : Lit → Option Sy
  | .tcons (.str w) (.tcons x .tnil) => if w = "not" then (toSy x).map .neg else none
  | .tcons (.str w) (.tcons x (.tcons y .tnil)) => if w ∈ bareWords then (match x, y with
      | .str n, .str m => some (.bare w n m)
      | _, _ => none) else if w ∈ (["and", "or"] : List Str) then (match toSy x, toSy y with
      | some s, some t => some (.two w s t)
      | _, _ => none) else if w ∈ (["some", "all"] : List Str) then (match x with
      | .str n => (toSy y).map (.qu w n)
      | _ => none) else none
  | _ => none
theorem join_bare : ∀ w ∈ (["and", "or"] : List Str), w ∉ bareWords := by decide +kernel
theorem tell_bare : ∀ w ∈ (["some", "all"] : List Str), w ∉ bareWords ∧ w ∉ (["and", "or"] : List Str) := by decide +kernel
theorem LitAt.of_str {H : Hp} {l : Lit} {z : Str} (h : LitAt H l (.str z)) : l = .str z := by
  cases l with
  | str y => obtain ⟨e, _⟩ := h; cases e; rfl
  | oth => obtain ⟨k, hk, h1, _⟩ := h; cases hk; exact absurd rfl h1
  | tnil => obtain ⟨a, e, _⟩ := h; cases e
  | tcons x r => obtain ⟨a, y, ys, e, _⟩ := h; cases e
theorem LitAt.of_tup {H : Hp} {l : Lit} {a : Addr} {y : V} {ys : List V} (h : LitAt H l (.ref a)) (e : H a = some (.tup (y :: ys))) : ∃ x r, l = .tcons x r ∧ LitAt H x y ∧ Items H r ys := by
  cases l with
  | str z => obtain ⟨e', _⟩ := h; cases e'
  | oth => obtain ⟨k, hk, _, h2⟩ := h; exact absurd (hk.inj (.tup e)) h2
  | tnil => obtain ⟨a', e1, e2⟩ := h; cases e1; rw [e] at e2; cases e2
  | tcons x r =>
    obtain ⟨a', y', ys', e1, e2, _, h1, h2⟩ := h
    cases e1
    rw [e] at e2
    cases e2
    exact ⟨x, r, rfl, h1, h2⟩
theorem Items.cons {H : Hp} {l : Lit} {y : V} {ys : List V} (h : Items H l (y :: ys)) : ∃ x r, l = .tcons x r ∧ LitAt H x y ∧ Items H r ys := by
  cases l with
  | tcons x r => obtain ⟨z, zs, e, h1, h2⟩ := h; cases e; exact ⟨x, r, rfl, h1, h2⟩
  | tnil => have e : (y :: ys) = [] := h; cases e
  | str z => exact False.elim h
  | oth => exact False.elim h
theorem Items.nil' {H : Hp} {l : Lit} (h : Items H l []) : l = .tnil := by
  cases l with
  | tcons x r => obtain ⟨z, zs, e, _⟩ := h; cases e
  | tnil => rfl
  | str z => exact False.elim h
  | oth => exact False.elim h
/-- what it is as a saying -/
theorem lit_rep {H : Hp} {v : V} {s : Sy} (r : Rep H v s) : ∀ {l : Lit}, LitAt H l v → toSy l = some s := by
  induction r with
  | bare hw e =>
    intro l h
    obtain ⟨x, r, rfl, h1, h2⟩ := h.of_tup e
    obtain ⟨x2, r2, rfl, h3, h4⟩ := Items.cons h2
    obtain ⟨x3, r3, rfl, h5, h6⟩ := Items.cons h4
    rw [h1.of_str, h3.of_str, h5.of_str, Items.nil' h6]
    simp only [toSy]
    rw [if_pos hw]
  | neg e _ ih =>
    intro l h
    obtain ⟨x, r, rfl, h1, h2⟩ := h.of_tup e
    obtain ⟨x2, r2, rfl, h3, h4⟩ := Items.cons h2
    rw [h1.of_str, Items.nil' h4]
    simp only [toSy]
    rw [if_pos trivial, ih h3]
    rfl
  | two hw e _ _ ih1 ih2 =>
    intro l h
    obtain ⟨x, r, rfl, h1, h2⟩ := h.of_tup e
    obtain ⟨x2, r2, rfl, h3, h4⟩ := Items.cons h2
    obtain ⟨x3, r3, rfl, h5, h6⟩ := Items.cons h4
    rw [h1.of_str, Items.nil' h6]
    simp only [toSy]
    rw [if_neg (join_bare _ hw), if_pos hw, ih1 h3, ih2 h5]
  | qu hw e _ ih =>
    intro l h
    obtain ⟨x, r, rfl, h1, h2⟩ := h.of_tup e
    obtain ⟨x2, r2, rfl, h3, h4⟩ := Items.cons h2
    obtain ⟨x3, r3, rfl, h5, h6⟩ := Items.cons h4
    rw [h1.of_str, h3.of_str, Items.nil' h6]
    simp only [toSy]
    rw [if_neg (tell_bare _ hw).1, if_neg (tell_bare _ hw).2, if_pos hw, ih h5]
    rfl
/-- not let among these names -/
def Bad (H : Hp) (bw : List Str) (mo : Nat) (tl : List Str) (v : V) : Prop := ∀ s, Rep H v s → wfB s = true → letB bw mo tl s = false
def badL (bw : List Str) (mo : Nat) (tl : List Str) (l : Lit) : Bool := match toSy l with
  | none => true
  | some s => !wfB s || !letB bw mo tl s
theorem LitAt.bad {H : Hp} {l : Lit} {v : V} {bw : List Str} {mo : Nat} {tl : List Str} (h : LitAt H l v) (hb : badL bw mo tl l = true) : Bad H bw mo tl v := fun s r hw => by
  have e := lit_rep r h
  unfold badL at hb
  rw [e] at hb
  have hb' : (!wfB s || !letB bw mo tl s) = true := hb
  rw [hw] at hb'
  simpa using hb'
end SS

set_option Elab.async false
set_option linter.all false
set_option maxRecDepth 100000
set_option maxHeartbeats 1000000
/-! drawn sayings are let; what comes of names more or fewer, of nots round them -/
namespace SS
open PySem PySem.Spec PyProof.Rows L2
theorem nm_len {z l : Str} (h : isNm (.str z) l = true) : z.length ≤ 4 := by
  obtain ⟨c, r, e, hl, _⟩ := nm_ex h
  rw [str_len, e, List.length_cons]
  omega
theorem name_len {z : Str} (h : isName (.str z) = true) : z.length ≤ 4 := (name_cases h).elim nm_len nm_len
theorem words_short : ∀ w ∈ bareWords, w.length ≤ 1000 := by decide +kernel
theorem wf_names {w n m : Str} (h : wfB (.bare w n m) = true) : n.length ≤ 4 ∧ m.length ≤ 4 := by
  have h' : (if w = ("in" : Str) then isPl n && isSt m else if w = ("within" : Str) then isSt n && isSt m else isPl n && isPl m) = true := h
  split at h'
  · rw [Bool.and_eq_true] at h'; exact ⟨nm_len h'.1, nm_len h'.2⟩
  · split at h'
    · rw [Bool.and_eq_true] at h'; exact ⟨nm_len h'.1, nm_len h'.2⟩
    · rw [Bool.and_eq_true] at h'; exact ⟨nm_len h'.1, nm_len h'.2⟩
theorem Exp.str {H : Hp} {z : Str} (h : z.length ≤ 1000) : ∀ n, Exp H n (.str z)
  | 0 => Thing.str h
  | n + 1 => ⟨Thing.str h, fun a xs e => by cases e⟩
theorem Exp.tup {H : Hp} {a : Addr} {xs : List V} {n : Nat} (e : H a = some (.tup xs)) (hl : xs.length ≤ 1000) (h : ∀ x ∈ xs, Exp H n x) : Exp H (n + 1) (.ref a) :=
  ⟨Thing.tup e, fun a' xs' ev e' => by cases ev; rw [e] at e'; cases e'; exact ⟨hl, h⟩⟩
theorem Rep.exp {H : Hp} {v : V} {s : Sy} (r : Rep H v s) : wfB s = true → ∀ n, Exp H n v := by
  induction r with
  | bare hw e =>
    intro h n
    obtain ⟨l1, l2⟩ := wf_names h
    cases n with
    | zero => exact Thing.tup e
    | succ n =>
      refine Exp.tup e (by simp) fun x hx => ?_
      simp only [List.mem_cons, List.not_mem_nil, or_false] at hx
      rcases hx with rfl | rfl | rfl
      · exact Exp.str (words_short _ hw) n
      · exact Exp.str (by omega) n
      · exact Exp.str (by omega) n
  | neg e _ ih =>
    intro h n
    cases n with
    | zero => exact Thing.tup e
    | succ n =>
      refine Exp.tup e (by simp) fun x hx => ?_
      simp only [List.mem_cons, List.not_mem_nil, or_false] at hx
      rcases hx with rfl | rfl
      · exact Exp.str (by decide +kernel) n
      · exact ih h n
  | two hw e _ _ ih1 ih2 =>
    rename_i w _ _ s t _ _
    intro h n
    have h' : (wfB s && wfB t) = true := h
    rw [Bool.and_eq_true] at h'
    cases n with
    | zero => exact Thing.tup e
    | succ n =>
      refine Exp.tup e (by simp) fun x hx => ?_
      simp only [List.mem_cons, List.not_mem_nil, or_false] at hx
      rcases hx with rfl | rfl | rfl
      · refine Exp.str ?_ n
        have : ∀ w ∈ (["and", "or"] : List Str), w.length ≤ 1000 := by decide +kernel
        exact this w hw
      · exact ih1 h'.1 n
      · exact ih2 h'.2 n
  | qu hw e _ ih =>
    rename_i w nm _ s _
    intro h n
    have h' : (isName (.str nm) && wfB s) = true := h
    rw [Bool.and_eq_true] at h'
    cases n with
    | zero => exact Thing.tup e
    | succ n =>
      refine Exp.tup e (by simp) fun x hx => ?_
      simp only [List.mem_cons, List.not_mem_nil, or_false] at hx
      rcases hx with rfl | rfl | rfl
      · refine Exp.str ?_ n
        have : ∀ w ∈ (["some", "all"] : List Str), w.length ≤ 1000 := by decide +kernel
        exact this w hw
      · exact Exp.str (by have := name_len h'.1; omega) n
      · exact ih h'.2 n
/-! ### drawn sayings -/
/-! ### names more, names fewer -/
/-! ### nots round it -/
end SS

set_option Elab.async false
set_option linter.all false
set_option maxRecDepth 100000
/-! promises of the laws' walks over sayings -/
namespace SS
open PySem PySem.Spec PyProof.Rows L2
end SS

set_option Elab.async false
set_option linter.all false
set_option maxRecDepth 100000
set_option maxHeartbeats 1000000
/-! what is told of a thing and a frame -/
namespace SS
open PySem PySem.Spec PyProof.Rows L2
/-- short texts, few -/
structure Few (tl : List Str) : Prop where
  l : tl.length ≤ 1000
  z : ∀ z ∈ tl, z.length ≤ 1000
theorem Names.few {tl : List Str} (nm : Names tl) (hl : tl.length ≤ 4) : Few tl := ⟨by omega, fun z hz => by have := nm.len z hz; omega⟩
section
variable {H : Hp} {a : Addr} {tl bw : List Str} {mo : Nat} {v : V} {s : Sy} {b : Bool} {Q : VK} {E : XK}
end
/-! ### which sayings -/
end SS

set_option Elab.async false
set_option linter.all false
set_option maxRecDepth 100000
/-! the written table of forms, found in the text -/
namespace SS
open PySem PySem.Spec PyProof.Rows L2
section
variable {K : PySem.W.Frag} {w : World} {h : Heap} {mg : Str → Option Value}
end
end SS

set_option Elab.async false
set_option linter.all false
set_option maxRecDepth 100000
set_option maxHeartbeats 1000000
/-! the parts of a saying, and which words and names they bear -/
namespace SS
open PySem PySem.Spec PyProof.Rows L2
inductive Reps (H : Hp) : List V → List Sy → Prop
  | nil : Reps H [] []
  | cons {v : V} {s : Sy} {vs : List V} {ss : List Sy} (r : Rep H v s) (q : Reps H vs ss) : Reps H (v :: vs) (s :: ss)
theorem Reps.same {H H' : Hp} {vs : List V} {ss : List Sy} (h : Reps H vs ss) (g : Same H H') : Reps H' vs ss := by
  induction h with
  | nil => exact .nil
  | cons r _ ih => exact .cons (r.same g) ih
theorem Reps.app {H : Hp} {vs us : List V} {ss ts : List Sy} (h : Reps H vs ss) (k : Reps H us ts) : Reps H (vs ++ us) (ss ++ ts) := by
  induction h with
  | nil => exact k
  | cons r _ ih => exact .cons r ih
theorem Reps.len {H : Hp} {vs : List V} {ss : List Sy} (h : Reps H vs ss) : vs.length = ss.length := by
  induction h with
  | nil => rfl
  | cons r _ ih => rw [List.length_cons, List.length_cons, ih]
theorem Reps.mem {H : Hp} {vs : List V} {ss : List Sy} (h : Reps H vs ss) : ∀ v ∈ vs, ∃ s ∈ ss, Rep H v s := by
  induction h with
  | nil => exact fun v hv => nomatch hv
  | cons r _ ih =>
    intro v hv
    rcases List.mem_cons.mp hv with rfl | hv
    · exact ⟨_, List.mem_cons_self, r⟩
    · obtain ⟨s, m, q⟩ := ih v hv
      exact ⟨s, List.mem_cons_of_mem _ m, q⟩
/-! ### what stands in a part -/
def headV (H : Hp) : V → V
  | .ref a => match H a with
    | some (.tup (x :: _)) => x
    | _ => .non
  | _ => .non
def secV (H : Hp) : V → V
  | .ref a => match H a with
    | some (.tup (_ :: y :: _)) => y
    | _ => .non
  | _ => .non
theorem Rep.head {H : Hp} {v : V} {s : Sy} (r : Rep H v s) : ∃ a y l, v = .ref a ∧ H a = some (.tup (.str (wordOf s) :: y :: l)) ∧ headV H v = .str (wordOf s) ∧ secV H v = y := by
  cases r with
  | bare hw e => exact ⟨_, _, _, rfl, e, by simp only [headV, e]; rfl, by simp only [secV, e]⟩
  | neg e _ => exact ⟨_, _, _, rfl, e, by simp only [headV, e]; rfl, by simp only [secV, e]⟩
  | two hw e _ _ => exact ⟨_, _, _, rfl, e, by simp only [headV, e]; rfl, by simp only [secV, e]⟩
  | qu hw e _ => exact ⟨_, _, _, rfl, e, by simp only [headV, e]; rfl, by simp only [secV, e]⟩
end SS

set_option Elab.async false
set_option linter.all false
set_option maxRecDepth 100000
set_option maxHeartbeats 1000000
namespace SS
open PySem PySem.Spec PyProof.Rows L2
section
variable {H : Hp} {a : Addr} {tl bw : List Str} {mo : Nat} {v : V} {s : Sy} {b : Bool} {Q : VK} {E : XK}
end
end SS

set_option linter.all false
/-! MACHINES, the bare mathematics: no program, no heap -/
namespace SM
structure Mc where
  w : Nat
  ways : List (List Nat)
  ends : List Bool
structure Mc.Ok (m : Mc) : Prop where
  wid : m.w ≤ 4
  pos : 0 < m.ends.length
  few : m.ends.length ≤ 100
  len : m.ways.length = m.ends.length
  line : ∀ l ∈ m.ways, l.length = 2 ^ m.w
  room : ∀ l ∈ m.ways, ∀ r ∈ l, r < m.ends.length
abbrev Mc.n (m : Mc) : Nat := m.ends.length
def Mc.go (m : Mc) (r l : Nat) : Nat := (m.ways.getD r []).getD l 0
def Mc.fin (m : Mc) (r : Nat) : Bool := m.ends.getD r false
theorem Mc.Ok.at {m : Mc} (ok : m.Ok) {r l : Nat} (hr : r < m.ends.length) (hl : l < 2 ^ m.w) : ∃ line, m.ways[r]? = some line ∧ line[l]? = some (m.go r l) ∧ m.go r l < m.ends.length := by
  have h1 : r < m.ways.length := by rw [ok.len]; exact hr
  have e1 : m.ways[r]? = some m.ways[r] := List.getElem?_eq_getElem h1
  have h2 : l < m.ways[r].length := by rw [ok.line _ (List.getElem_mem h1)]; exact hl
  have e2 : m.ways[r][l]? = some m.ways[r][l] := List.getElem?_eq_getElem h2
  have eg : m.go r l = m.ways[r][l] := by
    simp only [Mc.go, List.getD_eq_getElem?_getD, e1, Option.getD_some, e2]
  exact ⟨_, e1, by rw [eg]; exact e2, by rw [eg]; exact ok.room _ (List.getElem_mem h1) _ (List.getElem_mem h2)⟩
theorem Mc.Ok.go_lt {m : Mc} (ok : m.Ok) {r l : Nat} (hr : r < m.n) (hl : l < 2 ^ m.w) : m.go r l < m.n := let ⟨_, _, _, h⟩ := ok.at hr hl; h
theorem Mc.fin_at {m : Mc} {r : Nat} (hr : r < m.ends.length) : m.ends[r]? = some (m.fin r) := by
  unfold Mc.fin
  rw [List.getD_eq_getElem?_getD, List.getElem?_eq_getElem hr, Option.getD_some]
def Mc.run (m : Mc) (r : Nat) (row : List Nat) : Nat := row.foldl m.go r
theorem Mc.run_snoc (m : Mc) (r : Nat) (row : List Nat) (l : Nat) : m.run r (row ++ [l]) = m.go (m.run r row) l := by unfold Mc.run; rw [List.foldl_append]; rfl
theorem Mc.run_cons (m : Mc) (r l : Nat) (row : List Nat) : m.run r (l :: row) = m.run (m.go r l) row := rfl
theorem Mc.Ok.run_lt {m : Mc} (ok : m.Ok) : ∀ (row : List Nat) (r : Nat), r < m.ends.length → (∀ l ∈ row, l < 2 ^ m.w) → m.run r row < m.ends.length
  | [], r, h, _ => h
  | x :: row, r, h, hl => by
    obtain ⟨_, _, _, h2⟩ := ok.at h (hl x List.mem_cons_self)
    exact run_lt ok row (m.go r x) h2 fun l z => hl l (List.mem_cons_of_mem _ z)
theorem pow_small {w : Nat} (h : w ≤ 4) : 1 ≤ 2 ^ w ∧ 2 ^ w ≤ 16 := by
  have : w = 0 ∨ w = 1 ∨ w = 2 ∨ w = 3 ∨ w = 4 := by omega
  rcases this with rfl | rfl | rfl | rfl | rfl <;> decide
/-! ### alike from two rooms on -/
def Mc.Row (m : Mc) (row : List Nat) : Prop := ∀ l ∈ row, l < 2 ^ m.w
def Par (m : Mc) (r : Nat) (m' : Mc) (r' : Nat) : Prop := ∀ row, m.Row row → m.fin (m.run r row) = m'.fin (m'.run r' row)
theorem Mc.Row.cons {m : Mc} {l : Nat} {row : List Nat} (hl : l < 2 ^ m.w) (h : m.Row row) : m.Row (l :: row) := fun x hx => by
  rcases List.mem_cons.mp hx with rfl | hx
  · exact hl
  · exact h x hx
theorem Mc.Row.nil (m : Mc) : m.Row [] := fun _ h => nomatch h
theorem Par.refl (m : Mc) (r : Nat) : Par m r m r := fun _ _ => rfl
theorem Par.go {m m' : Mc} {r r' l : Nat} (h : Par m r m' r') (hl : l < 2 ^ m.w) : Par m (m.go r l) m' (m'.go r' l) := fun row hr => h (l :: row) (hr.cons hl)
theorem Par.symm {m m' : Mc} {r r' : Nat} (h : Par m r m' r') (hw : m.w = m'.w) : Par m' r' m r := fun row hr => (h row fun l hl => by rw [hw]; exact hr l hl).symm
theorem Par.trans {m m' m'' : Mc} {r r' r'' : Nat} (h : Par m r m' r') (h' : Par m' r' m'' r'') (hw : m.w = m'.w) : Par m r m'' r'' := fun row hr => (h row hr).trans (h' row fun l hl => by rw [← hw]; exact hr l hl)
theorem Par.fin {m m' : Mc} {r r' : Nat} (h : Par m r m' r') : m.fin r = m'.fin r' := h [] (Mc.Row.nil m)
/-- a relation that is kept along the ways, and whose truths are the same -/
theorem Par.of {m m' : Mc} (R : Nat → Nat → Prop) (hf : ∀ r r', R r r' → m.fin r = m'.fin r') (hg : ∀ r r' l, R r r' → l < 2 ^ m.w → R (m.go r l) (m'.go r' l)) {r r' : Nat} (h : R r r') : Par m r m' r' := fun row => by
  induction row generalizing r r' with
  | nil => exact fun _ => hf r r' h
  | cons l row ih => exact fun hr => ih (hg r r' l h (hr l List.mem_cons_self)) fun x hx => hr x (List.mem_cons_of_mem _ hx)
/-! ### the order of coming, the one least machine -/
def Lex (r' l' r l : Nat) : Prop := r' < r ∨ (r' = r ∧ l' < l)
structure Mc.Ord (m : Mc) : Prop where
  grow : ∀ r l b, r < m.n → l < 2 ^ m.w → 0 < b → b < m.go r l → ∃ r' l', l' < 2 ^ m.w ∧ Lex r' l' r l ∧ m.go r' l' = b
  par : ∀ b, 0 < b → b < m.n → ∃ r' l', r' < b ∧ l' < 2 ^ m.w ∧ m.go r' l' = b
structure Canon (m : Mc) : Prop where
  ord : m.Ord
  dist : ∀ i j, i < m.n → j < m.n → Par m i m j → i = j
theorem Mc.ext_go {m1 m2 : Mc} (o1 : m1.Ok) (o2 : m2.Ok) (hw : m1.w = m2.w) (hn : m1.n = m2.n) (hg : ∀ r l, r < m1.n → l < 2 ^ m1.w → m1.go r l = m2.go r l) (hf : ∀ r, r < m1.n → m1.fin r = m2.fin r) : m1 = m2 := by
  have e1 : m1.ways = m2.ways := by
    refine List.ext_getElem (by rw [o1.len, o2.len]; exact hn) fun r h1 h2 => ?_
    refine List.ext_getElem (by rw [o1.line _ (List.getElem_mem h1), o2.line _ (List.getElem_mem h2), hw]) fun l h3 h4 => ?_
    have hr : r < m1.n := by rw [o1.len] at h1; exact h1
    have hl : l < 2 ^ m1.w := by rw [o1.line _ (List.getElem_mem h1)] at h3; exact h3
    have := hg r l hr hl
    unfold Mc.go at this
    simpa [List.getD_eq_getElem?_getD, List.getElem?_eq_getElem h1, List.getElem?_eq_getElem h2, List.getElem?_eq_getElem h3, List.getElem?_eq_getElem h4] using this
  have e2 : m1.ends = m2.ends := by
    refine List.ext_getElem hn fun r h1 h2 => ?_
    have := hf r h1
    unfold Mc.fin at this
    simpa [List.getD_eq_getElem?_getD, List.getElem?_eq_getElem h1, List.getElem?_eq_getElem h2] using this
  cases m1; cases m2
  simp_all
/-! ### rooms come to -/
/-- the list's item, by its place -/
def ix (xs : List Nat) (i : Nat) : Nat := xs.getD i 0
theorem ix_at {xs : List Nat} {i : Nat} (h : i < xs.length) : xs[i]? = some (ix xs i) := by
  unfold ix
  rw [List.getD_eq_getElem?_getD, List.getElem?_eq_getElem h, Option.getD_some]
theorem ix_of {xs : List Nat} {i v : Nat} (h : xs[i]? = some v) : ix xs i = v := by unfold ix; rw [List.getD_eq_getElem?_getD, h]; rfl
theorem ix_mem {xs : List Nat} {i : Nat} (h : i < xs.length) : ix xs i ∈ xs := List.mem_of_getElem? (ix_at h)
theorem ix_ex {xs : List Nat} {v : Nat} (h : v ∈ xs) : ∃ i, i < xs.length ∧ ix xs i = v := by
  obtain ⟨i, hi, e⟩ := List.getElem_of_mem h
  exact ⟨i, hi, ix_of (by rw [List.getElem?_eq_getElem hi, e])⟩
theorem ix_app {xs ys : List Nat} {i : Nat} (h : i < xs.length) : ix (xs ++ ys) i = ix xs i := by
  unfold ix; rw [List.getD_eq_getElem?_getD, List.getD_eq_getElem?_getD, List.getElem?_append_left h]
theorem ix_last (xs : List Nat) (v : Nat) : ix (xs ++ [v]) xs.length = v := by simp [ix]
theorem ix_inj {xs : List Nat} (hn : xs.Nodup) {i j : Nat} (hi : i < xs.length) (hj : j < xs.length) (e : ix xs i = ix xs j) : i = j := by
  have h1 := ix_at hi
  rw [e, ← ix_at hj] at h1
  exact (List.getElem?_inj hi hn).mp h1
/-- what stands when the ways of the places ahead of (at, l) have been gone: l letters of the place at -/
structure Come (m : Mc) (rooms : List Nat) (at' l : Nat) : Prop where
  nd : rooms.Nodup
  zero : ix rooms 0 = 0
  pos : 0 < rooms.length
  lt : ∀ r ∈ rooms, r < m.n
  disc : ∀ b, 0 < b → b < rooms.length → ∃ r' l', r' < b ∧ l' < 2 ^ m.w ∧ Lex r' l' at' l ∧ m.go (ix rooms r') l' = ix rooms b
  clos : ∀ r l', r < rooms.length → l' < 2 ^ m.w → Lex r l' at' l → ∃ t, t < rooms.length ∧ ix rooms t = m.go (ix rooms r) l' ∧
    ∀ b, 0 < b → b < t → ∃ r'' l'', l'' < 2 ^ m.w ∧ Lex r'' l'' r l' ∧ r'' < rooms.length ∧ m.go (ix rooms r'') l'' = ix rooms b
theorem Come.start {m : Mc} (h : 0 < m.n) : Come m [0] 0 0 :=
  ⟨by simp, rfl, by simp, fun r hr => by rw [List.mem_singleton.mp hr]; exact h, fun b h0 h1 => by simp at h1; omega, fun r l' _ _ lx => by rcases lx with z | ⟨_, z⟩ <;> omega⟩
theorem lex_next {r l' a l : Nat} (h : Lex r l' a (l + 1)) : Lex r l' a l ∨ (r = a ∧ l' = l) := by
  rcases h with h | ⟨h, h'⟩
  · exact .inl (.inl h)
  · by_cases e : l' = l
    · exact .inr ⟨h, e⟩
    · exact .inl (.inr ⟨h, by omega⟩)
theorem lex_up {r l' a l : Nat} (h : Lex r l' a l) : Lex r l' a (l + 1) := h.imp id fun ⟨h, h'⟩ => ⟨h, by omega⟩
/-- an old room -/
theorem Come.old {m : Mc} {rooms : List Nat} {a l : Nat} (c : Come m rooms a l) (ha : a < rooms.length) (hk : m.go (ix rooms a) l ∈ rooms) : Come m rooms a (l + 1) := by
  refine ⟨c.nd, c.zero, c.pos, c.lt, fun b h0 h1 => ?_, fun r l' hr hl' lx => ?_⟩
  · obtain ⟨r', l', h2, h3, h4, h5⟩ := c.disc b h0 h1
    exact ⟨r', l', h2, h3, lex_up h4, h5⟩
  · rcases lex_next lx with lx | ⟨rfl, rfl⟩
    · exact c.clos r l' hr hl' lx
    · obtain ⟨t, ht, et⟩ := ix_ex hk
      refine ⟨t, ht, et, fun b h0 h1 => ?_⟩
      obtain ⟨r', l'', h2, h3, h4, h5⟩ := c.disc b h0 (by omega)
      exact ⟨r', l'', h3, h4, by omega, h5⟩
/-- a new one -/
theorem Come.new {m : Mc} {rooms : List Nat} {a l : Nat} (c : Come m rooms a l) (ha : a < rooms.length) (hl : l < 2 ^ m.w) (hn : m.go (ix rooms a) l < m.n) (hk : ¬ m.go (ix rooms a) l ∈ rooms) : Come m (rooms ++ [m.go (ix rooms a) l]) a (l + 1) := by
  have len : (rooms ++ [m.go (ix rooms a) l]).length = rooms.length + 1 := by simp
  have up : ∀ {r : Nat}, r < rooms.length → ix (rooms ++ [m.go (ix rooms a) l]) r = ix rooms r := fun h => ix_app h
  refine ⟨?_, by rw [up c.pos]; exact c.zero, by omega, fun r hr => ?_, fun b h0 h1 => ?_, fun r l' hr hl' lx => ?_⟩
  · refine List.nodup_append.mpr ⟨c.nd, by simp, fun x hx y hy => ?_⟩
    rw [List.mem_singleton.mp hy]
    intro e; rw [e] at hx; exact hk hx
  · rcases List.mem_append.mp hr with h | h
    · exact c.lt r h
    · rw [List.mem_singleton.mp h]; exact hn
  · by_cases hb : b < rooms.length
    · obtain ⟨r', l', h2, h3, h4, h5⟩ := c.disc b h0 hb
      exact ⟨r', l', h2, h3, lex_up h4, by rw [up (by omega), up hb]; exact h5⟩
    · have e : b = rooms.length := by omega
      subst e
      exact ⟨a, l, ha, hl, .inr ⟨rfl, by omega⟩, by rw [up ha, ix_last]⟩
  · rcases lex_next lx with lx | ⟨rfl, rfl⟩
    · have hra : r < rooms.length := by rcases lx with z | ⟨z, _⟩ <;> omega
      obtain ⟨t, ht, et, g⟩ := c.clos r l' hra hl' lx
      refine ⟨t, by omega, by rw [up ht, up hra]; exact et, fun b h0 h1 => ?_⟩
      obtain ⟨r'', l'', h2, h3, h4, h5⟩ := g b h0 h1
      exact ⟨r'', l'', h2, h3, by omega, by rw [up h4, up (by omega)]; exact h5⟩
    · refine ⟨rooms.length, by omega, by rw [ix_last, up ha], fun b h0 h1 => ?_⟩
      obtain ⟨r', l'', h2, h3, h4, h5⟩ := c.disc b h0 h1
      exact ⟨r', l'', h3, h4, by omega, by rw [up (by omega), up h1]; exact h5⟩
theorem Come.turn {m : Mc} {rooms : List Nat} {a : Nat} (c : Come m rooms a (2 ^ m.w)) : Come m rooms (a + 1) 0 := by
  have up : ∀ {r l : Nat}, l < 2 ^ m.w → Lex r l (a + 1) 0 → Lex r l a (2 ^ m.w) := fun {r l} hl lx => by
    rcases lx with z | ⟨_, z⟩
    · by_cases e : r = a
      · exact .inr ⟨e, hl⟩
      · exact .inl (by omega)
    · omega
  refine ⟨c.nd, c.zero, c.pos, c.lt, fun b h0 h1 => ?_, fun r l' hr hl' lx => c.clos r l' hr hl' (up hl' lx)⟩
  obtain ⟨r', l', h2, h3, h4, h5⟩ := c.disc b h0 h1
  refine ⟨r', l', h2, h3, ?_, h5⟩
  rcases h4 with z | ⟨z, _⟩
  · exact .inl (by omega)
  · exact .inl (by omega)
theorem nodup_le : ∀ {xs : List Nat} {n : Nat}, xs.Nodup → (∀ x ∈ xs, x < n) → xs.length ≤ n
  | xs, 0, _, h => by cases xs with | nil => exact Nat.le_refl _ | cons x r => exact absurd (h x List.mem_cons_self) (Nat.not_lt_zero _)
  | xs, n + 1, hn, h => by
    have h1 : (xs.erase n).length ≤ n := nodup_le (hn.erase n) fun x hx => by
      have h2 := h x (List.mem_of_mem_erase hx)
      have h3 : x ≠ n := fun e => by rw [e] at hx; exact (List.Nodup.not_mem_erase hn) hx
      omega
    by_cases hm : n ∈ xs
    · have h2 := List.length_erase_of_mem hm
      have h3 := List.length_pos_of_mem hm
      omega
    · rw [List.erase_of_not_mem hm] at h1; omega
/-! ### a machine of some of the rooms -/
/-- numbers of the rooms: g gives each room's number -/
def picked (m : Mc) (rooms : List Nat) (g : Nat → Nat) : Mc := ⟨m.w, rooms.map fun r => (m.ways.getD r []).map g, rooms.map m.fin⟩
theorem picked_n (m : Mc) (rooms : List Nat) (g : Nat → Nat) : (picked m rooms g).n = rooms.length := by simp [picked, Mc.n]
theorem picked_fin (m : Mc) {rooms : List Nat} (g : Nat → Nat) {i : Nat} (h : i < rooms.length) : (picked m rooms g).fin i = m.fin (ix rooms i) := by
  unfold picked Mc.fin
  simp only [List.getD_eq_getElem?_getD, List.getElem?_map]
  rw [ix_at h]
  rfl
theorem picked_go {m : Mc} (ok : m.Ok) {rooms : List Nat} (g : Nat → Nat) {i l : Nat} (h : i < rooms.length) (hr : ix rooms i < m.n) (hl : l < 2 ^ m.w) : (picked m rooms g).go i l = g (m.go (ix rooms i) l) := by
  obtain ⟨line, e1, e2, e3⟩ := ok.at hr hl
  have e1' : m.ways.getD (ix rooms i) [] = line := by rw [List.getD_eq_getElem?_getD, e1]; rfl
  unfold picked
  rw [Mc.go]
  simp only [List.getD_eq_getElem?_getD, List.getElem?_map]
  rw [ix_at h]
  simp only [Option.map_some, Option.getD_some]
  rw [e1]
  simp only [Option.getD_some, List.getElem?_map]
  rw [e2]
  rfl
theorem picked_ok {m : Mc} (ok : m.Ok) {rooms : List Nat} {g : Nat → Nat} (h0 : 0 < rooms.length) (hf : rooms.length ≤ 100) (hr : ∀ r ∈ rooms, r < m.n) (hg : ∀ r l, r ∈ rooms → l < 2 ^ m.w → g (m.go r l) < rooms.length) : (picked m rooms g).Ok := by
  refine ⟨ok.wid, by simpa [picked] using h0, by simpa [picked] using hf, by simp [picked], fun line hl => ?_, fun line hl x hx => ?_⟩
  · obtain ⟨r, mr, rfl⟩ := List.mem_map.mp hl
    have h1 : r < m.ways.length := by rw [ok.len]; exact hr r mr
    rw [List.length_map, List.getD_eq_getElem?_getD, List.getElem?_eq_getElem h1, Option.getD_some]
    exact ok.line _ (List.getElem_mem h1)
  · obtain ⟨r, mr, rfl⟩ := List.mem_map.mp hl
    obtain ⟨y, my, rfl⟩ := List.mem_map.mp hx
    have h1 : r < m.ways.length := by rw [ok.len]; exact hr r mr
    rw [List.getD_eq_getElem?_getD, List.getElem?_eq_getElem h1, Option.getD_some] at my
    obtain ⟨l, h2, e2⟩ := List.getElem_of_mem my
    rw [ok.line _ (List.getElem_mem h1)] at h2
    have h3 := hg r l mr h2
    obtain ⟨line, e3, e4, _⟩ := ok.at (hr r mr) h2
    rw [List.getElem?_eq_getElem h1] at e3
    cases e3
    rw [List.getElem?_eq_getElem (by rw [ok.line _ (List.getElem_mem h1)]; exact h2), e2] at e4
    cases e4
    simpa [picked] using h3
/-! ### sorts -/
/-- numbered as they first come -/
structure Srt (ns : List Nat) : Prop where
  grow : ∀ i, i < ns.length → ∀ b, b < ix ns i → ∃ j, j < i ∧ ix ns j = b
theorem Srt.le {ns : List Nat} (h : Srt ns) (i : Nat) (hi : i < ns.length) : ix ns i ≤ i := by
  induction i using Nat.strongRecOn with
  | _ i ih =>
    by_cases h0 : ix ns i = 0
    · omega
    · obtain ⟨j, hj, e⟩ := h.grow i hi (ix ns i - 1) (by omega)
      have := ih j hj (by omega)
      omega
/-- a finer one is not below -/
theorem srt_le {s f : List Nat} (hs : Srt s) (hf : Srt f) (hl : s.length = f.length) (ref : ∀ i j, i < s.length → j < s.length → ix f i = ix f j → ix s i = ix s j) : ∀ v i, i < s.length → ix s i = v → v ≤ ix f i
  | 0, _, _, _ => Nat.zero_le _
  | v + 1, i, hi, e => by
    have ih := srt_le hs hf hl ref v
    refine Nat.le_of_not_lt fun hlt => ?_
    have no : ∀ j, j < i → ix s j = v → False := fun j => by
      induction j using Nat.strongRecOn with
      | _ j ij =>
        intro hj ej
        have h1 := ih j (by omega) ej
        have h2 : ix f j ≠ ix f i := fun z => by have := ref j i (by omega) hi z; omega
        obtain ⟨k, hk, ek⟩ := hf.grow j (by omega) (ix f i) (by omega)
        have h3 := ref k i (by omega) hi ek
        obtain ⟨j', hj', ej'⟩ := hs.grow k (by omega) v (by omega)
        exact ij j' (by omega) (by omega) ej'
    obtain ⟨j, hj, ej⟩ := hs.grow i hi v (by omega)
    exact no j hj ej
theorem sum_le : ∀ {s f : List Nat}, s.length = f.length → (∀ i, i < s.length → ix s i ≤ ix f i) → s.sum ≤ f.sum ∧ (s.sum = f.sum → s = f)
  | [], [], _, _ => ⟨Nat.le_refl _, fun _ => rfl⟩
  | [], _ :: _, h, _ => by simp at h
  | _ :: _, [], h, _ => by simp at h
  | x :: s, y :: f, h, g => by
    have h1 := g 0 (by simp)
    have h2 : x ≤ y := h1
    obtain ⟨h3, h4⟩ := sum_le (s := s) (f := f) (by simpa using h) fun i hi => by
      have := g (i + 1) (by simpa using hi)
      simpa [ix] using this
    refine ⟨by simp only [List.sum_cons]; omega, fun e => ?_⟩
    simp only [List.sum_cons] at e
    rw [show x = y by omega, h4 (by omega)]
theorem sum_bound : ∀ {s : List Nat} {n : Nat}, (∀ x ∈ s, x ≤ n) → s.sum ≤ s.length * n
  | [], n, _ => by simp
  | x :: s, n, h => by
    have h1 := h x List.mem_cons_self
    have h2 := sum_bound (s := s) (n := n) fun y hy => h y (List.mem_cons_of_mem _ hy)
    simp only [List.sum_cons, List.length_cons, Nat.succ_mul]
    omega
/-- the sorts of a machine on the way: those of one sort have one truth, those of two are parted -/
structure Sorts (m : Mc) (ns : List Nat) : Prop where
  srt : Srt ns
  len : ns.length = m.n
  fin : ∀ i j, i < m.n → j < m.n → ix ns i = ix ns j → m.fin i = m.fin j
  sep : ∀ i j, i < m.n → j < m.n → Par m i m j → ix ns i = ix ns j
def Stable (m : Mc) (ns : List Nat) : Prop := ∀ i j l, i < m.n → j < m.n → l < 2 ^ m.w → ix ns i = ix ns j → ix ns (m.go i l) = ix ns (m.go j l)
/-- the first room of each sort -/
structure Firsts (ns fs : List Nat) : Prop where
  lt : ∀ s, s < fs.length → ix fs s < ns.length
  is : ∀ s, s < fs.length → ix ns (ix fs s) = s
  le : ∀ s j, s < fs.length → j < ns.length → ix ns j = s → ix fs s ≤ j
  all : ∀ i, i < ns.length → ix ns i < fs.length
theorem quotient {m : Mc} (ok : m.Ok) (ord : m.Ord) {ns fs : List Nat} (S : Sorts m ns) (st : Stable m ns) (F : Firsts ns fs) :
    (picked m fs (ix ns)).Ok ∧ Canon (picked m fs (ix ns)) ∧ Par m 0 (picked m fs (ix ns)) 0 ∧ fs.length ≤ m.n := by
  have hlt : ∀ {s : Nat}, s < fs.length → ix fs s < m.n := fun h => by rw [← S.len]; exact F.lt _ h
  have h0 : 0 < fs.length := by have := F.all 0 (by rw [S.len]; exact ok.pos); omega
  have all : ∀ {i : Nat}, i < m.n → ix ns i < fs.length := fun h => F.all _ (by rw [S.len]; exact h)
  have mono : ∀ {a b : Nat}, a < fs.length → b < fs.length → a < b → ix fs a < ix fs b := fun {a b} ha hb hab => by
    have e := F.is b hb
    obtain ⟨j, hj, ej⟩ := S.srt.grow (ix fs b) (F.lt b hb) a (by omega)
    have := F.le a j ha (by have := F.lt b hb; omega) ej
    omega
  have mono' : ∀ {a b : Nat}, a < fs.length → b < fs.length → ix fs a < ix fs b → a < b := fun {a b} ha hb h => by
    rcases Nat.lt_trichotomy a b with z | z | z
    · exact z
    · subst z; omega
    · have := mono hb ha z; omega
  have hle : fs.length ≤ m.n := by
    have h1 := F.is (fs.length - 1) (by omega)
    have h2 := hlt (s := fs.length - 1) (by omega)
    have h3 := S.srt.le _ (by rw [S.len]; exact h2)
    omega
  have pgo : ∀ {s l : Nat}, s < fs.length → l < 2 ^ m.w → (picked m fs (ix ns)).go s l = ix ns (m.go (ix fs s) l) := fun hs hl => picked_go ok _ hs (hlt hs) hl
  -- of any room, through its sort
  have thr : ∀ {i l : Nat}, i < m.n → l < 2 ^ m.w → (picked m fs (ix ns)).go (ix ns i) l = ix ns (m.go i l) := fun {i l} hi hl => by
    rw [pgo (all hi) hl]
    exact st _ _ l (hlt (all hi)) hi hl (F.is _ (all hi))
  have hok : (picked m fs (ix ns)).Ok := picked_ok ok h0 (by have : m.n ≤ 100 := ok.few; omega) (fun r mr => by obtain ⟨s, hs, rfl⟩ := ix_ex mr; exact hlt hs) fun r l mr hl => by
    obtain ⟨s, hs, rfl⟩ := ix_ex mr
    exact all (ok.go_lt (hlt hs) hl)
  have par : ∀ {i : Nat}, i < m.n → Par m i (picked m fs (ix ns)) (ix ns i) := fun {i} hi => by
    refine Par.of (fun r s => r < m.n ∧ s = ix ns r) (fun r s ⟨hr, e⟩ => ?_) (fun r s l ⟨hr, e⟩ hl => ?_) ⟨hi, rfl⟩
    · rw [e, picked_fin m _ (all hr)]
      exact S.fin _ _ hr (hlt (all hr)) (F.is _ (all hr)).symm
    · exact ⟨ok.go_lt hr hl, by rw [e, thr hr hl]⟩
  refine ⟨hok, ⟨⟨fun s l b hs hl hb hlt' => ?_, fun b hb hbn => ?_⟩, fun i j hi hj p => ?_⟩, ?_, hle⟩
  · rw [picked_n] at hs
    rw [pgo hs hl] at hlt'
    have ht := ok.go_lt (hlt hs) hl
    have ha := all ht
    have hbl : b < fs.length := by omega
    have h1 : ix fs b < m.go (ix fs s) l := by
      have h2 := mono hbl ha hlt'
      have h3 := F.le _ _ ha (by rw [S.len]; exact ht) rfl
      omega
    have h0' : 0 < ix fs b := by
      have := F.is b hbl
      by_cases z : ix fs b = 0
      · have h5 := S.srt.le 0 (by rw [S.len]; exact ok.pos)
        rw [z] at this; omega
      · omega
    obtain ⟨r', l', hl', lx, e⟩ := ord.grow (ix fs s) l (ix fs b) (hlt hs) hl h0' h1
    have hr' : r' < m.n := by have := hlt hs; rcases lx with z | ⟨z, _⟩ <;> omega
    refine ⟨ix ns r', l', hl', ?_, by rw [thr hr' hl', e]; exact F.is b hbl⟩
    rcases lx with z | ⟨z, z'⟩
    · refine .inl (mono' (all hr') hs ?_)
      have := F.le _ r' (all hr') (by rw [S.len]; exact hr') rfl
      omega
    · exact .inr ⟨by rw [z]; exact F.is s hs, z'⟩
  · rw [picked_n] at hbn
    have h0' : 0 < ix fs b := by
      have := F.is b hbn
      by_cases z : ix fs b = 0
      · have h5 := S.srt.le 0 (by rw [S.len]; exact ok.pos)
        rw [z] at this; omega
      · omega
    obtain ⟨r', l', hr', hl', e⟩ := ord.par (ix fs b) h0' (hlt hbn)
    have hrn : r' < m.n := by have := hlt hbn; omega
    refine ⟨ix ns r', l', mono' (all hrn) hbn ?_, hl', by rw [thr hrn hl', e]; exact F.is b hbn⟩
    have := F.le _ r' (all hrn) (by rw [S.len]; exact hrn) rfl
    omega
  · rw [picked_n] at hi hj
    have p1 := par (hlt hi)
    have p2 := par (hlt hj)
    rw [F.is i hi] at p1
    rw [F.is j hj] at p2
    have q : Par m (ix fs i) m (ix fs j) := (p1.trans p rfl).trans (p2.symm rfl) rfl
    have z := S.sep _ _ (hlt hi) (hlt hj) q
    rw [F.is i hi, F.is j hj] at z
    exact z
  · have p := par ok.pos
    have e : ix ns 0 = 0 := by have := S.srt.le 0 (by rw [S.len]; exact ok.pos); omega
    rw [e] at p
    exact p
/-! ### numbers of marks -/
structure Num {α : Type} (marks : List α) (ns : List Nat) : Prop where
  len : ns.length = marks.length
  eq : ∀ i j a b, marks[i]? = some a → marks[j]? = some b → (ix ns i = ix ns j ↔ a = b)
  srt : Srt ns
end SM
namespace SM
/-! ### each mark once, as they first come -/
section
variable {α : Type} [DecidableEq α]
def news : List α → List α → List α
  | acc, [] => acc
  | acc, x :: r => news (if x ∈ acc then acc else acc ++ [x]) r
theorem news_snoc : ∀ (xs acc : List α) (x : α), news acc (xs ++ [x]) = if x ∈ news acc xs then news acc xs else news acc xs ++ [x]
  | [], acc, x => rfl
  | y :: r, acc, x => news_snoc r _ x
theorem news_mem : ∀ (xs acc : List α) (x : α), x ∈ news acc xs ↔ x ∈ acc ∨ x ∈ xs
  | [], acc, x => by simp [news]
  | y :: r, acc, x => by
    unfold news
    rw [news_mem r _ x]
    by_cases h : y ∈ acc
    · rw [if_pos h]
      simp only [List.mem_cons]
      refine ⟨fun z => z.imp id .inr, fun z => z.elim .inl fun z => z.elim (fun e => .inl (e ▸ h)) .inr⟩
    · rw [if_neg h]
      simp only [List.mem_append, List.mem_cons, List.not_mem_nil, or_false]
      exact or_assoc
theorem news_nd : ∀ (xs acc : List α), acc.Nodup → (news acc xs).Nodup
  | [], acc, h => h
  | y :: r, acc, h => by
    unfold news
    refine news_nd r _ ?_
    by_cases hy : y ∈ acc
    · rw [if_pos hy]; exact h
    · rw [if_neg hy]
      refine List.nodup_append.mpr ⟨h, by simp, fun a ha b hb => ?_⟩
      rw [List.mem_singleton.mp hb]
      intro e; exact hy (e ▸ ha)
theorem news_len : ∀ (xs acc : List α), (news acc xs).length ≤ acc.length + xs.length
  | [], acc => by simp [news]
  | y :: r, acc => by
    unfold news
    have := news_len r (if y ∈ acc then acc else acc ++ [y])
    by_cases hy : y ∈ acc
    · rw [if_pos hy] at this ⊢; simp only [List.length_cons]; omega
    · rw [if_neg hy] at this ⊢; simp only [List.length_append, List.length_cons, List.length_nil] at this ⊢; omega
theorem news_pre : ∀ (xs acc : List α), ∃ t, news acc xs = acc ++ t
  | [], acc => ⟨[], by simp [news]⟩
  | y :: r, acc => by
    unfold news
    obtain ⟨t, e⟩ := news_pre r (if y ∈ acc then acc else acc ++ [y])
    by_cases hy : y ∈ acc
    · rw [if_pos hy] at e ⊢; exact ⟨t, e⟩
    · rw [if_neg hy] at e ⊢; exact ⟨[y] ++ t, by rw [e, List.append_assoc]⟩
theorem news_app : ∀ (xs ys acc : List α), news acc (xs ++ ys) = news (news acc xs) ys
  | [], ys, acc => rfl
  | x :: r, ys, acc => news_app r ys _
/-- a mark's number -/
def nOf (ds : List α) (x : α) : Nat := ds.idxOf x
def nxt (ds : List α) (x : α) : List α := if x ∈ ds then ds else ds ++ [x]
theorem nxt_in {ds : List α} {x : α} (h : x ∈ ds) : nxt ds x = ds := if_pos h
theorem nxt_out {ds : List α} {x : α} (h : ¬ x ∈ ds) : nxt ds x = ds ++ [x] := if_neg h
theorem news_nxt (xs : List α) (x : α) : news [] (xs ++ [x]) = nxt (news [] xs) x := news_snoc xs [] x
theorem news_take {xs : List α} {i : Nat} {x : α} (h : xs[i]? = some x) : news [] (xs.take (i + 1)) = nxt (news [] (xs.take i)) x := by rw [List.take_add_one, h, Option.toList_some, news_nxt]
theorem idx_app {xs ys : List α} {x : α} (h : x ∈ xs) : (xs ++ ys).idxOf x = xs.idxOf x := by rw [List.idxOf_append, if_pos h]
theorem num_of (marks : List α) : Num marks (marks.map (nOf (news [] marks))) := by
  show Num marks (marks.map fun x => (news [] marks).idxOf x)
  have at' : ∀ {i : Nat} {a : α}, marks[i]? = some a → ix (marks.map fun x => (news [] marks).idxOf x) i = (news [] marks).idxOf a := fun h => ix_of (by rw [List.getElem?_map, h]; rfl)
  have mem : ∀ {a : α}, a ∈ marks → a ∈ news [] marks := fun h => (news_mem marks [] _).mpr (.inr h)
  refine ⟨List.length_map _, fun i j a b ha hb => ?_, ⟨fun i hi b hb => ?_⟩⟩
  · rw [at' ha, at' hb]
    refine ⟨fun e => ?_, fun e => by rw [e]⟩
    have h1 := List.idxOf_lt_length_iff.mpr (mem (List.mem_of_getElem? ha))
    have h2 := List.idxOf_lt_length_iff.mpr (mem (List.mem_of_getElem? hb))
    have e1 := List.getElem_idxOf h1
    have e2 := List.getElem_idxOf h2
    rw [← e1, ← e2]
    congr 1
  · rw [List.length_map] at hi
    have hx : marks[i]? = some marks[i] := List.getElem?_eq_getElem hi
    rw [at' hx] at hb
    -- all marks, parted at i
    have em : marks = marks.take i ++ marks[i] :: marks.drop (i + 1) := by rw [← List.drop_eq_getElem_cons hi, List.take_append_drop]
    have en : news [] marks = news (if marks[i] ∈ news [] (marks.take i) then news [] (marks.take i) else news [] (marks.take i) ++ [marks[i]]) (marks.drop (i + 1)) := by
      conv => lhs; rw [em]
      rw [news_app]; rfl
    obtain ⟨t, et⟩ := news_pre (marks.drop (i + 1)) (if marks[i] ∈ news [] (marks.take i) then news [] (marks.take i) else news [] (marks.take i) ++ [marks[i]])
    rw [← en] at et
    have hbl : b < (news [] (marks.take i)).length := by
      by_cases c : marks[i] ∈ news [] (marks.take i)
      · rw [if_pos c] at et
        rw [et, idx_app c] at hb
        have := List.idxOf_lt_length_iff.mpr c
        omega
      · rw [if_neg c] at et
        rw [et, idx_app (by simp), List.idxOf_append, if_neg c] at hb
        simp at hb
        omega
    have hpre : ∃ t', news [] marks = news [] (marks.take i) ++ t' := by
      by_cases c : marks[i] ∈ news [] (marks.take i)
      · rw [if_pos c] at et; exact ⟨t, et⟩
      · rw [if_neg c] at et; exact ⟨[marks[i]] ++ t, by rw [et, List.append_assoc]⟩
    obtain ⟨t', et'⟩ := hpre
    have hm : (news [] (marks.take i))[b] ∈ marks.take i := by
      rcases (news_mem (marks.take i) [] _).mp (List.getElem_mem hbl) with h | h
      · exact nomatch h
      · exact h
    obtain ⟨j, hj, ej⟩ := List.getElem_of_mem hm
    rw [List.length_take] at hj
    rw [List.getElem_take] at ej
    refine ⟨j, by omega, ?_⟩
    have hj' : marks[j]? = some (news [] (marks.take i))[b] := by rw [List.getElem?_eq_getElem (by omega), ej]
    rw [at' hj', et', idx_app (List.getElem_mem hbl)]
    exact List.Nodup.idxOf_getElem (news_nd _ _ List.nodup_nil) b hbl
end
end SM
namespace SM
theorem idx_le : ∀ (ns : List Nat) (s j : Nat), ns[j]? = some s → ns.idxOf s ≤ j
  | [], _, _, h => by simp at h
  | x :: ns, s, 0, h => by
    simp only [List.getElem?_cons_zero, Option.some.injEq] at h
    subst h
    simp
  | x :: ns, s, j + 1, h => by
    simp only [List.getElem?_cons_succ] at h
    have ih := idx_le ns s j h
    rw [List.idxOf_cons]
    cases hx : x == s with
    | true => simp
    | false => simp; omega
theorem idx_is {ns : List Nat} {s : Nat} (h : s ∈ ns) : ns.idxOf s < ns.length ∧ ix ns (ns.idxOf s) = s := by
  have h1 := List.idxOf_lt_length_iff.mpr h
  exact ⟨h1, ix_of (by rw [List.getElem?_eq_getElem h1, List.getElem_idxOf h1])⟩
theorem firsts_of {ns : List Nat} {M : Nat} (S : Srt ns) (hM : M ∈ ns) (hle : ∀ a ∈ ns, a ≤ M) : Firsts ns ((List.range (M + 1)).map fun s => ns.idxOf s) ∧ ∀ s, s ≤ M → s ∈ ns := by
  have mem : ∀ s, s ≤ M → s ∈ ns := fun s hs => by
    by_cases e : s = M
    · rw [e]; exact hM
    · obtain ⟨i, hi, ei⟩ := ix_ex hM
      obtain ⟨j, hj, ej⟩ := S.grow i hi s (by omega)
      rw [← ej]
      exact ix_mem (by omega)
  have at' : ∀ {s : Nat}, s < M + 1 → ix ((List.range (M + 1)).map fun s => ns.idxOf s) s = ns.idxOf s := fun {s} h => ix_of (by rw [List.getElem?_map, List.getElem?_range h]; rfl)
  have len : ((List.range (M + 1)).map fun s => ns.idxOf s).length = M + 1 := by simp
  refine ⟨⟨fun s hs => ?_, fun s hs => ?_, fun s j hs hj e => ?_, fun i hi => ?_⟩, mem⟩
  · rw [len] at hs; rw [at' hs]; exact (idx_is (mem s (by omega))).1
  · rw [len] at hs; rw [at' hs]; exact (idx_is (mem s (by omega))).2
  · rw [len] at hs; rw [at' hs]
    exact idx_le ns s j (by rw [ix_at hj, e])
  · rw [len]
    have := hle _ (ix_mem hi)
    omega
/-- what a machine that is least keeps to -/
structure Red (m m' : Mc) : Prop where
  ok : m'.Ok
  w : m'.w = m.w
  canon : Canon m'
  par : Par m 0 m' 0
  le : m'.n ≤ m.n
end SM
namespace SM
/-! ### pairs of rooms come to together, each as a list of two -/
structure PCome (m1 m2 : Mc) (ls : List (List Nat)) (at' l : Nat) : Prop where
  zero : ls[0]? = some [0, 0]
  nd : ls.Nodup
  sound : ∀ x ∈ ls, ∃ row, m1.Row row ∧ x = [m1.run 0 row, m2.run 0 row]
  clos : ∀ i l' a b, Lex i l' at' l → l' < 2 ^ m1.w → ls[i]? = some [a, b] → [m1.go a l', m2.go b l'] ∈ ls
theorem PCome.start (m1 m2 : Mc) : PCome m1 m2 [[0, 0]] 0 0 :=
  ⟨rfl, by simp, fun x hx => by rw [List.mem_singleton.mp hx]; exact ⟨[], Mc.Row.nil _, rfl⟩, fun i l' a b lx => by rcases lx with z | ⟨_, z⟩ <;> omega⟩
theorem PCome.old {m1 m2 : Mc} {ls : List (List Nat)} {at' l a b : Nat} (c : PCome m1 m2 ls at' l) (ha : ls[at']? = some [a, b]) (hk : [m1.go a l, m2.go b l] ∈ ls) : PCome m1 m2 ls at' (l + 1) :=
  ⟨c.zero, c.nd, c.sound, fun i l' x y lx hl e => by
    rcases lex_next lx with lx | ⟨rfl, rfl⟩
    · exact c.clos i l' x y lx hl e
    · rw [ha] at e; cases e; exact hk⟩
theorem run_more {m : Mc} {r l : Nat} {row : List Nat} : m.run r (row ++ [l]) = m.go (m.run r row) l := Mc.run_snoc m r row l
theorem PCome.new {m1 m2 : Mc} {ls : List (List Nat)} {at' l a b : Nat} (c : PCome m1 m2 ls at' l) (hl : l < 2 ^ m1.w) (ha : ls[at']? = some [a, b]) (hk : ¬ [m1.go a l, m2.go b l] ∈ ls) : PCome m1 m2 (ls ++ [[m1.go a l, m2.go b l]]) at' (l + 1) := by
  have up : ∀ {i : Nat} {x : List Nat}, ls[i]? = some x → (ls ++ [[m1.go a l, m2.go b l]])[i]? = some x := fun {i x} h => by
    rw [List.getElem?_append_left (List.getElem?_eq_some_iff.mp h).1]; exact h
  have low : ∀ {i : Nat} {x : List Nat}, i ≤ at' → (ls ++ [[m1.go a l, m2.go b l]])[i]? = some x → ls[i]? = some x := fun {i x} hi h => by
    have := (List.getElem?_eq_some_iff.mp ha).1
    rw [List.getElem?_append_left (by omega)] at h; exact h
  refine ⟨up c.zero, ?_, fun x hx => ?_, fun i l' x y lx hl' e => ?_⟩
  · refine List.nodup_append.mpr ⟨c.nd, by simp, fun x hx y hy => ?_⟩
    rw [List.mem_singleton.mp hy]
    intro e; rw [e] at hx; exact hk hx
  · rcases List.mem_append.mp hx with h | h
    · exact c.sound x h
    · rw [List.mem_singleton.mp h]
      obtain ⟨row, h1, h2⟩ := c.sound _ (List.mem_of_getElem? ha)
      rw [List.cons.injEq, List.cons.injEq] at h2
      refine ⟨row ++ [l], fun z hz => ?_, by rw [run_more, run_more, ← h2.1, ← h2.2.1]⟩
      rcases List.mem_append.mp hz with h | h
      · exact h1 z h
      · rw [List.mem_singleton.mp h]; exact hl
  · rcases lex_next lx with lx | ⟨rfl, rfl⟩
    · have hi : i ≤ at' := by rcases lx with z | ⟨z, _⟩ <;> omega
      exact List.mem_append_left _ (c.clos i l' x y lx hl' (low hi e))
    · have := low (Nat.le_refl _) e
      rw [ha] at this
      cases this
      exact List.mem_append_right _ (List.mem_singleton.mpr rfl)
theorem PCome.turn {m1 m2 : Mc} {ls : List (List Nat)} {at' : Nat} (c : PCome m1 m2 ls at' (2 ^ m1.w)) : PCome m1 m2 ls (at' + 1) 0 :=
  ⟨c.zero, c.nd, c.sound, fun i l' x y lx hl e => c.clos i l' x y (by
    rcases lx with z | ⟨_, z⟩
    · by_cases h : i = at'
      · exact .inr ⟨h, hl⟩
      · exact .inl (by omega)
    · omega) hl e⟩
theorem PCome.at_lt {m1 m2 : Mc} (o1 : m1.Ok) (o2 : m2.Ok) (hw : m1.w = m2.w) {ls : List (List Nat)} {at' l : Nat} (c : PCome m1 m2 ls at' l) {x : List Nat} (h : x ∈ ls) : ∃ a b, x = [a, b] ∧ a < m1.n ∧ b < m2.n := by
  obtain ⟨row, h1, rfl⟩ := c.sound x h
  exact ⟨_, _, rfl, o1.run_lt row 0 o1.pos h1, o2.run_lt row 0 o2.pos fun z hz => by rw [← hw]; exact h1 z hz⟩
theorem PCome.len {m1 m2 : Mc} (o1 : m1.Ok) (o2 : m2.Ok) (hw : m1.w = m2.w) {ls : List (List Nat)} {at' l : Nat} (c : PCome m1 m2 ls at' l) : ls.length ≤ m1.n * m2.n := by
  have h : (ls.map fun x => x.getD 0 0 * m2.n + x.getD 1 0).length ≤ m1.n * m2.n := by
    refine nodup_le ?_ fun y hy => ?_
    · have inj : ∀ x ∈ ls, ∀ y ∈ ls, x.getD 0 0 * m2.n + x.getD 1 0 = y.getD 0 0 * m2.n + y.getD 1 0 → x = y := fun x hx y hy e => by
        obtain ⟨a, b, rfl, ha, hb⟩ := c.at_lt o1 o2 hw hx
        obtain ⟨a', b', rfl, ha', hb'⟩ := c.at_lt o1 o2 hw hy
        simp only [List.getD_cons_zero, List.getD_cons_succ] at e
        have e1 : a = a' := by
          have h1 := congrArg (· / m2.n) e
          simp only [Nat.mul_comm _ m2.n] at h1
          rw [Nat.mul_add_div (by omega), Nat.mul_add_div (by omega), Nat.div_eq_of_lt hb, Nat.div_eq_of_lt hb'] at h1
          omega
        subst e1
        rw [show b = b' by omega]
      have : ∀ (l : List (List Nat)), (∀ x ∈ l, x ∈ ls) → l.Nodup → (l.map fun x => x.getD 0 0 * m2.n + x.getD 1 0).Nodup := fun l => by
        induction l with
        | nil => intro _ _; exact List.nodup_nil
        | cons x l ih =>
          intro hl hn
          rw [List.nodup_cons] at hn
          rw [List.map_cons, List.nodup_cons]
          refine ⟨fun z => ?_, ih (fun y hy => hl y (List.mem_cons_of_mem _ hy)) hn.2⟩
          obtain ⟨y, my, e⟩ := List.mem_map.mp z
          have := inj y (hl y (List.mem_cons_of_mem _ my)) x (hl x List.mem_cons_self) e
          rw [this] at my
          exact hn.1 my
      exact this ls (fun _ h => h) c.nd
    · obtain ⟨x, mx, rfl⟩ := List.mem_map.mp hy
      obtain ⟨a, b, rfl, ha, hb⟩ := c.at_lt o1 o2 hw mx
      simp only [List.getD_cons_zero, List.getD_cons_succ]
      have : (a + 1) * m2.n ≤ m1.n * m2.n := Nat.mul_le_mul_right _ ha
      rw [Nat.succ_mul] at this
      omega
  rw [List.length_map] at h
  exact h
end SM
namespace SM
/-! ### rooms numbered anew -/
/-- each number below n once, 0 first -/
structure Places (ps : List Nat) (n : Nat) : Prop where
  len : ps.length = n
  nd : ps.Nodup
  lt : ∀ x ∈ ps, x < n
  zero : ix ps 0 = 0
theorem nodup_all : ∀ {n : Nat} {xs : List Nat}, xs.Nodup → (∀ x ∈ xs, x < n) → xs.length = n → ∀ y, y < n → y ∈ xs
  | n, xs, hn, hl, he, y, hy => by
    by_cases h : y ∈ xs
    · exact h
    · have h1 := nodup_le (xs := xs ++ [y]) (n := n) (List.nodup_append.mpr ⟨hn, by simp, fun a ha b hb => by rw [List.mem_singleton.mp hb]; intro e; exact h (e ▸ ha)⟩) fun x hx => by
        rcases List.mem_append.mp hx with z | z
        · exact hl x z
        · rw [List.mem_singleton.mp z]; exact hy
      rw [List.length_append, List.length_singleton] at h1
      omega
theorem Places.ex {ps : List Nat} {n : Nat} (h : Places ps n) {y : Nat} (hy : y < n) : ∃ t, t < n ∧ ix ps t = y := by
  obtain ⟨t, ht, e⟩ := ix_ex (nodup_all h.nd h.lt h.len y hy)
  exact ⟨t, by rw [← h.len]; exact ht, e⟩
theorem Places.inj {ps : List Nat} {n : Nat} (h : Places ps n) {s t : Nat} (hs : s < n) (ht : t < n) (e : ix ps s = ix ps t) : s = t := ix_inj h.nd (by rw [h.len]; exact hs) (by rw [h.len]; exact ht) e
theorem Places.at_lt {ps : List Nat} {n : Nat} (h : Places ps n) {t : Nat} (ht : t < n) : ix ps t < n := h.lt _ (ix_mem (by rw [h.len]; exact ht))
/-- one of the numbers left is taken -/
theorem nodup_move {ps l1 l2 : List Nat} {x : Nat} (h : (ps ++ (l1 ++ x :: l2)).Nodup) : ((ps ++ [x]) ++ (l1 ++ l2)).Nodup := by
  have p : (ps ++ (l1 ++ x :: l2)).Perm ((ps ++ [x]) ++ (l1 ++ l2)) := by
    rw [List.append_assoc ps [x]]
    exact List.Perm.append_left ps List.perm_middle
  exact (List.Perm.nodup_iff p).mp h
/-- all truths turned -/
def turned (m : Mc) : Mc := ⟨m.w, m.ways, m.ends.map fun b => !b⟩
end SM
namespace SM
/-- a line of the other machine's room that is called ix ps t -/
structure OLine (m : Mc) (ps : List Nat) (N t : Nat) (ln : List Nat) : Prop where
  len : ln.length = 2 ^ m.w
  lt : ∀ r ∈ ln, r < N
  go : t < 2 * m.n → ∀ l, l < 2 ^ m.w → ∃ c, c < 2 ∧ ln[l]? = some (ix ps (2 * m.go (t / 2) l + c))
end SM

set_option Elab.async false
set_option linter.all false
set_option maxRecDepth 100000
/-! MACHINES: the mirror -/
namespace SM
open PySem PySem.Spec PyProof.Rows L2 SS
abbrev nV (n : Nat) : V := .int (n : Int)
/-! ### how the heap bears one -/
def Line (H : Hp) (v : V) (l : List Nat) : Prop := ∃ a, v = .ref a ∧ H a = some (.tup (l.map nV))
def RepM (H : Hp) (a : Addr) (m : Mc) : Prop := ∃ (b c : Addr) (rs : List V), H a = some (.tup [nV m.w, .ref b, .ref c]) ∧ H b = some (.tup rs) ∧ Paired (Line H) rs m.ways ∧ H c = some (.tup (m.ends.map V.bl))
theorem Line.ts {H H' : Hp} {v : V} {l : List Nat} (h : Line H v l) (g : TupS H H') : Line H' v l := let ⟨a, e, z⟩ := h; ⟨a, e, g _ _ z⟩
theorem RepM.ts {H H' : Hp} {a : Addr} {m : Mc} (h : RepM H a m) (g : TupS H H') : RepM H' a m := by
  obtain ⟨b, c, rs, h1, h2, h3, h4⟩ := h
  exact ⟨b, c, rs, g _ _ h1, g _ _ h2, L2.Paired.mapP h3 fun _ _ z => z.ts g, g _ _ h4⟩
theorem RepM.same {H H' : Hp} {a : Addr} {m : Mc} (h : RepM H a m) (g : Same H H') : RepM H' a m := h.ts g.tups
theorem Paired.at2 {α β : Type} {R : α → β → Prop} : ∀ {xs : List α} {ys : List β} {i : Nat} {y : β}, Paired R xs ys → ys[i]? = some y → ∃ x, xs[i]? = some x ∧ R x y
  | _, _, _, _, .nil, h => by simp at h
  | _, _, 0, _, .cons h _, e => by simp at e; subst e; exact ⟨_, rfl, h⟩
  | _, _, i + 1, _, .cons _ h, e => by simp only [List.getElem?_cons_succ] at e ⊢; exact Paired.at2 h e
theorem Paired.snoc {α β : Type} {R : α → β → Prop} : ∀ {xs : List α} {ys : List β} {x : α} {y : β}, Paired R xs ys → R x y → Paired R (xs ++ [x]) (ys ++ [y])
  | _, _, _, _, .nil, h => .cons h .nil
  | _, _, _, _, .cons h t, z => .cons h (Paired.snoc t z)
/-! ### promises -/
theorem map_nV (l : List Nat) : l.map nV = (l.map fun (n : Nat) => (n : Int)).map V.int := by rw [List.map_map]; rfl
end SM

set_option Elab.async false
set_option linter.all false
set_option maxRecDepth 100000
/-! MACHINES REDUCED: the heap's side -/
namespace SM
open PySem PySem.Spec PyProof.Rows L2 SS
theorem paired_of {α β : Type} {R : α → β → Prop} : ∀ {xs : List α} {ys : List β}, xs.length = ys.length → (∀ (j : Nat) x y, xs[j]? = some x → ys[j]? = some y → R x y) → Paired R xs ys
  | [], [], _, _ => .nil
  | [], _ :: _, h, _ => by simp at h
  | _ :: _, [], h, _ => by simp at h
  | x :: xs, y :: ys, h, f => .cons (f 0 x y rfl rfl) (paired_of (by simpa using h) fun j a b e1 e2 => f (j + 1) a b (by simpa using e1) (by simpa using e2))
theorem nodup_map_on {α β : Type} {f : α → β} : ∀ {l : List α}, (∀ a ∈ l, ∀ b ∈ l, f a = f b → a = b) → l.Nodup → (l.map f).Nodup
  | [], _, _ => List.nodup_nil
  | x :: l, h, hn => by
    rw [List.nodup_cons] at hn
    rw [List.map_cons, List.nodup_cons]
    refine ⟨fun z => ?_, nodup_map_on (fun a ha b hb => h a (List.mem_cons_of_mem _ ha) b (List.mem_cons_of_mem _ hb)) hn.2⟩
    obtain ⟨y, my, e⟩ := List.mem_map.mp z
    have := h y (List.mem_cons_of_mem _ my) x List.mem_cons_self e
    rw [this] at my
    exact hn.1 my
theorem map_cast_inj : ∀ {a b : List Nat}, (a.map fun (n : Nat) => (n : Int)) = (b.map fun (n : Nat) => (n : Int)) → a = b
  | [], [], _ => rfl
  | [], _ :: _, h => nomatch h
  | _ :: _, [], h => nomatch h
  | x :: a, y :: b, h => by
    rw [List.map_cons, List.map_cons, List.cons.injEq] at h
    rw [map_cast_inj h.2, show x = y by have := h.1; omega]
theorem idx_cast (k : Nat) : ∀ ns : List Nat, (ns.map fun (n : Nat) => (n : Int)).idxOf (k : Int) = ns.idxOf k
  | [] => rfl
  | x :: ns => by
    rw [List.map_cons, List.idxOf_cons, List.idxOf_cons, idx_cast k ns]
    by_cases h : x = k
    · subst h; simp
    · have h1 : (x == k) = false := by simp [h]
      have h2 : ((x : Int) == (k : Int)) = false := by simp; omega
      rw [h1, h2]
/-- what numbers[r] is, for each r of l: g r; numbers a dict or a list -/
def Lk (H : Hp) (b : Addr) (l : List Nat) (g : Nat → Nat) : Prop :=
  (∃ kvs : List (Key × V), H b = some (.dK kvs) ∧ ∀ r ∈ l, valV kvs (.inl (r : Int)) = some (nV (g r))) ∨ ∃ ns : List Nat, H b = some (.lst (ns.map nV)) ∧ ∀ r ∈ l, ns[r]? = some (g r)
theorem Lk.same {H H' : Hp} {b : Addr} {l : List Nat} {g : Nat → Nat} (h : Lk H b l g) (s : Same H H') : Lk H' b l g := by
  rcases h with ⟨kvs, e, z⟩ | ⟨ns, e, z⟩
  · exact .inl ⟨kvs, s _ _ e, z⟩
  · exact .inr ⟨ns, s _ _ e, z⟩
def sp_numberedB : Sp := fun vs H Q _ => ∃ (a : Addr) (bs : List Bool), vs = [.ref a] ∧ H a = some (.tup (bs.map V.bl)) ∧ bs.length ≤ 100 ∧ ∀ D ns H', H D = none → Same H H' → H' D = some (.lst (ns.map nV)) → Num bs ns → Q (.ref D) H'
def sp_numberedT : Sp := fun vs H Q _ => ∃ (a : Addr) (rs : List V) (ms : List (List Nat)), vs = [.ref a] ∧ H a = some (.lst rs) ∧ Paired (Line H) rs ms ∧ ms.length ≤ 100 ∧ ∀ D ns H', H D = none → Same H H' → H' D = some (.lst (ns.map nV)) → Num ms ns → Q (.ref D) H'
def sp_numbered : Sp := fun vs H Q E => sp_numberedB vs H Q E ∨ sp_numberedT vs H Q E
/-! ### a table of marks -/
section
variable {α κ : Type} [DecidableEq α] [DecidableEq κ]
def tabF (key : α → κ) : Nat → List α → List (κ × V)
  | _, [] => []
  | n, x :: r => (key x, nV n) :: tabF key (n + 1) r
theorem tabF_snoc (key : α → κ) : ∀ (ds : List α) (n : Nat) (d : α), tabF key n (ds ++ [d]) = tabF key n ds ++ [(key d, nV (n + ds.length))]
  | [], n, d => rfl
  | x :: r, n, d => by
    show (key x, nV n) :: tabF key (n + 1) (r ++ [d]) = _
    rw [tabF_snoc key r]
    show _ = (key x, nV n) :: (tabF key (n + 1) r ++ [(key d, nV (n + (r.length + 1)))])
    rw [show n + 1 + r.length = n + (r.length + 1) by omega]
theorem tabF_len (key : α → κ) : ∀ (ds : List α) (n : Nat), (tabF key n ds).length = ds.length
  | [], _ => rfl
  | x :: r, n => by show (tabF key (n + 1) r).length + 1 = r.length + 1; rw [tabF_len key r]
theorem tabF_val {key : α → κ} (inj : ∀ a b, key a = key b → a = b) (x : α) : ∀ (ds : List α) (n : Nat), valV (tabF key n ds) (key x) = if x ∈ ds then some (nV (n + ds.idxOf x)) else none
  | [], n => by simp [tabF, valV_nil]
  | y :: r, n => by
    show valV ((key y, nV n) :: tabF key (n + 1) r) (key x) = _
    by_cases h : y = x
    · subst h
      rw [valV_pos rfl, if_pos List.mem_cons_self]
      simp
    · rw [valV_neg (fun e => h (inj _ _ e)), tabF_val inj x r (n + 1)]
      have e : (x ∈ y :: r) ↔ x ∈ r := by simp [List.mem_cons, Ne.symm h]
      by_cases hr : x ∈ r
      · rw [if_pos hr, if_pos (e.mpr hr), List.idxOf_cons, show (y == x) = false by simp [h], cond_false, show n + 1 + r.idxOf x = n + (r.idxOf x + 1) by omega]
      · rw [if_neg hr, if_neg (fun z => hr (e.mp z))]
theorem tabF_in {key : α → κ} (inj : ∀ a b, key a = key b → a = b) {x : α} {ds : List α} (h : x ∈ ds) : valV (tabF key 0 ds) (key x) = some (nV (nOf ds x)) := by
  rw [tabF_val inj x ds 0, if_pos h, Nat.zero_add]; rfl
theorem tabF_out {key : α → κ} (inj : ∀ a b, key a = key b → a = b) {x : α} {ds : List α} (h : ¬ x ∈ ds) : valV (tabF key 0 ds) (key x) = none := by
  rw [tabF_val inj x ds 0, if_neg h]
theorem tabF_put {key : α → κ} (inj : ∀ a b, key a = key b → a = b) {x : α} {ds : List α} (h : ¬ x ∈ ds) : putK (tabF key 0 ds) (key x) (V.int ((tabF key 0 ds).length : Int)) = tabF key 0 (ds ++ [x]) := by
  rw [putK_new _ (tabF_out inj h), tabF_snoc, tabF_len, Nat.zero_add]
end
def keyB (b : Bool) : Key := .inl (blI b)
def keyL (l : List Nat) : List Key := l.map fun (n : Nat) => (Sum.inl (n : Int) : Key)
theorem keyB_inj (a b : Bool) (e : keyB a = keyB b) : a = b := blI_inj (Sum.inl.inj e)
theorem keyL_inj : ∀ (a b : List Nat), keyL a = keyL b → a = b
  | [], [], _ => rfl
  | [], _ :: _, h => nomatch h
  | _ :: _, [], h => nomatch h
  | x :: a, y :: b, h => by
    rw [keyL, keyL, List.map_cons, List.map_cons, List.cons.injEq] at h
    rw [keyL_inj a b h.2]
    have e : (x : Int) = (y : Int) := Sum.inl.inj h.1
    rw [show x = y by omega]
theorem keyL_V (l : List Nat) : (keyL l).map kV = l.map nV := by unfold keyL; rw [List.map_map]; rfl
theorem TupS.wrT {H : Hp} {p : Addr} {kvs : List (List Key × V)} (h : H p = some (.dT kvs)) (o : HO) : TupS H (upd H p o) := fun b ys e => by rw [upd_ne (ne_of e h (by intro z; cases z))]; exact e
/-! ### machines compared -/
section
variable {X : Cx} {H : Hp}
theorem all_range_true (n : Nat) : ((List.range n).all fun _ => true) = true := by simp
theorem rc_line {a b : Addr} {l : List Nat} {k : Nat} (ha : H a = some (.tup (l.map nV))) (hb : H b = some (.tup (l.map nV))) : RcOk X (k + 1) H (.ref a) (.ref b) true := by
  have r := rcok_tups (X := X) (k := k) (.of ha) (.of hb) (fun _ => true) fun j h1 h2 => by
    have e : (l.map nV)[j] = V.int (l[j]'(by simpa using h1) : Nat) := by simp
    rw [e]
    have z := eqok_flat (X := X) (k := k) (H := H) (x := V.int ((l[j]'(by simpa using h1) : Nat) : Int)) (y := V.int ((l[j]'(by simpa using h1) : Nat) : Int)) rfl rfl
    rw [show eqV (V.int ((l[j]'(by simpa using h1) : Nat) : Int)) (V.int ((l[j]'(by simpa using h1) : Nat) : Int)) = true by simp [eqV]] at z
    exact z
  rw [all_range_true, show ((l.map nV).length == (l.map nV).length) = true by simp, Bool.true_and] at r
  exact r
theorem rc_bools {a b : Addr} {l : List Bool} {k : Nat} (ha : H a = some (.tup (l.map V.bl))) (hb : H b = some (.tup (l.map V.bl))) : RcOk X (k + 1) H (.ref a) (.ref b) true := by
  have r := rcok_tups (X := X) (k := k) (.of ha) (.of hb) (fun _ => true) fun j h1 h2 => by
    have e : (l.map V.bl)[j] = V.bl (l[j]'(by simpa using h1)) := by simp
    rw [e]
    have z := eqok_flat (X := X) (k := k) (H := H) (x := V.bl (l[j]'(by simpa using h1))) (y := V.bl (l[j]'(by simpa using h1))) rfl rfl
    rw [show eqV (V.bl (l[j]'(by simpa using h1))) (V.bl (l[j]'(by simpa using h1))) = true by simp [eqV]] at z
    exact z
  rw [all_range_true, show ((l.map V.bl).length == (l.map V.bl).length) = true by simp, Bool.true_and] at r
  exact r
theorem eqok_of {a b : Addr} {k : Nat} (r : RcOk X k H (.ref a) (.ref b) true) : EqOk X k H (.ref a) (.ref b) true := by
  by_cases h : a = b
  · subst h; exact eqok_same
  · exact .of_rc h r
theorem rc_lines {a b : Addr} {rs ts : List V} {ls : List (List Nat)} {k : Nat} (ha : H a = some (.tup rs)) (hb : H b = some (.tup ts)) (pa : Paired (Line H) rs ls) (pb : Paired (Line H) ts ls) : RcOk X (k + 2) H (.ref a) (.ref b) true := by
  have l1 := SS.Paired.len pa
  have l2 := SS.Paired.len pb
  have r := rcok_tups (X := X) (k := k + 1) (.of ha) (.of hb) (fun _ => true) fun j h1 h2 => by
    obtain ⟨x, ex, p, ep, hp⟩ := SS.Paired.at pa (List.getElem?_eq_getElem h1)
    obtain ⟨y, ey, q, eq, hq⟩ := SS.Paired.at pb (List.getElem?_eq_getElem h2)
    rw [ex] at ey
    cases ey
    rw [ep, eq]
    exact eqok_of (rc_line hp hq)
  rw [all_range_true, show (rs.length == ts.length) = true by simp; omega, Bool.true_and] at r
  exact r
end
end SM

set_option Elab.async false
set_option linter.all false
set_option maxRecDepth 100000
/-! SORTS BY A FUNCTION: promises -/
namespace SM
open PySem PySem.Spec PyProof.Rows L2 SS
theorem SameN.tups {H H' : Hp} (g : SameN H H') : TupS H H' := fun b xs e => g b _ e fun _ _ z => nomatch z
theorem rd_se {t : TE} {Q : VK} {H : Hp} {σ : L2.St} (σ' : L2.St) (e : σ = σ') (h : t σ' H Q) : t σ H Q := by rw [e]; exact h
theorem drop_none {cl : List (Str × Addr)} {H H2 : Hp} {D : Addr} {u : HO} (h : dropL cl H D = none) (e : H2 D = some u) (n : ∀ b, InCl cl b → H2 b = none) : H D = none := by
  classical
  have nc : ¬ InCl cl D := fun z => by rw [n D z] at e; cases e
  unfold dropL at h
  rw [if_neg nc] at h; exact h
/-- what the function promises that parts sorts further -/
def sp_part (R : Hp → Prop) (J : List Nat → Prop) (Nx : List Nat → List Nat → Prop) : Sp := fun vs H Q _ => ∃ (b : Addr) (ns : List Nat), vs = [.ref b] ∧ R H ∧ H b = some (.lst (ns.map nV)) ∧ J ns ∧
  ∀ D fs H', H D = none → Same H H' → H' D = some (.lst (fs.map nV)) → Nx ns fs → Q (.ref D) H'
def sp_lawT (K : PySem.W.Frag) (ts : List (Addr × List (Pos × Str))) : Sp := fun vs H Q _ => ∃ (a : Addr) (ns : List Int), vs = [.ref a] ∧ SqL K H a (ns.map V.int) ∧ ns.length ≤ 63 ∧ OnlyT ts H ∧ ∀ H', Q (.bl true) H'
end SM

set_option Elab.async false
set_option linter.all false
set_option maxRecDepth 100000
/-! TREE MACHINES, the bare mathematics -/
namespace SM
structure Tm where
  w : Nat
  ways : List (List (List Nat))
  ends : List Bool
abbrev Tm.n (m : Tm) : Nat := m.ends.length
structure Tm.Ok (m : Tm) : Prop where
  wid : m.w ≤ 3
  pos : 0 < m.ends.length
  few : m.ends.length ≤ 30
  len : m.ways.length = 2 ^ m.w
  tab : ∀ t ∈ m.ways, t.length = m.ends.length
  line : ∀ t ∈ m.ways, ∀ r ∈ t, r.length = m.ends.length
  room : ∀ t ∈ m.ways, ∀ r ∈ t, ∀ x ∈ r, x < m.ends.length
def Tm.go (m : Tm) (l a b : Nat) : Nat := ((m.ways.getD l []).getD a []).getD b 0
def Tm.fin (m : Tm) (r : Nat) : Bool := m.ends.getD r false
inductive Tr where
  | nil
  | node (l : Nat) (a b : Tr)
def Tr.size : Tr → Nat
  | .nil => 0
  | .node _ a b => 1 + a.size + b.size
def Tr.depth : Tr → Nat
  | .nil => 0
  | .node _ a b => 1 + max a.depth b.depth
def Tr.up (z : Nat) (f : Nat → Nat → Nat → Nat) : Tr → Nat
  | .nil => z
  | .node l a b => f l (a.up z f) (b.up z f)
theorem Tm.Ok.at {m : Tm} (ok : m.Ok) {l a b : Nat} (hl : l < 2 ^ m.w) (ha : a < m.n) (hb : b < m.n) : ∃ t r, m.ways[l]? = some t ∧ t[a]? = some r ∧ r[b]? = some (m.go l a b) ∧ m.go l a b < m.n := by
  have h1 : l < m.ways.length := by rw [ok.len]; exact hl
  have e1 : m.ways[l]? = some m.ways[l] := List.getElem?_eq_getElem h1
  have m1 := List.getElem_mem h1
  have h2 : a < m.ways[l].length := by rw [ok.tab _ m1]; exact ha
  have e2 : m.ways[l][a]? = some m.ways[l][a] := List.getElem?_eq_getElem h2
  have m2 := List.getElem_mem h2
  have h3 : b < m.ways[l][a].length := by rw [ok.line _ m1 _ m2]; exact hb
  have e3 : m.ways[l][a][b]? = some m.ways[l][a][b] := List.getElem?_eq_getElem h3
  have eg : m.go l a b = m.ways[l][a][b] := by simp only [Tm.go, List.getD_eq_getElem?_getD, e1, Option.getD_some, e2, e3]
  exact ⟨_, _, e1, e2, by rw [eg]; exact e3, by rw [eg]; exact ok.room _ m1 _ m2 _ (List.getElem_mem h3)⟩
theorem Tm.Ok.go_lt {m : Tm} (ok : m.Ok) {l a b : Nat} (hl : l < 2 ^ m.w) (ha : a < m.n) (hb : b < m.n) : m.go l a b < m.n := let ⟨_, _, _, _, _, h⟩ := ok.at hl ha hb; h
theorem Tm.fin_at {m : Tm} {r : Nat} (hr : r < m.ends.length) : m.ends[r]? = some (m.fin r) := by
  unfold Tm.fin
  rw [List.getD_eq_getElem?_getD, List.getElem?_eq_getElem hr, Option.getD_some]
end SM

set_option Elab.async false
set_option linter.all false
set_option maxRecDepth 100000
/-! TREE MACHINES: how the heap bears them; promises -/
namespace SM
open PySem PySem.Spec PyProof.Rows L2 SS
def Tab (H : Hp) (v : V) (t : List (List Nat)) : Prop := ∃ a rs, v = .ref a ∧ H a = some (.tup rs) ∧ Paired (Line H) rs t
def RepT (H : Hp) (a : Addr) (m : Tm) : Prop := ∃ (b c : Addr) (ts : List V), H a = some (.tup [nV m.w, .ref b, .ref c]) ∧ H b = some (.tup ts) ∧ Paired (Tab H) ts m.ways ∧ H c = some (.tup (m.ends.map V.bl))
def TreeV (H : Hp) : V → Tr → Prop
  | v, .nil => v = .non
  | v, .node l a b => ∃ p va vb, v = .ref p ∧ H p = some (.tup [nV l, va, vb]) ∧ TreeV H va a ∧ TreeV H vb b
theorem Tab.ts {H H' : Hp} {v : V} {t : List (List Nat)} (h : Tab H v t) (g : TupS H H') : Tab H' v t := let ⟨a, rs, e, z, p⟩ := h; ⟨a, rs, e, g _ _ z, L2.Paired.mapP p fun _ _ z => z.ts g⟩
theorem RepT.ts {H H' : Hp} {a : Addr} {m : Tm} (h : RepT H a m) (g : TupS H H') : RepT H' a m := by
  obtain ⟨b, c, rs, h1, h2, h3, h4⟩ := h
  exact ⟨b, c, rs, g _ _ h1, g _ _ h2, L2.Paired.mapP h3 fun _ _ z => z.ts g, g _ _ h4⟩
theorem RepT.same {H H' : Hp} {a : Addr} {m : Tm} (h : RepT H a m) (g : Same H H') : RepT H' a m := h.ts g.tups
theorem TreeV.ts {H H' : Hp} (g : TupS H H') : ∀ {v : V} {t : Tr}, TreeV H v t → TreeV H' v t
  | _, .nil, h => h
  | _, .node _ _ _, ⟨p, va, vb, e, z, h1, h2⟩ => ⟨p, va, vb, e, g _ _ z, TreeV.ts g h1, TreeV.ts g h2⟩
theorem TreeV.same {H H' : Hp} {v : V} {t : Tr} (h : TreeV H v t) (g : Same H H') : TreeV H' v t := h.ts g.tups
/-- the ways' rows, found -/
theorem RepT.row {H : Hp} {m : Tm} {ts : List V} (pr : Paired (Tab H) ts m.ways) (ok : m.Ok) {l a b : Nat} (hl : l < 2 ^ m.w) (ha : a < m.n) (hb : b < m.n) :
    ∃ (p q : Addr) (rs : List V) (ln : List Nat), ts[l]? = some (.ref p) ∧ H p = some (.tup rs) ∧ rs[a]? = some (.ref q) ∧ H q = some (.tup (ln.map nV)) ∧ (ln.map nV)[b]? = some (nV (m.go l a b)) := by
  obtain ⟨t, r, e1, e2, e3, _⟩ := ok.at hl ha hb
  obtain ⟨v, ev, p, rs, rfl, ep, pp⟩ := Paired.at2 pr e1
  obtain ⟨v, ev2, q, rfl, eq⟩ := Paired.at2 pp e2
  exact ⟨p, q, rs, r, ev, ep, ev2, eq, by rw [List.getElem?_map, e3]; rfl⟩
def sp_machT : Sp := fun vs H Q _ => ∃ (x : Int) (n wd : Nat), vs = [.int x, nV n, nV wd] ∧ wd ≤ 3 ∧ 1 ≤ n ∧ n ≤ 30 ∧ ∀ p m H', Same H H' → RepT H' p m → m.Ok → m.w = wd → m.ends.length = n → Q (.ref p) H'
end SM

set_option Elab.async false
set_option linter.all false
set_option maxRecDepth 100000
/-! TREE MACHINES REDUCED, the bare mathematics -/
namespace SM
inductive All2 (R : Nat → Nat → Prop) : List Nat → List Nat → Prop where
  | nil : All2 R [] []
  | cons {a b : Nat} {l k : List Nat} : R a b → All2 R l k → All2 R (a :: l) (b :: k)
/-- the pairs of numbers up to m of which one at least is m, in order -/
def ups (m : Nat) : List (Nat × Nat) := ((List.range m).map fun i => (i, m)) ++ (List.range (m + 1)).map fun j => (m, j)
def alls (n : Nat) : List (Nat × Nat) := (List.range n).flatMap ups
theorem ups_mem {m : Nat} {p : Nat × Nat} : p ∈ ups m ↔ (p.1 ≤ m ∧ p.2 ≤ m ∧ (p.1 = m ∨ p.2 = m)) := by
  obtain ⟨i, j⟩ := p
  simp only [ups, List.mem_append, List.mem_map, List.mem_range, Prod.mk.injEq]
  constructor
  · rintro (⟨a, h, rfl, rfl⟩ | ⟨a, h, rfl, rfl⟩) <;> omega
  · rintro ⟨h1, h2, h3⟩
    by_cases h : i = m
    · exact .inr ⟨j, by omega, h.symm, rfl⟩
    · exact .inl ⟨i, by omega, rfl, by omega⟩
theorem alls_mem {n : Nat} {p : Nat × Nat} : p ∈ alls n ↔ p.1 < n ∧ p.2 < n := by
  simp only [alls, List.mem_flatMap, List.mem_range, ups_mem]
  constructor
  · rintro ⟨m, h, h1, h2, h3⟩; omega
  · rintro ⟨h1, h2⟩
    exact ⟨max p.1 p.2, by omega, by omega, by omega, by omega⟩
theorem alls_succ (n : Nat) : alls (n + 1) = alls n ++ ups n := by simp [alls, List.range_succ, List.flatMap_append]
theorem alls_pre {k n : Nat} (h : k ≤ n) : ∃ t, alls n = alls k ++ t := by
  induction n with
  | zero => exact ⟨[], by rw [show k = 0 by omega]; simp⟩
  | succ n ih =>
    by_cases e : k = n + 1
    · exact ⟨[], by rw [e]; simp⟩
    · obtain ⟨t, ht⟩ := ih (by omega)
      exact ⟨t ++ ups n, by rw [alls_succ, ht, List.append_assoc]⟩
/-- what comes, by each letter, above these two -/
def Tm.com (m : Tm) (a b : Nat) : List Nat := (List.range (2 ^ m.w)).map fun l => m.go l a b
def Tm.evl (m : Tm) (k : Nat) : List Nat := (alls k).flatMap fun p => m.com p.1 p.2
theorem Tm.com_mem {m : Tm} {a b x : Nat} : x ∈ m.com a b ↔ ∃ l, l < 2 ^ m.w ∧ m.go l a b = x := by simp [Tm.com]
theorem Tm.evl_mem {m : Tm} {k x : Nat} : x ∈ m.evl k ↔ ∃ a b l, a < k ∧ b < k ∧ l < 2 ^ m.w ∧ m.go l a b = x := by
  simp only [Tm.evl, List.mem_flatMap, alls_mem, Tm.com_mem]
  constructor
  · rintro ⟨p, ⟨h1, h2⟩, l, hl, e⟩; exact ⟨p.1, p.2, l, h1, h2, hl, e⟩
  · rintro ⟨a, b, l, h1, h2, hl, e⟩; exact ⟨(a, b), ⟨h1, h2⟩, l, hl, e⟩
theorem Tm.evl_pre (m : Tm) {k n : Nat} (h : k ≤ n) : ∃ t, m.evl n = m.evl k ++ t := by
  obtain ⟨t, e⟩ := alls_pre h
  exact ⟨t.flatMap fun p => m.com p.1 p.2, by unfold Tm.evl; rw [e, List.flatMap_append]⟩
/-- numbered in the order in which they are come to -/
def TOrd (m : Tm) : Prop := news [0] (m.evl m.n) = List.range m.n
inductive Reach (m : Tm) : Nat → Prop where
  | zero : Reach m 0
  | go {l a b : Nat} : l < 2 ^ m.w → Reach m a → Reach m b → Reach m (m.go l a b)
structure Bis (m1 m2 : Tm) (R : Nat → Nat → Prop) : Prop where
  w : m1.w = m2.w
  zero : R 0 0
  go : ∀ a b c d l, R a b → R c d → l < 2 ^ m1.w → R (m1.go l a c) (m2.go l b d)
  fin : ∀ a b, R a b → m1.fin a = m2.fin b
  lt : ∀ a b, R a b → a < m1.n ∧ b < m2.n
/-- what never tells two rooms apart -/
structure Cong (m : Tm) (E : Nat → Nat → Prop) : Prop where
  fin : ∀ a b, E a b → m.fin a = m.fin b
  go : ∀ a b l x, E a b → l < 2 ^ m.w → x < m.n → E (m.go l a x) (m.go l b x) ∧ E (m.go l x a) (m.go l x b)
def Min (m : Tm) : Prop := ∀ E : Nat → Nat → Prop, Cong m E → ∀ a b, a < m.n → b < m.n → E a b → a = b
structure TCan (m : Tm) : Prop where
  ok : m.Ok
  ord : TOrd m
  reach : ∀ x, x < m.n → Reach m x
  min : Min m
theorem Bis.symm {m1 m2 : Tm} {R : Nat → Nat → Prop} (h : Bis m1 m2 R) : Bis m2 m1 fun b a => R a b :=
  ⟨h.w.symm, h.zero, fun a b c d l h1 h2 hl => h.go b a d c l h1 h2 (by rw [h.w]; exact hl), fun a b h1 => (h.fin b a h1).symm, fun a b h1 => ⟨(h.lt b a h1).2, (h.lt b a h1).1⟩⟩
theorem Bis.trans {m1 m2 m3 : Tm} {R S : Nat → Nat → Prop} (h : Bis m1 m2 R) (k : Bis m2 m3 S) : Bis m1 m3 fun a c => ∃ b, R a b ∧ S b c :=
  ⟨h.w.trans k.w, ⟨0, h.zero, k.zero⟩, fun a b c d l ⟨x, h1, k1⟩ ⟨y, h2, k2⟩ hl => ⟨m2.go l x y, h.go _ _ _ _ l h1 h2 hl, k.go _ _ _ _ l k1 k2 (by rw [← h.w]; exact hl)⟩, fun a b ⟨x, h1, k1⟩ => (h.fin a x h1).trans (k.fin x b k1), fun a b ⟨x, h1, k1⟩ => ⟨(h.lt a x h1).1, (k.lt x b k1).2⟩⟩
theorem Bis.right {m1 m2 : Tm} {R : Nat → Nat → Prop} (h : Bis m1 m2 R) : ∀ {x : Nat}, Reach m2 x → ∃ c, R c x := fun {x} r => by
  induction r with
  | zero => exact ⟨0, h.zero⟩
  | go hl _ _ ih1 ih2 =>
    obtain ⟨c, h1⟩ := ih1
    obtain ⟨d, h2⟩ := ih2
    exact ⟨_, h.go _ _ _ _ _ h1 h2 (by rw [h.w]; exact hl)⟩
theorem Bis.one {m1 m2 : Tm} {R : Nat → Nat → Prop} (h : Bis m1 m2 R) (r1 : ∀ x, x < m2.n → Reach m2 x) (mi : Min m2) {a b b' : Nat} (h1 : R a b) (h2 : R a b') : b = b' := by
  refine mi (fun b b' => ∃ a, R a b ∧ R a b') ⟨fun x y ⟨a, k1, k2⟩ => (h.fin a x k1).symm.trans (h.fin a y k2), fun x y l z ⟨a, k1, k2⟩ hl hz => ?_⟩ b b' (h.lt a b h1).2 (h.lt a b' h2).2 ⟨a, h1, h2⟩
  obtain ⟨c, hc⟩ := h.right (r1 z hz)
  have hl' : l < 2 ^ m1.w := by rw [h.w]; exact hl
  exact ⟨⟨m1.go l a c, h.go _ _ _ _ l k1 hc hl', h.go _ _ _ _ l k2 hc hl'⟩, ⟨m1.go l c a, h.go _ _ _ _ l hc k1 hl', h.go _ _ _ _ l hc k2 hl'⟩⟩
theorem range_pre : ∀ {n : Nat} {P t : List Nat}, List.range n = P ++ t → P = List.range P.length := fun {n P t} h => by
  have e : P = (List.range n).take P.length := by rw [h]; simp
  have hl : P.length ≤ n := by have := congrArg List.length h; simp at this; omega
  rw [e, List.length_take, List.length_range, List.take_range, Nat.min_eq_left hl]
theorem first_split {k : Nat} : ∀ {xs : List Nat}, (∃ x ∈ xs, k ≤ x) → ∃ A r B, xs = A ++ r :: B ∧ (∀ a ∈ A, a < k) ∧ k ≤ r
  | [], ⟨x, h, _⟩ => nomatch h
  | y :: ys, ⟨x, hx, hk⟩ => by
    by_cases h : k ≤ y
    · exact ⟨[], y, ys, rfl, fun a ha => (nomatch ha), h⟩
    · have hx' : x ∈ ys := by
        rcases List.mem_cons.mp hx with e | e
        · rw [e] at hk; exact absurd hk h
        · exact e
      obtain ⟨A, r, B, e, h1, h2⟩ := first_split ⟨x, hx', hk⟩
      refine ⟨y :: A, r, B, by rw [e]; rfl, fun a ha => ?_, h2⟩
      rcases List.mem_cons.mp ha with e | e
      · omega
      · exact h1 a e
/-- the first that is k or more is k -/
theorem TOrd.first {m : Tm} (o : TOrd m) {k : Nat} (hk : 0 < k) (hn : k ≤ m.n) {A B : List Nat} {r : Nat} (e : m.evl k = A ++ r :: B) (hA : ∀ a ∈ A, a < k) (hr : k ≤ r) : r = k := by
  obtain ⟨t, et⟩ := m.evl_pre hn
  have o' : news [0] (m.evl m.n) = List.range m.n := o
  rw [et, e, List.append_assoc, List.cons_append, news_app] at o'
  have hnr : ¬ r ∈ news [0] A := fun z => by
    rcases (news_mem _ _ _).mp z with z | z
    · have := List.mem_singleton.mp z; omega
    · have := hA r z; omega
  obtain ⟨u, eu⟩ := news_pre (B ++ t) (news [0] A ++ [r])
  have e2 : news (news [0] A) (r :: (B ++ t)) = news (news [0] A ++ [r]) (B ++ t) := by
    show news (if r ∈ news [0] A then news [0] A else news [0] A ++ [r]) (B ++ t) = _
    rw [if_neg hnr]
  rw [e2, eu] at o'
  have p1 := range_pre (P := news [0] A ++ [r]) o'.symm
  have p2 := range_pre (P := news [0] A) (t := [r] ++ u) (by rw [← o', List.append_assoc])
  rw [List.length_append, List.length_singleton, List.range_succ] at p1
  have hr2 : r = (news [0] A).length := by
    have := congrArg (fun l => l.getLast?) p1
    simpa using this
  have : (news [0] A).length ≤ k := by
    refine nodup_le (xs := news [0] A) (news_nd _ _ (by simp)) fun x hx => ?_
    rcases (news_mem _ _ _).mp hx with z | z
    · have := List.mem_singleton.mp z; omega
    · exact hA x z
  omega
theorem reach_out {m : Tm} {k : Nat} (hk : 0 < k) (h : ∀ x ∈ m.evl k, x < k) : ∀ {x : Nat}, Reach m x → x < k := fun {x} r => by
  induction r with
  | zero => exact hk
  | go hl _ _ ih1 ih2 => exact h _ (Tm.evl_mem.mpr ⟨_, _, _, ih1, ih2, hl, rfl⟩)
end SM

set_option Elab.async false
set_option linter.all false
set_option maxRecDepth 100000
/-! TREE MACHINES REDUCED: the order without lists; the explored one; the quotient -/
namespace SM
def Lt3 (p q : Nat × Nat) : Prop := max p.1 p.2 < max q.1 q.2 ∨ (max p.1 p.2 = max q.1 q.2 ∧ (p.1 < q.1 ∨ (p.1 = q.1 ∧ p.2 < q.2)))
def Lt4 (e f : Nat × Nat × Nat) : Prop := Lt3 (e.1, e.2.1) (f.1, f.2.1) ∨ (e.1 = f.1 ∧ e.2.1 = f.2.1 ∧ e.2.2 < f.2.2)
theorem Lt4.asym {e f : Nat × Nat × Nat} (h : Lt4 e f) (k : Lt4 f e) : False := by
  obtain ⟨a, b, l⟩ := e
  obtain ⟨c, d, m⟩ := f
  simp only [Lt4, Lt3] at h k
  omega
theorem Lt4.tri (e f : Nat × Nat × Nat) : Lt4 e f ∨ e = f ∨ Lt4 f e := by
  obtain ⟨a, b, l⟩ := e
  obtain ⟨c, d, m⟩ := f
  simp only [Lt4, Lt3, Prod.mk.injEq]
  omega
theorem ups_sorted (n : Nat) : (ups n).Pairwise Lt3 := by
  unfold ups
  rw [List.pairwise_append]
  refine ⟨?_, ?_, fun p hp q hq => ?_⟩
  · rw [List.pairwise_map]
    refine List.Pairwise.imp_of_mem (R := (· < ·)) (fun {a b} ha hb h => ?_) List.pairwise_lt_range
    have := List.mem_range.mp ha
    have := List.mem_range.mp hb
    simp only [Lt3]; omega
  · rw [List.pairwise_map]
    refine List.Pairwise.imp_of_mem (R := (· < ·)) (fun {a b} ha hb h => ?_) List.pairwise_lt_range
    have h1 := List.mem_range.mp ha
    have h2 := List.mem_range.mp hb
    exact .inr ⟨by show max n a = max n b; rw [Nat.max_eq_left (by omega), Nat.max_eq_left (by omega)], .inr ⟨rfl, h⟩⟩
  · obtain ⟨i, hi, rfl⟩ := List.mem_map.mp hp
    obtain ⟨j, hj, rfl⟩ := List.mem_map.mp hq
    have := List.mem_range.mp hi
    have := List.mem_range.mp hj
    simp only [Lt3]; omega
theorem alls_sorted : ∀ n, (alls n).Pairwise Lt3
  | 0 => by simp [alls]
  | n + 1 => by
    rw [alls_succ, List.pairwise_append]
    refine ⟨alls_sorted n, ups_sorted n, fun p hp q hq => ?_⟩
    have h1 := alls_mem.mp hp
    have h2 := ups_mem.mp hq
    simp only [Lt3]; omega
def evts (L k : Nat) : List (Nat × Nat × Nat) := (alls k).flatMap fun p => (List.range L).map fun l => (p.1, p.2, l)
theorem evts_mem {L k : Nat} {e : Nat × Nat × Nat} : e ∈ evts L k ↔ e.1 < k ∧ e.2.1 < k ∧ e.2.2 < L := by
  obtain ⟨a, b, l⟩ := e
  simp only [evts, List.mem_flatMap, alls_mem, List.mem_map, List.mem_range, Prod.mk.injEq]
  constructor
  · rintro ⟨p, ⟨h1, h2⟩, l', hl, rfl, rfl, rfl⟩; exact ⟨h1, h2, hl⟩
  · rintro ⟨h1, h2, h3⟩; exact ⟨(a, b), ⟨h1, h2⟩, l, h3, rfl, rfl, rfl⟩
theorem evts_sorted (L k : Nat) : (evts L k).Pairwise Lt4 := by
  have h : ∀ ps : List (Nat × Nat), ps.Pairwise Lt3 → (ps.flatMap fun p => (List.range L).map fun l => (p.1, p.2, l)).Pairwise Lt4 := fun ps => by
    induction ps with
    | nil => intro _; simp
    | cons p ps ih =>
      intro hp
      rw [List.pairwise_cons] at hp
      rw [List.flatMap_cons, List.pairwise_append]
      refine ⟨?_, ih hp.2, fun e he f hf => ?_⟩
      · rw [List.pairwise_map]
        exact List.Pairwise.imp (R := (· < ·)) (fun {a b} h => .inr ⟨rfl, rfl, h⟩) List.pairwise_lt_range
      · obtain ⟨l, _, rfl⟩ := List.mem_map.mp he
        obtain ⟨q, hq, hf⟩ := List.mem_flatMap.mp hf
        obtain ⟨l', _, rfl⟩ := List.mem_map.mp hf
        exact .inl (hp.1 q hq)
  exact h _ (alls_sorted k)
theorem evl_evts (m : Tm) (k : Nat) : m.evl k = (evts (2 ^ m.w) k).map fun e => m.go e.2.2 e.1 e.2.1 := by
  unfold Tm.evl evts
  rw [List.map_flatMap]
  simp [Tm.com, List.map_map, Function.comp_def]
/-- each room is first come to behind those below it -/
def TOrd2 (m : Tm) : Prop := ∀ k, 0 < k → k < m.n → ∃ a b l, a < k ∧ b < k ∧ l < 2 ^ m.w ∧ m.go l a b = k ∧ ∀ a' b' l', a' < k → b' < k → l' < 2 ^ m.w → Lt4 (a', b', l') (a, b, l) → m.go l' a' b' < k
theorem TOrd.two {m : Tm} (o : TOrd m) (rc : ∀ x, x < m.n → Reach m x) : TOrd2 m := fun k h0 hk => by
  obtain ⟨A, r, B, eA, hA, hr⟩ := first_split (k := k) (xs := m.evl k) (Classical.byContradiction fun hno => by
    have := reach_out h0 (fun x hx => by
      have : ¬ k ≤ x := fun z => hno ⟨x, hx, z⟩
      omega) (rc k hk)
    omega)
  have hra : r = k := o.first h0 (by omega) eA hA hr
  subst hra
  rw [evl_evts] at eA
  obtain ⟨EA, ER, e1, e2, e3⟩ := List.map_eq_append_iff.mp eA
  obtain ⟨e, EB, e4, e5, e6⟩ := List.map_eq_cons_iff.mp e3
  have hs := evts_sorted (2 ^ m.w) r
  rw [e1, e4, List.pairwise_append] at hs
  have me : e ∈ evts (2 ^ m.w) r := by rw [e1, e4]; simp
  have h1 := evts_mem.mp me
  refine ⟨e.1, e.2.1, e.2.2, h1.1, h1.2.1, h1.2.2, e5, fun a' b' l' ha hb hl lt => ?_⟩
  have me' : (a', b', l') ∈ evts (2 ^ m.w) r := evts_mem.mpr ⟨ha, hb, hl⟩
  rw [e1, e4] at me'
  rcases List.mem_append.mp me' with z | z
  · exact hA _ (by rw [← e2]; exact List.mem_map.mpr ⟨_, z, rfl⟩)
  · rcases List.mem_cons.mp z with z | z
    · rw [z] at lt
      exact (Lt4.asym lt lt).elim
    · have := (List.pairwise_cons.mp hs.2.1).1 _ z
      exact (Lt4.asym lt this).elim
structure TCan2 (m : Tm) : Prop where
  ok : m.Ok
  ord : TOrd2 m
  reach : ∀ x, x < m.n → Reach m x
  min : Min m
theorem bis_id2 {m1 m2 : Tm} {R : Nat → Nat → Prop} (h : Bis m1 m2 R) (c1 : TCan2 m1) (c2 : TCan2 m2) : ∀ k a b, a < k → R a b → a = b := fun k => by
  induction k with
  | zero => intro a b h0; omega
  | succ k ih =>
    intro a b hk hR
    by_cases e : a < k
    · exact ih a b e hR
    have : a = k := by omega
    subst this
    have ha := (h.lt a b hR).1
    have hb := (h.lt a b hR).2
    by_cases h0 : a = 0
    · subst h0
      exact (h.one c2.reach c2.min h.zero hR)
    have pos : 0 < a := by omega
    have low : ∀ i, i < a → R i i := fun i hi => by
      obtain ⟨c, hc⟩ := h.symm.right (c1.reach i (by omega))
      have := ih i c hi hc
      rw [← this] at hc; exact hc
    have hba : ¬ b < a := fun hlt => by
      have := h.symm.one c1.reach c1.min (low b hlt) hR
      omega
    obtain ⟨i, j, l, hi, hj, hl, ev, first⟩ := c1.ord a pos ha
    obtain ⟨i2, j2, l2, hi2, hj2, hl2, ev2, first2⟩ := c2.ord a pos (by omega)
    have hr := h.go i i j j l (low i hi) (low j hj) hl
    rw [ev] at hr
    have eb : b = m2.go l i j := h.one c2.reach c2.min hR hr
    rcases Lt4.tri (i, j, l) (i2, j2, l2) with z | z | z
    · have := first2 i j l hi hj (by rw [← h.w]; exact hl) z
      omega
    · rw [Prod.mk.injEq, Prod.mk.injEq] at z
      rw [eb, z.1, z.2.1, z.2.2, ev2]
    · have hl2' : l2 < 2 ^ m1.w := by rw [h.w]; exact hl2
      have lt := first i2 j2 l2 hi2 hj2 hl2' z
      have hr2 := h.go i2 i2 j2 j2 l2 (low i2 hi2) (low j2 hj2) hl2'
      rw [ev2] at hr2
      have := ih _ _ lt hr2
      omega
/-- two are the same machine where they go and end alike -/
theorem Tm.ext_go {m1 m2 : Tm} (o1 : m1.Ok) (o2 : m2.Ok) (hw : m1.w = m2.w) (hn : m1.n = m2.n) (hg : ∀ l a b, l < 2 ^ m1.w → a < m1.n → b < m1.n → m1.go l a b = m2.go l a b) (hf : ∀ a, a < m1.n → m1.fin a = m2.fin a) : m1 = m2 := by
  obtain ⟨w1, ways1, ends1⟩ := m1
  obtain ⟨w2, ways2, ends2⟩ := m2
  have e1 : w1 = w2 := hw
  have n12 : ends1.length = ends2.length := hn
  have e3 : ends1 = ends2 := by
    refine List.ext_getElem? fun i => ?_
    by_cases hi : i < ends1.length
    · have a1 := Tm.fin_at (m := ⟨w1, ways1, ends1⟩) hi
      have a2 := Tm.fin_at (m := ⟨w2, ways2, ends2⟩) (r := i) (by show i < ends2.length; omega)
      show ends1[i]? = ends2[i]?
      rw [show ends1[i]? = _ from a1, show ends2[i]? = _ from a2, hf i hi]
    · rw [List.getElem?_eq_none (by omega), List.getElem?_eq_none (by omega)]
  have e2 : ways1 = ways2 := by
    have l1 : ways1.length = 2 ^ w1 := o1.len
    have l2 : ways2.length = 2 ^ w2 := o2.len
    refine List.ext_getElem? fun l => ?_
    by_cases hl : l < 2 ^ w1
    · have hl2 : l < 2 ^ w2 := by rw [← e1]; exact hl
      have g1 : l < ways1.length := by omega
      have g2 : l < ways2.length := by omega
      rw [List.getElem?_eq_getElem g1, List.getElem?_eq_getElem g2]
      congr 1
      have t1 : ways1[l].length = ends1.length := o1.tab _ (List.getElem_mem g1)
      have t2 : ways2[l].length = ends2.length := o2.tab _ (List.getElem_mem g2)
      refine List.ext_getElem? fun a => ?_
      by_cases ha : a < ends1.length
      · have k1 : a < ways1[l].length := by omega
        have k2 : a < ways2[l].length := by omega
        rw [List.getElem?_eq_getElem k1, List.getElem?_eq_getElem k2]
        congr 1
        have s1 : ways1[l][a].length = ends1.length := o1.line _ (List.getElem_mem g1) _ (List.getElem_mem k1)
        have s2 : ways2[l][a].length = ends2.length := o2.line _ (List.getElem_mem g2) _ (List.getElem_mem k2)
        refine List.ext_getElem? fun b => ?_
        by_cases hb : b < ends1.length
        · obtain ⟨t, r, q1, q2, q3, _⟩ := o1.at (l := l) (a := a) (b := b) hl ha hb
          obtain ⟨t', r', q1', q2', q3', _⟩ := o2.at (l := l) (a := a) (b := b) hl2 (by show a < ends2.length; omega) (by show b < ends2.length; omega)
          have u1 : t = ways1[l] := (Option.some.inj ((List.getElem?_eq_getElem g1).symm.trans q1)).symm
          have u2 : t' = ways2[l] := (Option.some.inj ((List.getElem?_eq_getElem g2).symm.trans q1')).symm
          subst u1 u2
          have v1 : r = ways1[l][a] := (Option.some.inj ((List.getElem?_eq_getElem k1).symm.trans q2)).symm
          have v2 : r' = ways2[l][a] := (Option.some.inj ((List.getElem?_eq_getElem k2).symm.trans q2')).symm
          subst v1 v2
          rw [q3, q3', hg l a b hl ha hb]
        · rw [List.getElem?_eq_none (by omega), List.getElem?_eq_none (by omega)]
      · rw [List.getElem?_eq_none (by omega), List.getElem?_eq_none (by omega)]
    · rw [List.getElem?_eq_none (by omega), List.getElem?_eq_none (by rw [← e1] at l2; omega)]
  rw [e1, e2, e3]
theorem tcan2_one {m1 m2 : Tm} {R : Nat → Nat → Prop} (h : Bis m1 m2 R) (c1 : TCan2 m1) (c2 : TCan2 m2) : m1 = m2 := by
  have idd : ∀ a b, R a b → a = b := fun a b z => bis_id2 h c1 c2 (a + 1) a b (by omega) z
  have low1 : ∀ i, i < m1.n → R i i ∧ i < m2.n := fun i hi => by
    obtain ⟨c, hc⟩ := h.symm.right (c1.reach i hi)
    have := idd i c hc
    rw [← this] at hc
    exact ⟨hc, (h.lt _ _ hc).2⟩
  have low2 : ∀ i, i < m2.n → R i i ∧ i < m1.n := fun i hi => by
    obtain ⟨c, hc⟩ := h.right (c2.reach i hi)
    have := idd c i hc
    rw [this] at hc
    exact ⟨hc, (h.lt _ _ hc).1⟩
  have hn : m1.n = m2.n := by
    rcases Nat.lt_trichotomy m1.n m2.n with z | z | z
    · have := (low2 m1.n z).2; omega
    · exact z
    · have := (low1 m2.n z).2; omega
  exact Tm.ext_go c1.ok c2.ok h.w hn (fun l a b hl ha hb => idd _ _ (h.go a a b b l (low1 a ha).1 (low1 b hb).1 hl)) fun a ha => h.fin a a (low1 a ha).1
/-! ### a machine by what it goes and ends -/
def mkT (w n : Nat) (go : Nat → Nat → Nat → Nat) (fin : Nat → Bool) : Tm := ⟨w, (List.range (2 ^ w)).map fun l => (List.range n).map fun a => (List.range n).map fun b => go l a b, (List.range n).map fin⟩
section
variable {w n : Nat} {go : Nat → Nat → Nat → Nat} {fin : Nat → Bool}
theorem mkT_n : (mkT w n go fin).n = n := by simp [mkT, Tm.n]
theorem mkT_go {l a b : Nat} (hl : l < 2 ^ w) (ha : a < n) (hb : b < n) : (mkT w n go fin).go l a b = go l a b := by
  simp [mkT, Tm.go, List.getD_eq_getElem?_getD, List.getElem?_map, List.getElem?_range hl, List.getElem?_range ha, List.getElem?_range hb]
theorem mkT_fin {a : Nat} (ha : a < n) : (mkT w n go fin).fin a = fin a := by
  simp [mkT, Tm.fin, List.getD_eq_getElem?_getD, List.getElem?_map, List.getElem?_range ha]
theorem mkT_ok (hw : w ≤ 3) (h0 : 0 < n) (h30 : n ≤ 30) (hg : ∀ l a b, l < 2 ^ w → a < n → b < n → go l a b < n) : (mkT w n go fin).Ok := by
  refine { wid := hw, pos := ?_, few := ?_, len := ?_, tab := ?_, line := ?_, room := ?_ }
  · simpa [mkT] using h0
  · simpa [mkT] using h30
  · simp [mkT]
  · intro t ht
    obtain ⟨l, _, rfl⟩ := List.mem_map.mp ht
    simp [mkT]
  · intro t ht r hr
    obtain ⟨l, _, rfl⟩ := List.mem_map.mp ht
    obtain ⟨a, _, rfl⟩ := List.mem_map.mp hr
    simp [mkT]
  · intro t ht r hr x hx
    obtain ⟨l, hl, rfl⟩ := List.mem_map.mp ht
    obtain ⟨a, ha, rfl⟩ := List.mem_map.mp hr
    obtain ⟨b, hb, rfl⟩ := List.mem_map.mp hx
    have := hg l a b (List.mem_range.mp hl) (List.mem_range.mp ha) (List.mem_range.mp hb)
    simpa [mkT] using this
end
/-! ### explored -/
theorem flat_congr {α β : Type} {f g : α → List β} : ∀ {xs : List α}, (∀ x ∈ xs, f x = g x) → xs.flatMap f = xs.flatMap g
  | [], _ => rfl
  | x :: xs, h => by rw [List.flatMap_cons, List.flatMap_cons, h x List.mem_cons_self, flat_congr fun y hy => h y (List.mem_cons_of_mem _ hy)]
theorem news_map {f : Nat → Nat} : ∀ (xs acc : List Nat), (∀ a b, (a ∈ acc ∨ a ∈ xs) → (b ∈ acc ∨ b ∈ xs) → f a = f b → a = b) → news (acc.map f) (xs.map f) = (news acc xs).map f
  | [], acc, _ => rfl
  | x :: xs, acc, h => by
    show news (if f x ∈ acc.map f then acc.map f else acc.map f ++ [f x]) (xs.map f) = (news (if x ∈ acc then acc else acc ++ [x]) xs).map f
    by_cases hx : x ∈ acc
    · rw [if_pos hx, if_pos (List.mem_map.mpr ⟨x, hx, rfl⟩)]
      exact news_map xs acc fun a b ha hb => h a b (ha.imp id (List.mem_cons_of_mem _)) (hb.imp id (List.mem_cons_of_mem _))
    · have hn : ¬ f x ∈ acc.map f := fun z => by
        obtain ⟨y, hy, e⟩ := List.mem_map.mp z
        have := h y x (.inl hy) (.inr List.mem_cons_self) e
        rw [this] at hy; exact hx hy
      rw [if_neg hx, if_neg hn]
      have e2 : acc.map f ++ [f x] = (acc ++ [x]).map f := by simp
      rw [e2]
      have up : ∀ a, (a ∈ acc ++ [x] ∨ a ∈ xs) → (a ∈ acc ∨ a ∈ x :: xs) := fun a ha => by
        rcases ha with z | z
        · rcases List.mem_append.mp z with z | z
          · exact .inl z
          · rw [List.mem_singleton.mp z]; exact .inr List.mem_cons_self
        · exact .inr (List.mem_cons_of_mem _ z)
      exact news_map xs (acc ++ [x]) fun a b ha hb => h a b (up a ha) (up b hb)
theorem map_nOf : ∀ {fs : List Nat}, fs.Nodup → fs.map (nOf fs) = List.range fs.length := fun {fs} hn => by
  refine List.ext_getElem? fun i => ?_
  by_cases hi : i < fs.length
  · rw [List.getElem?_map, List.getElem?_eq_getElem hi, List.getElem?_range hi]
    show some (fs.idxOf fs[i]) = some i
    congr 1
    obtain ⟨h1, h2⟩ := idx_is (List.getElem_mem hi)
    exact ix_inj hn h1 hi (h2.trans (ix_of (List.getElem?_eq_getElem hi)).symm)
  · rw [List.getElem?_eq_none (by rw [List.length_map]; omega), List.getElem?_eq_none (by rw [List.length_range]; omega)]
structure TFnd (x : Tm) (fs : List Nat) (dn : List (Nat × Nat)) : Prop where
  eq : fs = news [0] (dn.flatMap fun p => x.com (ix fs p.1) (ix fs p.2))
  lt : ∀ p ∈ dn, p.1 < fs.length ∧ p.2 < fs.length
  rm : ∀ r ∈ fs, r < x.n
  rch : ∀ r ∈ fs, Reach x r
theorem TFnd.start {x : Tm} (h : 0 < x.n) : TFnd x [0] [] := ⟨rfl, fun p hp => (nomatch hp), fun r hr => by rw [List.mem_singleton.mp hr]; exact h, fun r hr => by rw [List.mem_singleton.mp hr]; exact .zero⟩
theorem TFnd.step {x : Tm} {fs : List Nat} {dn : List (Nat × Nat)} (ok : x.Ok) (f : TFnd x fs dn) {i j : Nat} (hi : i < fs.length) (hj : j < fs.length) : TFnd x (news fs (x.com (ix fs i) (ix fs j))) (dn ++ [(i, j)]) := by
  obtain ⟨t, et⟩ := news_pre (x.com (ix fs i) (ix fs j)) fs
  have ixe : ∀ k, k < fs.length → ix (news fs (x.com (ix fs i) (ix fs j))) k = ix fs k := fun k hk => by rw [et]; exact ix_app hk
  have len : fs.length ≤ (news fs (x.com (ix fs i) (ix fs j))).length := by rw [et, List.length_append]; omega
  refine ⟨?_, fun p hp => ?_, fun r hr => ?_, fun r hr => ?_⟩
  · have e1 : (dn.flatMap fun p => x.com (ix (news fs (x.com (ix fs i) (ix fs j))) p.1) (ix (news fs (x.com (ix fs i) (ix fs j))) p.2)) = dn.flatMap fun p => x.com (ix fs p.1) (ix fs p.2) := by
      refine flat_congr fun p hp => ?_
      rw [ixe _ (f.lt p hp).1, ixe _ (f.lt p hp).2]
    rw [List.flatMap_append, e1, news_app, ← f.eq, List.flatMap_cons, List.flatMap_nil, List.append_nil, ixe i hi, ixe j hj]
  · rcases List.mem_append.mp hp with z | z
    · have := f.lt p z; omega
    · rw [List.mem_singleton.mp z]; exact ⟨by show i < _; omega, by show j < _; omega⟩
  · rcases (news_mem _ _ _).mp hr with z | z
    · exact f.rm r z
    · obtain ⟨l, hl, rfl⟩ := Tm.com_mem.mp z
      exact ok.go_lt hl (f.rm _ (ix_mem hi)) (f.rm _ (ix_mem hj))
  · rcases (news_mem _ _ _).mp hr with z | z
    · exact f.rch r z
    · obtain ⟨l, hl, rfl⟩ := Tm.com_mem.mp z
      exact .go hl (f.rch _ (ix_mem hi)) (f.rch _ (ix_mem hj))
def xpl (x : Tm) (fs : List Nat) : Tm := mkT x.w fs.length (fun l i j => nOf fs (x.go l (ix fs i) (ix fs j))) fun i => x.fin (ix fs i)
section
variable {x : Tm} {fs : List Nat}
theorem TFnd.nd {dn : List (Nat × Nat)} (f : TFnd x fs dn) : fs.Nodup := by rw [f.eq]; exact news_nd _ _ (by simp)
theorem TFnd.hd {dn : List (Nat × Nat)} (f : TFnd x fs dn) : fs[0]? = some 0 := by
  obtain ⟨t, e⟩ := news_pre (dn.flatMap fun p => x.com (ix fs p.1) (ix fs p.2)) [0]
  rw [f.eq, e]; rfl
theorem TFnd.clo (f : TFnd x fs (alls fs.length)) {l i j : Nat} (hl : l < 2 ^ x.w) (hi : i < fs.length) (hj : j < fs.length) : x.go l (ix fs i) (ix fs j) ∈ fs :=
  (congrArg (x.go l (ix fs i) (ix fs j) ∈ ·) f.eq).mpr ((news_mem _ _ _).mpr (.inr (List.mem_flatMap.mpr ⟨(i, j), alls_mem.mpr ⟨hi, hj⟩, Tm.com_mem.mpr ⟨l, hl, rfl⟩⟩)))
theorem nOf_ix (hn : fs.Nodup) {i : Nat} (hi : i < fs.length) : nOf fs (ix fs i) = i := by
  obtain ⟨h1, h2⟩ := idx_is (ix_mem hi)
  exact ix_inj hn h1 hi h2
theorem ix_nOf {r : Nat} (h : r ∈ fs) : nOf fs r < fs.length ∧ ix fs (nOf fs r) = r := idx_is h
theorem xpl_go (hl : l < 2 ^ x.w) (hi : i < fs.length) (hj : j < fs.length) : (xpl x fs).go l i j = nOf fs (x.go l (ix fs i) (ix fs j)) := mkT_go hl hi hj
theorem xpl_fin {i : Nat} (hi : i < fs.length) : (xpl x fs).fin i = x.fin (ix fs i) := mkT_fin (w := x.w) (go := fun l i j => nOf fs (x.go l (ix fs i) (ix fs j))) (fin := fun i => x.fin (ix fs i)) hi
theorem xpl_ok (ok : x.Ok) (f : TFnd x fs (alls fs.length)) : (xpl x fs).Ok := by
  have h1 : fs.length ≤ x.n := nodup_le f.nd f.rm
  have h2 : x.n ≤ 30 := ok.few
  exact mkT_ok ok.wid (List.getElem?_eq_some_iff.mp f.hd).1 (by omega) fun l a b hl ha hb => (ix_nOf (f.clo hl ha hb)).1
theorem xpl_n : (xpl x fs).n = fs.length := mkT_n
theorem xpl_bis (f : TFnd x fs (alls fs.length)) : Bis x (xpl x fs) fun r i => i < fs.length ∧ r = ix fs i := by
  refine ⟨rfl, ⟨(List.getElem?_eq_some_iff.mp f.hd).1, (ix_of f.hd).symm⟩, ?_, ?_, ?_⟩
  · rintro a b c d l ⟨h1, rfl⟩ ⟨h2, rfl⟩ hl
    have h3 := ix_nOf (f.clo hl h1 h2)
    rw [xpl_go hl h1 h2]
    exact ⟨h3.1, h3.2.symm⟩
  · rintro a b ⟨h1, rfl⟩
    exact (xpl_fin h1).symm
  · rintro a b ⟨h1, rfl⟩
    exact ⟨f.rm _ (ix_mem h1), by rw [xpl_n]; exact h1⟩
theorem xpl_reach (f : TFnd x fs (alls fs.length)) : ∀ i, i < (xpl x fs).n → Reach (xpl x fs) i := fun i hi => by
  rw [xpl_n] at hi
  have h0 : (0 : Nat) ∈ fs := List.mem_of_getElem? f.hd
  have key : ∀ {r : Nat}, Reach x r → r ∈ fs ∧ Reach (xpl x fs) (nOf fs r) := fun {r} z => by
    induction z with
    | zero =>
      refine ⟨h0, ?_⟩
      have : nOf fs 0 = 0 := by
        have := nOf_ix f.nd (List.getElem?_eq_some_iff.mp f.hd).1
        rw [ix_of f.hd] at this; exact this
      rw [this]; exact .zero
    | @go l a b hl _ _ ih1 ih2 =>
      obtain ⟨m1, r1⟩ := ih1
      obtain ⟨m2, r2⟩ := ih2
      obtain ⟨k1, k2⟩ := ix_nOf m1
      obtain ⟨k3, k4⟩ := ix_nOf m2
      have hc := f.clo hl k1 k3
      rw [k2, k4] at hc
      refine ⟨hc, ?_⟩
      have : (xpl x fs).go l (nOf fs a) (nOf fs b) = nOf fs (x.go l a b) := by rw [xpl_go hl k1 k3, k2, k4]
      rw [← this]
      exact .go hl r1 r2
  have := (key (f.rch _ (ix_mem hi))).2
  rw [nOf_ix f.nd hi] at this; exact this
theorem xpl_ord (f : TFnd x fs (alls fs.length)) : TOrd2 (xpl x fs) := by
  refine TOrd.two ?_ (xpl_reach f)
  show news [0] ((xpl x fs).evl (xpl x fs).n) = List.range (xpl x fs).n
  rw [xpl_n]
  have e1 : (xpl x fs).evl fs.length = ((alls fs.length).flatMap fun p => x.com (ix fs p.1) (ix fs p.2)).map (nOf fs) := by
    unfold Tm.evl
    rw [List.map_flatMap]
    refine flat_congr fun p hp => ?_
    obtain ⟨h1, h2⟩ := alls_mem.mp hp
    unfold Tm.com
    rw [List.map_map]
    refine List.map_congr_left fun l hl => ?_
    exact xpl_go (List.mem_range.mp hl) h1 h2
  have z0 : nOf fs 0 = 0 := by
    have := nOf_ix f.nd (List.getElem?_eq_some_iff.mp f.hd).1
    rw [ix_of f.hd] at this; exact this
  have mm : ∀ a, (a ∈ [0] ∨ a ∈ ((alls fs.length).flatMap fun p => x.com (ix fs p.1) (ix fs p.2))) → a ∈ fs := fun a ha => (congrArg (a ∈ ·) f.eq).mpr ((news_mem _ _ _).mpr ha)
  have e2 := news_map (f := nOf fs) ((alls fs.length).flatMap fun p => x.com (ix fs p.1) (ix fs p.2)) [0] fun a b ha hb e => by
    have h1 := (ix_nOf (mm a ha)).2
    have h2 := (ix_nOf (mm b hb)).2
    rw [← h1, ← h2, e]
  rw [List.map_cons, List.map_nil, z0, ← f.eq] at e2
  rw [e1, e2, map_nOf f.nd]
end
end SM

set_option Elab.async false
set_option linter.all false
set_option maxRecDepth 100000
/-! TREE MACHINES REDUCED: the quotient by the last sorts -/
namespace SM
/-- the sorts of M's rooms, k of them, F s the first room of the sort s -/
structure TSt (M : Tm) (ns : List Nat) (k : Nat) (F : Nat → Nat) : Prop where
  len : ns.length = M.n
  lt : ∀ i, i < M.n → ix ns i < k
  first : ∀ s, s < k → F s < M.n ∧ ix ns (F s) = s ∧ ∀ j, j < F s → ix ns j < s
  fin : ∀ i j, i < M.n → j < M.n → ix ns i = ix ns j → M.fin i = M.fin j
  stab : ∀ i j x l, i < M.n → j < M.n → x < M.n → l < 2 ^ M.w → ix ns i = ix ns j → ix ns (M.go l i x) = ix ns (M.go l j x) ∧ ix ns (M.go l x i) = ix ns (M.go l x j)
  coarse : ∀ E : Nat → Nat → Prop, Cong M E → ∀ i j, i < M.n → j < M.n → E i j → ix ns i = ix ns j
def quo (M : Tm) (ns : List Nat) (k : Nat) (F : Nat → Nat) : Tm := mkT M.w k (fun l a b => ix ns (M.go l (F a) (F b))) fun a => M.fin (F a)
theorem first_evt (m : Tm) {k : Nat} (h : ∃ x ∈ m.evl k, k ≤ x) : ∃ a b l, a < k ∧ b < k ∧ l < 2 ^ m.w ∧ k ≤ m.go l a b ∧ ∀ a' b' l', a' < k → b' < k → l' < 2 ^ m.w → Lt4 (a', b', l') (a, b, l) → m.go l' a' b' < k := by
  obtain ⟨A, r, B, eA, hA, hr⟩ := first_split h
  rw [evl_evts] at eA
  obtain ⟨EA, ER, e1, e2, e3⟩ := List.map_eq_append_iff.mp eA
  obtain ⟨e, EB, e4, e5, e6⟩ := List.map_eq_cons_iff.mp e3
  have hs := evts_sorted (2 ^ m.w) k
  rw [e1, e4, List.pairwise_append] at hs
  have me : e ∈ evts (2 ^ m.w) k := by rw [e1, e4]; simp
  have h1 := evts_mem.mp me
  refine ⟨e.1, e.2.1, e.2.2, h1.1, h1.2.1, h1.2.2, by rw [e5]; exact hr, fun a' b' l' ha hb hl lt => ?_⟩
  have me' : (a', b', l') ∈ evts (2 ^ m.w) k := evts_mem.mpr ⟨ha, hb, hl⟩
  rw [e1, e4] at me'
  rcases List.mem_append.mp me' with z | z
  · exact hA _ (by rw [← e2]; exact List.mem_map.mpr ⟨_, z, rfl⟩)
  · rcases List.mem_cons.mp z with z | z
    · rw [z] at lt
      exact (Lt4.asym lt lt).elim
    · have := (List.pairwise_cons.mp hs.2.1).1 _ z
      exact (Lt4.asym lt this).elim
section
variable {M : Tm} {ns : List Nat} {k : Nat} {F : Nat → Nat}
theorem quo_n : (quo M ns k F).n = k := mkT_n
theorem quo_go {l a b : Nat} (hl : l < 2 ^ M.w) (ha : a < k) (hb : b < k) : (quo M ns k F).go l a b = ix ns (M.go l (F a) (F b)) := mkT_go (w := M.w) (go := fun l a b => ix ns (M.go l (F a) (F b))) (fin := fun a => M.fin (F a)) hl ha hb
theorem quo_fin {a : Nat} (ha : a < k) : (quo M ns k F).fin a = M.fin (F a) := mkT_fin (w := M.w) (go := fun l a b => ix ns (M.go l (F a) (F b))) (fin := fun a => M.fin (F a)) ha
/-- going goes by sorts -/
theorem quo_hom (ok : M.Ok) (S : TSt M ns k F) {l i j : Nat} (hl : l < 2 ^ M.w) (hi : i < M.n) (hj : j < M.n) : (quo M ns k F).go l (ix ns i) (ix ns j) = ix ns (M.go l i j) := by
  have ki := S.lt i hi
  have kj := S.lt j hj
  obtain ⟨f1, f2, _⟩ := S.first _ ki
  obtain ⟨f3, f4, _⟩ := S.first _ kj
  rw [quo_go hl ki kj, (S.stab _ i _ l f1 hi f3 hl f2).1, (S.stab _ j i l f3 hj hi hl f4).2]
theorem quo_ok (ok : M.Ok) (S : TSt M ns k F) (k0 : 0 < k) (k30 : k ≤ 30) : (quo M ns k F).Ok :=
  mkT_ok ok.wid k0 k30 fun l a b hl ha hb => S.lt _ (ok.go_lt hl (S.first a ha).1 (S.first b hb).1)
theorem TSt.zero (S : TSt M ns k F) (k0 : 0 < k) : F 0 = 0 ∧ ix ns 0 = 0 := by
  obtain ⟨h1, h2, h3⟩ := S.first 0 k0
  have : F 0 = 0 := by
    rcases Nat.eq_zero_or_pos (F 0) with z | z
    · exact z
    · have := h3 0 z; omega
  exact ⟨this, by rw [this] at h2; exact h2⟩
theorem quo_bis (ok : M.Ok) (S : TSt M ns k F) (k0 : 0 < k) : Bis M (quo M ns k F) fun i a => i < M.n ∧ a = ix ns i := by
  refine ⟨rfl, ⟨ok.pos, (S.zero k0).2.symm⟩, ?_, ?_, ?_⟩
  · rintro a b c d l ⟨h1, rfl⟩ ⟨h2, rfl⟩ hl
    exact ⟨ok.go_lt hl h1 h2, quo_hom ok S hl h1 h2⟩
  · rintro a b ⟨h1, rfl⟩
    have ki := S.lt a h1
    obtain ⟨f1, f2, _⟩ := S.first _ ki
    rw [quo_fin ki]
    exact S.fin a _ h1 f1 f2.symm
  · rintro a b ⟨h1, rfl⟩
    exact ⟨h1, by rw [quo_n]; exact S.lt a h1⟩
theorem quo_reach (ok : M.Ok) (S : TSt M ns k F) (k0 : 0 < k) (rc : ∀ x, x < M.n → Reach M x) : ∀ a, a < (quo M ns k F).n → Reach (quo M ns k F) a := fun a ha => by
  rw [quo_n] at ha
  obtain ⟨f1, f2, _⟩ := S.first a ha
  have key : ∀ {i : Nat}, Reach M i → i < M.n ∧ Reach (quo M ns k F) (ix ns i) := fun {i} z => by
    induction z with
    | zero => exact ⟨ok.pos, by rw [(S.zero k0).2]; exact .zero⟩
    | @go l a b hl _ _ ih1 ih2 =>
      refine ⟨ok.go_lt hl ih1.1 ih2.1, ?_⟩
      rw [← quo_hom ok S hl ih1.1 ih2.1]
      exact .go hl ih1.2 ih2.2
  have := (key (rc _ f1)).2
  rw [f2] at this; exact this
theorem quo_min (ok : M.Ok) (S : TSt M ns k F) : Min (quo M ns k F) := fun E c a b ha hb hE => by
  rw [quo_n] at ha hb
  obtain ⟨f1, f2, _⟩ := S.first a ha
  obtain ⟨f3, f4, _⟩ := S.first b hb
  have := S.coarse (fun i j => i < M.n ∧ j < M.n ∧ E (ix ns i) (ix ns j)) ⟨?_, ?_⟩ (F a) (F b) f1 f3 ⟨f1, f3, by rw [f2, f4]; exact hE⟩
  · rw [f2, f4] at this; exact this
  · rintro i j ⟨hi, hj, e⟩
    have h := c.fin _ _ e
    rw [quo_fin (S.lt i hi), quo_fin (S.lt j hj)] at h
    obtain ⟨g1, g2, _⟩ := S.first _ (S.lt i hi)
    obtain ⟨g3, g4, _⟩ := S.first _ (S.lt j hj)
    rw [S.fin i _ hi g1 g2.symm, S.fin j _ hj g3 g4.symm]
    exact h
  · rintro i j l x ⟨hi, hj, e⟩ hl hx
    have h := c.go _ _ l (ix ns x) e hl (by rw [quo_n]; exact S.lt x hx)
    rw [quo_hom ok S hl hi hx, quo_hom ok S hl hj hx, quo_hom ok S hl hx hi, quo_hom ok S hl hx hj] at h
    exact ⟨⟨ok.go_lt hl hi hx, ok.go_lt hl hj hx, h.1⟩, ⟨ok.go_lt hl hx hi, ok.go_lt hl hx hj, h.2⟩⟩
theorem TSt.mono (S : TSt M ns k F) {s t : Nat} (hs : s < k) (ht : t < k) (h : s < t) : F s < F t := by
  obtain ⟨f1, f2, f3⟩ := S.first s hs
  obtain ⟨g1, g2, g3⟩ := S.first t ht
  rcases Nat.lt_trichotomy (F s) (F t) with z | z | z
  · exact z
  · rw [z, g2] at f2; omega
  · have := f3 _ z; omega
theorem TSt.le (S : TSt M ns k F) {i : Nat} (hi : i < M.n) : F (ix ns i) ≤ i := by
  obtain ⟨f1, f2, f3⟩ := S.first _ (S.lt i hi)
  rcases Nat.lt_or_ge i (F (ix ns i)) with z | z
  · have := f3 i z; omega
  · exact z
theorem quo_ord (ok : M.Ok) (S : TSt M ns k F) (k0 : 0 < k) (o : TOrd2 M) : TOrd2 (quo M ns k F) := fun s s0 hs => by
  rw [quo_n] at hs
  obtain ⟨f1, f2, f3⟩ := S.first s hs
  have fpos : 0 < F s := by
    rcases Nat.eq_zero_or_pos (F s) with z | z
    · rw [z, (S.zero k0).2] at f2; omega
    · exact z
  obtain ⟨a, b, l, ha, hb, hl, ev, fst⟩ := o (F s) fpos f1
  have hA := f3 a ha
  have hB := f3 b hb
  have han : a < M.n := by omega
  have hbn : b < M.n := by omega
  have qv : (quo M ns k F).go l (ix ns a) (ix ns b) = s := by rw [quo_hom ok S hl han hbn, ev, f2]
  obtain ⟨a', b', l', ha', hb', hl', hv, fst'⟩ := first_evt (quo M ns k F) (k := s) ⟨s, Tm.evl_mem.mpr ⟨_, _, l, hA, hB, hl, qv⟩, Nat.le_refl _⟩
  have hl'' : l' < 2 ^ M.w := hl'
  have ka : a' < k := by omega
  have kb : b' < k := by omega
  refine ⟨a', b', l', ha', hb', hl', ?_, fst'⟩
  have Fa := S.mono ka hs ha'
  have Fb := S.mono kb hs hb'
  rw [quo_go hl'' ka kb] at hv ⊢
  have hy : ¬ M.go l' (F a') (F b') < F s := fun z => by have := f3 _ z; omega
  rcases Lt4.tri (a, b, l) (F a', F b', l') with z | z | z
  · -- the image of the first of M comes no later
    have nl : ¬ Lt4 (ix ns a, ix ns b, l) (a', b', l') := fun lt => by
      have := fst' _ _ _ hA hB hl lt
      omega
    rcases Lt4.tri (ix ns a, ix ns b, l) (a', b', l') with y | y | y
    · exact absurd y nl
    · rw [Prod.mk.injEq, Prod.mk.injEq] at y
      rw [← y.1, ← y.2.1, ← y.2.2, ← quo_go hl (S.lt a han) (S.lt b hbn)]
      exact qv
    · exfalso
      have l1 := S.le han
      have l2 := S.le hbn
      have kA := S.lt a han
      have kB := S.lt b hbn
      have mo : ∀ u v, u < k → v < k → (u < v → F u < F v) ∧ (u = v → F u = F v) ∧ (v < u → F v < F u) := fun u v hu hv => ⟨fun h => S.mono hu hv h, fun h => by rw [h], fun h => S.mono hv hu h⟩
      have m1 := mo a' (ix ns a) ka kA
      have m2 := mo a' (ix ns b) ka kB
      have m3 := mo b' (ix ns a) kb kA
      have m4 := mo b' (ix ns b) kb kB
      generalize ix ns a = A at *
      generalize ix ns b = B at *
      generalize F a' = fa at *
      generalize F b' = fb at *
      generalize F A = fA at *
      generalize F B = fB at *
      simp only [Lt4, Lt3] at y z
      omega
  · rw [Prod.mk.injEq, Prod.mk.injEq] at z
    rw [← z.1, ← z.2.1, ← z.2.2, ev, f2]
  · exact absurd (fst _ _ _ Fa Fb hl'' z) hy
theorem quo_can (ok : M.Ok) (S : TSt M ns k F) (k0 : 0 < k) (k30 : k ≤ 30) (o : TOrd2 M) (rc : ∀ x, x < M.n → Reach M x) : TCan2 (quo M ns k F) := ⟨quo_ok ok S k0 k30, quo_ord ok S k0 o, quo_reach ok S k0 rc, quo_min ok S⟩
end
/-- m' is m reduced -/
structure TRed (m m' : Tm) : Prop where
  can : TCan2 m'
  bis : ∃ R, Bis m m' R
  le : m'.n ≤ m.n
theorem tred_same {m1 m2 m1' m2' : Tm} {R : Nat → Nat → Prop} (r1 : TRed m1 m1') (r2 : TRed m2 m2') (h : Bis m1 m2 R) : m1' = m2' := by
  obtain ⟨R1, b1⟩ := r1.bis
  obtain ⟨R2, b2⟩ := r2.bis
  exact tcan2_one (b1.symm.trans (h.trans b2)) r1.can r2.can
theorem tred_of {x : Tm} {fs ns : List Nat} {k : Nat} {F : Nat → Nat} (ok : x.Ok) (f : TFnd x fs (alls fs.length)) (S : TSt (xpl x fs) ns k F) (k0 : 0 < k) (hk : k ≤ fs.length) : TRed x (quo (xpl x fs) ns k F) := by
  have h1 : fs.length ≤ x.n := nodup_le f.nd f.rm
  have h2 : x.n ≤ 30 := ok.few
  exact ⟨quo_can (xpl_ok ok f) S k0 (by omega) (xpl_ord f) (xpl_reach f), ⟨_, (xpl_bis f).trans (quo_bis (xpl_ok ok f) S k0)⟩, by rw [quo_n]; omega⟩
end SM

set_option Elab.async false
set_option linter.all false
set_option maxRecDepth 100000
/-! TREE MACHINES REDUCED: the sorts, step by step -/
namespace SM
structure TSorts (M : Tm) (ns : List Nat) : Prop where
  srt : Srt ns
  len : ns.length = M.n
  fin : ∀ i j, i < M.n → j < M.n → ix ns i = ix ns j → M.fin i = M.fin j
  coarse : ∀ E : Nat → Nat → Prop, Cong M E → ∀ i j, i < M.n → j < M.n → E i j → ix ns i = ix ns j
def tmark (M : Tm) (ns : List Nat) (i : Nat) : List Nat := ix ns i :: M.ways.flatMap fun t => (t.getD i []).map (ix ns) ++ t.map fun r => ix ns (r.getD i 0)
theorem flat_eq {α : Type} {f g : α → List Nat} : ∀ {ts : List α}, (∀ t ∈ ts, (f t).length = (g t).length) → (ts.flatMap f = ts.flatMap g ↔ ∀ t ∈ ts, f t = g t)
  | [], _ => by simp
  | t :: ts, h => by
    rw [List.flatMap_cons, List.flatMap_cons, List.append_inj_left_iff_of h]
  where
    List.append_inj_left_iff_of {t : α} {ts : List α} (h : ∀ x ∈ t :: ts, (f x).length = (g x).length) : (f t ++ ts.flatMap f = g t ++ ts.flatMap g) = (∀ x ∈ t :: ts, f x = g x) := by
      refine propext ⟨fun e x hx => ?_, fun e => ?_⟩
      · obtain ⟨h1, h2⟩ := List.append_inj e (h t List.mem_cons_self)
        rcases List.mem_cons.mp hx with rfl | z
        · exact h1
        · exact (flat_eq fun y hy => h y (List.mem_cons_of_mem _ hy)).mp h2 x z
      · rw [e t List.mem_cons_self, (flat_eq fun y hy => h y (List.mem_cons_of_mem _ hy)).mpr fun y hy => e y (List.mem_cons_of_mem _ hy)]
section
variable {M : Tm} {ns fs : List Nat}
theorem tab_at (ok : M.Ok) {t : List (List Nat)} (ht : t ∈ M.ways) : ∃ l, l < 2 ^ M.w ∧ M.ways[l]? = some t := by
  obtain ⟨l, hl, e⟩ := List.getElem_of_mem ht
  exact ⟨l, by rw [← ok.len]; exact hl, by rw [List.getElem?_eq_getElem hl, e]⟩
theorem tab_go (ok : M.Ok) {t : List (List Nat)} {l : Nat} (e : M.ways[l]? = some t) {i x : Nat} (hl : l < 2 ^ M.w) (hi : i < M.n) (hx : x < M.n) : (t.getD i [])[x]? = some (M.go l i x) ∧ t[x]?.map (fun r => r.getD i 0) = some (M.go l x i) := by
  obtain ⟨t1, r1, a1, a2, a3, _⟩ := ok.at hl hi hx
  obtain ⟨t2, r2, b1, b2, b3, _⟩ := ok.at hl hx hi
  rw [e] at a1 b1
  cases a1; cases b1
  refine ⟨by rw [List.getD_eq_getElem?_getD, a2]; exact a3, ?_⟩
  rw [b2]
  show some (r2.getD i 0) = _
  rw [List.getD_eq_getElem?_getD, b3]; rfl
theorem tmark_eq (ok : M.Ok) {i j : Nat} (hi : i < M.n) (hj : j < M.n) : tmark M ns i = tmark M ns j ↔ ix ns i = ix ns j ∧ ∀ l x, l < 2 ^ M.w → x < M.n → ix ns (M.go l i x) = ix ns (M.go l j x) ∧ ix ns (M.go l x i) = ix ns (M.go l x j) := by
  have ln : ∀ t ∈ M.ways, ∀ k, k < M.n → (t.getD k []).length = M.n := fun t ht k hk => by
    have h1 : k < t.length := by rw [ok.tab t ht]; exact hk
    rw [List.getD_eq_getElem?_getD, List.getElem?_eq_getElem h1]
    exact ok.line t ht _ (List.getElem_mem h1)
  unfold tmark
  rw [List.cons.injEq]
  refine and_congr_right fun _ => ?_
  rw [flat_eq fun t ht => by rw [List.length_append, List.length_append, List.length_map, List.length_map, List.length_map, List.length_map, ln t ht i hi, ln t ht j hj]]
  constructor
  · intro h l x hl hx
    have hl' : l < M.ways.length := by rw [ok.len]; exact hl
    have e := List.getElem?_eq_getElem hl'
    have ht := List.getElem_mem hl'
    obtain ⟨h1, h2⟩ := List.append_inj (h _ ht) (by rw [List.length_map, List.length_map, ln _ ht i hi, ln _ ht j hj])
    obtain ⟨p1, p2⟩ := tab_go ok e hl hi hx
    obtain ⟨q1, q2⟩ := tab_go ok e hl hj hx
    constructor
    · have z := congrArg (fun q => q[x]?) h1
      simp only [List.getElem?_map] at z
      rw [p1, q1] at z
      exact Option.some.inj z
    · have z := congrArg (fun q => q[x]?) h2
      simp only [List.getElem?_map] at z
      have hx' : x < M.ways[l].length := by rw [ok.tab _ ht]; exact hx
      rw [List.getElem?_eq_getElem hx'] at z p2 q2
      have p3 := Option.some.inj p2
      have q3 := Option.some.inj q2
      have z' := Option.some.inj z
      rw [← p3, ← q3]; exact z'
  · intro h t ht
    obtain ⟨l, hl, e⟩ := tab_at ok ht
    congr 1
    · refine List.ext_getElem? fun x => ?_
      rw [List.getElem?_map, List.getElem?_map]
      by_cases hx : x < M.n
      · rw [(tab_go ok e hl hi hx).1, (tab_go ok e hl hj hx).1]
        show some _ = some _
        rw [(h l x hl hx).1]
      · rw [List.getElem?_eq_none (by rw [ln t ht i hi]; omega), List.getElem?_eq_none (by rw [ln t ht j hj]; omega)]
    · refine List.ext_getElem? fun x => ?_
      rw [List.getElem?_map, List.getElem?_map]
      by_cases hx : x < M.n
      · have hx' : x < t.length := by rw [ok.tab t ht]; exact hx
        have p2 := (tab_go ok e hl hi hx).2
        have q2 := (tab_go ok e hl hj hx).2
        rw [List.getElem?_eq_getElem hx'] at p2 q2 ⊢
        have p3 : t[x].getD i 0 = M.go l x i := Option.some.inj p2
        have q3 : t[x].getD j 0 = M.go l x j := Option.some.inj q2
        show some (ix ns (t[x].getD i 0)) = some (ix ns (t[x].getD j 0))
        rw [p3, q3, (h l x hl hx).2]
      · have hlt : t.length = M.n := ok.tab t ht
        rw [List.getElem?_eq_none (show t.length ≤ x by omega)]
        rfl
theorem tsorts_first (N : Num M.ends ns) : TSorts M ns :=
  ⟨N.srt, N.len, fun i j hi hj e => (N.eq i j _ _ (Tm.fin_at hi) (Tm.fin_at hj)).mp e, fun E c i j hi hj e => (N.eq i j _ _ (Tm.fin_at hi) (Tm.fin_at hj)).mpr (c.fin i j e)⟩
def TNx (M : Tm) (ns fs : List Nat) : Prop := Num ((List.range M.n).map (tmark M ns)) fs
theorem tsorts_next (ok : M.Ok) (S : TSorts M ns) (N : TNx M ns fs) : TSorts M fs ∧ (∀ i j, i < ns.length → j < ns.length → ix fs i = ix fs j → ix ns i = ix ns j) ∧
    (fs = ns → ∀ i j x l, i < M.n → j < M.n → x < M.n → l < 2 ^ M.w → ix ns i = ix ns j → ix ns (M.go l i x) = ix ns (M.go l j x) ∧ ix ns (M.go l x i) = ix ns (M.go l x j)) := by
  have at' : ∀ {i : Nat}, i < M.n → ((List.range M.n).map (tmark M ns))[i]? = some (tmark M ns i) := fun h => by rw [List.getElem?_map, List.getElem?_range h]; rfl
  have eq : ∀ {i j : Nat}, i < M.n → j < M.n → (ix fs i = ix fs j ↔ ix ns i = ix ns j ∧ ∀ l x, l < 2 ^ M.w → x < M.n → ix ns (M.go l i x) = ix ns (M.go l j x) ∧ ix ns (M.go l x i) = ix ns (M.go l x j)) := fun hi hj => (N.eq _ _ _ _ (at' hi) (at' hj)).trans (tmark_eq ok hi hj)
  refine ⟨⟨N.srt, by rw [N.len]; simp, fun i j hi hj e => S.fin i j hi hj ((eq hi hj).mp e).1, fun E c i j hi hj e => (eq hi hj).mpr ⟨S.coarse E c i j hi hj e, fun l x hl hx => ?_⟩⟩, fun i j hi hj e => ?_, fun e i j x l hi hj hx hl h => ?_⟩
  · have z := c.go i j l x e hl hx
    exact ⟨S.coarse E c _ _ (ok.go_lt hl hi hx) (ok.go_lt hl hj hx) z.1, S.coarse E c _ _ (ok.go_lt hl hx hi) (ok.go_lt hl hx hj) z.2⟩
  · rw [S.len] at hi hj
    exact ((eq hi hj).mp e).1
  · subst e
    exact ((eq hi hj).mp h).2 l x hl hx
theorem tsorts_more (S : TSorts M ns) (S' : TSorts M fs) (ref : ∀ i j, i < ns.length → j < ns.length → ix fs i = ix fs j → ix ns i = ix ns j) (ne : fs ≠ ns) : ns.sum < fs.sum ∧ fs.sum ≤ M.n * M.n := by
  have hl : ns.length = fs.length := by rw [S.len, S'.len]
  obtain ⟨h1, h2⟩ := sum_le hl fun i hi => srt_le S.srt S'.srt hl ref _ i hi rfl
  refine ⟨Nat.lt_of_le_of_ne h1 fun e => ne (h2 e).symm, ?_⟩
  have h3 := sum_bound (s := fs) (n := M.n) fun x hx => by
    obtain ⟨i, hi, rfl⟩ := ix_ex hx
    have := S'.srt.le i hi
    have := S'.len
    omega
  rw [S'.len] at h3
  exact h3
theorem tst_of (ok : M.Ok) (S : TSorts M ns) (N : TNx M ns ns) {Mx : Nat} (hM : Mx ∈ ns) (hle : ∀ a ∈ ns, a ≤ Mx) : TSt M ns (Mx + 1) fun s => ns.idxOf s := by
  obtain ⟨F, mem⟩ := firsts_of S.srt hM hle
  have hfl : ((List.range (Mx + 1)).map fun s => ns.idxOf s).length = Mx + 1 := by rw [List.length_map, List.length_range]
  have hix : ∀ s, s < Mx + 1 → ix ((List.range (Mx + 1)).map fun s => ns.idxOf s) s = ns.idxOf s := fun s hs => ix_of (by rw [List.getElem?_map, List.getElem?_range hs]; rfl)
  refine ⟨S.len, fun i hi => ?_, fun s hs => ?_, S.fin, (tsorts_next ok S N).2.2 rfl, S.coarse⟩
  · have := hle _ (ix_mem (by rw [S.len]; exact hi)); omega
  · obtain ⟨h1, h2⟩ := idx_is (mem s (by omega))
    refine ⟨by rw [← S.len]; exact h1, h2, fun j hj => ?_⟩
    have hj' : j < ns.length := by omega
    rcases Nat.lt_trichotomy (ix ns j) s with z | z | z
    · exact z
    · have := F.le s j (by omega) hj' z
      rw [hix s hs] at this
      omega
    · obtain ⟨j2, hj2, e2⟩ := S.srt.grow j hj' s z
      have := F.le s j2 (by omega) (by omega) e2
      rw [hix s hs] at this
      omega
end
end SM

set_option Elab.async false
set_option linter.all false
set_option maxRecDepth 100000
/-! TREE MACHINES REDUCED: promises -/
namespace SM
open PySem PySem.Spec PyProof.Rows L2 SS
/-- numbers[r] for each r of l is g r -/
inductive LkT (H : Hp) (b : Addr) (l : List Nat) (g : Nat → V) : Prop where
  | lst (vs : List V) (e : H b = some (.lst vs)) (h : ∀ r ∈ l, vs[r]? = some (g r)) : LkT H b l g
  | tup (vs : List V) (e : H b = some (.tup vs)) (h : ∀ r ∈ l, vs[r]? = some (g r)) : LkT H b l g
  | dct (kvs : List (Key × V)) (e : H b = some (.dK kvs)) (h : ∀ r ∈ l, valV kvs (.inl (r : Int)) = some (g r)) : LkT H b l g
def RenQ (l : List Nat) (g : Nat → V) (H : Hp) (Q : VK) : Prop := ∀ p H', Same H H' → H' p = some (.tup (l.map g)) → Q (.ref p) H'
def sp_renTL : Sp := fun vs H Q _ => ∃ (a b : Addr) (l : List Nat) (ns : List V) (g : Nat → V), vs = [.ref a, .ref b] ∧ H a = some (.tup (l.map nV)) ∧ l.length ≤ 100 ∧ H b = some (.lst ns) ∧ (∀ r ∈ l, ns[r]? = some (g r)) ∧ RenQ l g H Q
def sp_renLT : Sp := fun vs H Q _ => ∃ (a b : Addr) (l : List Nat) (ns : List V) (g : Nat → V), vs = [.ref a, .ref b] ∧ H a = some (.lst (l.map nV)) ∧ l.length ≤ 100 ∧ H b = some (.tup ns) ∧ (∀ r ∈ l, ns[r]? = some (g r)) ∧ RenQ l g H Q
def sp_renLD : Sp := fun vs H Q _ => ∃ (a b : Addr) (l : List Nat) (kvs : List (Key × V)) (g : Nat → V), vs = [.ref a, .ref b] ∧ H a = some (.lst (l.map nV)) ∧ l.length ≤ 100 ∧ H b = some (.dK kvs) ∧ (∀ r ∈ l, valV kvs (.inl (r : Int)) = some (g r)) ∧ RenQ l g H Q
def sp_sortsbyT (P : Program) (w : World) (K : PySem.W.Frag) (mg : Str → Option Value) (base : Heap) : Sp := fun vs H Q _ => ∃ (e f : Addr) (fd : FuncData) (bs : List Bool) (R : Hp → Prop) (J : List Nat → Prop) (Nx : List Nat → List Nat → Prop) (mu : List Nat → Nat),
  vs = [.ref e, .ref f] ∧ H e = some (.tup (bs.map V.bl)) ∧ bs.length ≤ 100 ∧ H f = some (fnO fd f) ∧ CloH P w K mg base 4 H f 1 (sp_part R J Nx) ∧ R H ∧ (∀ H1 H2, Same H1 H2 → R H1 → R H2) ∧ (∀ ns, Num bs ns → J ns) ∧
  (∀ ns, J ns → ns.length ≤ 100) ∧ (∀ ns fs, J ns → Nx ns fs → J fs ∧ (fs ≠ ns → mu fs < mu ns)) ∧ ∀ D ns H', Same H H' → H' D = some (.lst (ns.map nV)) → J ns → Nx ns ns → Q (.ref D) H'
def sp_renAll : Sp := fun vs H Q E => sp_renTL vs H Q E ∨ sp_renLT vs H Q E ∨ sp_renLD vs H Q E
def sp_tleast (Pt : Addr) (qs : List (Pos × Str)) : Sp := fun vs H Q _ => ∃ (a : Addr) (m : Tm), vs = [.ref a] ∧ TabOk H Pt qs ∧ RepT H a m ∧ m.Ok ∧ ∀ p ns k H', Same H H' → RepT H' p (quo m ns k fun s => ns.idxOf s) → TSt m ns k (fun s => ns.idxOf s) → 0 < k → k ≤ m.n → Q (.ref p) H'
theorem flat_le {α : Type} {f : α → List Nat} {c : Nat} : ∀ xs : List α, (∀ x ∈ xs, (f x).length ≤ c) → (xs.flatMap f).length ≤ xs.length * c
  | [], _ => by simp
  | x :: xs, h => by
    rw [List.flatMap_cons, List.length_append, List.length_cons, Nat.succ_mul]
    have := h x List.mem_cons_self
    have := flat_le xs fun y hy => h y (List.mem_cons_of_mem _ hy)
    omega
def pL (p : Nat × Nat) : List Nat := [p.1, p.2]
def sp_pairsup : Sp := fun vs H Q _ => ∃ m : Nat, vs = [nV m] ∧ m ≤ 30 ∧ ∀ D rs H', H D = none → Same H H' → H' D = some (.lst rs) → Paired (Line H') rs ((ups m).map pL) → Q (.ref D) H'
def sp_comT (R : Hp → Prop) (x : Tm) : Sp := fun vs H Q _ => ∃ a b : Nat, vs = [nV a, nV b] ∧ R H ∧ a < x.n ∧ b < x.n ∧ ∀ D H', H D = none → Same H H' → H' D = some (.lst ((x.com a b).map nV)) → Q (.ref D) H'
def sp_endT (R : Hp → Prop) (x : Tm) : Sp := fun vs H Q _ => ∃ a : Nat, vs = [nV a] ∧ R H ∧ a < x.n ∧ ∀ H', Same H H' → Q (.bl (x.fin a)) H'
def sp_tmark : Sp := fun vs H Q _ => ∃ (a b : Addr) (m : Tm) (i : Nat) (ns : List Nat), vs = [.ref a, nV i, .ref b] ∧ RepT H a m ∧ m.Ok ∧ i < m.n ∧ H b = some (.lst (ns.map nV)) ∧ ns.length = m.n ∧ ∀ p H', Same H H' → H' p = some (.tup ((tmark m ns i).map nV)) → Q (.ref p) H'
def sp_tfiner : Sp := fun vs H Q _ => ∃ (a b : Addr) (m : Tm) (ns : List Nat), vs = [.ref a, .ref b] ∧ RepT H a m ∧ m.Ok ∧ H b = some (.lst (ns.map nV)) ∧ ns.length = m.n ∧ ∀ D fs H', H D = none → Same H H' → H' D = some (.lst (fs.map nV)) → TNx m ns fs → Q (.ref D) H'
def keyI (r : Nat) : Key := .inl (r : Int)
theorem keyI_inj (a b : Nat) (e : keyI a = keyI b) : a = b := by have := Sum.inl.inj e; omega
def sp_texpl (P : Program) (w : World) (K : PySem.W.Frag) (mg : Str → Option Value) (base : Heap) : Sp := fun vs H Q _ => ∃ (fc fe : Addr) (fd fd' : FuncData) (R : Hp → Prop) (x : Tm) (mo : Nat), vs = [nV x.w, .ref fc, nV 0, .ref fe, nV mo] ∧ x.Ok ∧ x.n ≤ mo ∧ H fc = some (fnO fd fc) ∧ H fe = some (fnO fd' fe) ∧
  CloH P w K mg base 4 H fc 2 (sp_comT R x) ∧ CloH P w K mg base 4 H fe 1 (sp_endT R x) ∧ R H ∧ (∀ H1 H2, Same H1 H2 → R H1 → R H2) ∧ ∀ p fs H', Same H H' → RepT H' p (xpl x fs) → TFnd x fs (alls fs.length) → Q (.ref p) H'
/-- known: for each pair gone by the rooms that come -/
def KnT (x : Tm) (fs : List Nat) (H : Hp) (dn : List (Nat × Nat)) (kvs : List (List Key × V)) : Prop := kvs.map (·.1) = dn.map (fun p => keyL (pL p)) ∧ ∀ p ∈ dn, ∃ v, valV kvs (keyL (pL p)) = some v ∧ Line H v ((x.com (ix fs p.1) (ix fs p.2)).map (nOf fs))
def sp_waysof : Sp := fun vs H Q _ => ∃ (a : Addr) (kvs : List (List Key × V)) (n l L : Nat) (rw : Nat → Nat → List Nat), vs = [.ref a, nV n, nV l] ∧ H a = some (.dT kvs) ∧ n ≤ 30 ∧ l < L ∧ (∀ i j, i < n → j < n → ∃ v, valV kvs (keyL [i, j]) = some v ∧ Line H v (rw i j) ∧ (rw i j).length = L) ∧
  ∀ p H', Same H H' → Tab H' (.ref p) ((List.range n).map fun i => (List.range n).map fun j => (rw i j).getD l 0) → Q (.ref p) H'
end SM

set_option Elab.async false
set_option linter.all false
set_option maxRecDepth 100000
/-! EXPLORED: the machine of what is come to from a thing; pairs -/
namespace SM
structure Thg where
  w : Nat
  step : List Nat → List (List Nat)
  fin : List Nat → Bool
/-- the things from t along a row -/
def Thg.run (T : Thg) (t : List Nat) (row : List Nat) : List Nat := row.foldl (fun t l => (T.step t).getD l []) t
theorem Thg.run_cons (T : Thg) (t : List Nat) (l : Nat) (row : List Nat) : T.run t (l :: row) = T.run ((T.step t).getD l []) row := rfl
/-- found so far: fs; of the first at' all that comes is among them -/
structure Fnd (T : Thg) (G : List Nat → Prop) (first : List Nat) (fs : List (List Nat)) (at' : Nat) : Prop where
  nd : fs.Nodup
  hd : fs[0]? = some first
  good : ∀ t ∈ fs, G t
  le : at' ≤ fs.length
  clo : ∀ t ∈ fs.take at', ∀ u ∈ T.step t, u ∈ fs
theorem Fnd.start {T : Thg} {G : List Nat → Prop} {first : List Nat} (h : G first) : Fnd T G first [first] 0 :=
  ⟨by simp, rfl, fun t ht => by rw [List.mem_singleton.mp ht]; exact h, Nat.zero_le _, fun t ht => by simp at ht⟩
theorem news_hd {α : Type} [DecidableEq α] {acc xs : List α} {i : Nat} {x : α} (h : acc[i]? = some x) : (news acc xs)[i]? = some x := by
  obtain ⟨t, e⟩ := news_pre xs acc
  rw [e, List.getElem?_append_left (List.getElem?_eq_some_iff.mp h).1]; exact h
theorem Fnd.next {T : Thg} {G : List Nat → Prop} {first : List Nat} {fs : List (List Nat)} {at' : Nat} {t : List Nat} (h : Fnd T G first fs at') (e : fs[at']? = some t) (hg : ∀ u ∈ T.step t, G u) : Fnd T G first (news fs (T.step t)) (at' + 1) := by
  have hlt := (List.getElem?_eq_some_iff.mp e).1
  obtain ⟨tl, ep⟩ := news_pre (T.step t) fs
  refine ⟨news_nd _ _ h.nd, news_hd h.hd, fun u hu => ?_, by rw [ep, List.length_append]; omega, fun u hu v hv => ?_⟩
  · rcases (news_mem _ _ _).mp hu with z | z
    · exact h.good u z
    · exact hg u z
  · rw [ep, List.take_append_of_le_length (by omega), List.take_add_one, e, Option.toList_some] at hu
    rcases List.mem_append.mp hu with z | z
    · exact (news_mem _ _ _).mpr (.inl (h.clo u z v hv))
    · rw [List.mem_singleton.mp z] at hv
      exact (news_mem _ _ _).mpr (.inr hv)
section
variable {T : Thg} {G : List Nat → Prop} {first : List Nat} {fs : List (List Nat)}
end
theorem news_snoc' {α : Type} [DecidableEq α] (acc xs : List α) (x : α) : news acc (xs ++ [x]) = nxt (news acc xs) x := news_snoc xs acc x
theorem news_takeA {α : Type} [DecidableEq α] {acc xs : List α} {i : Nat} {x : α} (h : xs[i]? = some x) : news acc (xs.take (i + 1)) = nxt (news acc (xs.take i)) x := by rw [List.take_add_one, h, Option.toList_some, news_snoc']
/-- a list without repeats whose members are of a list -/
theorem nodup_in {α : Type} [DecidableEq α] : ∀ {xs ys : List α}, xs.Nodup → (∀ x ∈ xs, x ∈ ys) → xs.length ≤ ys.length
  | [], _, _, _ => Nat.zero_le _
  | x :: xs, ys, hn, h => by
    rw [List.nodup_cons] at hn
    have hx := h x List.mem_cons_self
    have := nodup_in (ys := ys.erase x) hn.2 fun y hy => (List.mem_erase_of_ne (fun e => hn.1 (by rw [← e]; exact hy))).mpr (h y (List.mem_cons_of_mem _ hy))
    rw [List.length_erase_of_mem hx] at this
    have := List.length_pos_of_mem hx
    rw [List.length_cons]; omega
/-! ### pairs of rooms -/
section
variable {m1 m2 : Mc} {op : Bool → Bool → Bool}
end
end SM
namespace SM
/-! ### triples of rooms come to together: soundness alone -/
structure TSnd (m1 m2 m3 : Mc) (ls : List (List Nat)) : Prop where
  nd : ls.Nodup
  sound : ∀ x ∈ ls, ∃ row, m1.Row row ∧ x = [m1.run 0 row, m2.run 0 row, m3.run 0 row]
section
variable {m1 m2 m3 : Mc} {ls : List (List Nat)}
theorem TSnd.start (m1 m2 m3 : Mc) : TSnd m1 m2 m3 [[0, 0, 0]] := ⟨by simp, fun x hx => by rw [List.mem_singleton.mp hx]; exact ⟨[], Mc.Row.nil _, rfl⟩⟩
theorem TSnd.new {a b c l : Nat} (h : TSnd m1 m2 m3 ls) (hl : l < 2 ^ m1.w) (hm : [a, b, c] ∈ ls) (hk : ¬ [m1.go a l, m2.go b l, m3.go c l] ∈ ls) : TSnd m1 m2 m3 (ls ++ [[m1.go a l, m2.go b l, m3.go c l]]) := by
  refine ⟨List.nodup_append.mpr ⟨h.nd, by simp, fun x hx y hy e => ?_⟩, fun x hx => ?_⟩
  · rw [List.mem_singleton.mp hy] at e
    rw [e] at hx; exact hk hx
  · rcases List.mem_append.mp hx with z | z
    · exact h.sound x z
    · rw [List.mem_singleton.mp z]
      obtain ⟨row, h1, h2⟩ := h.sound _ hm
      rw [List.cons.injEq, List.cons.injEq, List.cons.injEq] at h2
      refine ⟨row ++ [l], fun z hz => ?_, by rw [Mc.run_snoc, Mc.run_snoc, Mc.run_snoc, ← h2.1, ← h2.2.1, ← h2.2.2.1]⟩
      rcases List.mem_append.mp hz with h | h
      · exact h1 z h
      · rw [List.mem_singleton.mp h]; exact hl
theorem TSnd.lt (o1 : m1.Ok) (o2 : m2.Ok) (o3 : m3.Ok) (hw : m1.w = m2.w) (hw' : m1.w = m3.w) (h : TSnd m1 m2 m3 ls) {x : List Nat} (hx : x ∈ ls) : ∃ a b c, x = [a, b, c] ∧ a < m1.n ∧ b < m2.n ∧ c < m3.n := by
  obtain ⟨row, h1, rfl⟩ := h.sound x hx
  exact ⟨_, _, _, rfl, o1.run_lt row 0 o1.pos h1, o2.run_lt row 0 o2.pos fun z hz => by rw [← hw]; exact h1 z hz, o3.run_lt row 0 o3.pos fun z hz => by rw [← hw']; exact h1 z hz⟩
def trip3 (a b c : Nat) : List (List Nat) := (List.range a).flatMap fun x => (List.range b).flatMap fun y => (List.range c).map fun z => [x, y, z]
theorem flat_len {α : Type} (f : Nat → List α) (k : Nat) (h : ∀ x, (f x).length = k) : ∀ n, ((List.range n).flatMap f).length = n * k
  | 0 => by simp
  | n + 1 => by rw [List.range_succ, List.flatMap_append, List.length_append, flat_len f k h n]; simp [h, Nat.succ_mul]
theorem TSnd.len (o1 : m1.Ok) (o2 : m2.Ok) (o3 : m3.Ok) (hw : m1.w = m2.w) (hw' : m1.w = m3.w) (h : TSnd m1 m2 m3 ls) : ls.length ≤ m1.n * (m2.n * m3.n) := by
  have e : (trip3 m1.n m2.n m3.n).length = m1.n * (m2.n * m3.n) := flat_len _ _ (fun x => flat_len _ _ (fun y => by rw [List.length_map, List.length_range]) _) _
  rw [← e]
  refine nodup_in h.nd fun x hx => ?_
  obtain ⟨a, b, c, rfl, ha, hb, hc⟩ := h.lt o1 o2 o3 hw hw' hx
  exact List.mem_flatMap.mpr ⟨a, List.mem_range.mpr ha, List.mem_flatMap.mpr ⟨b, List.mem_range.mpr hb, List.mem_map.mpr ⟨c, List.mem_range.mpr hc, rfl⟩⟩⟩
end
end SM

set_option Elab.async false
set_option linter.all false
set_option maxRecDepth 100000
/-! TREE MACHINES EXPLORED: what is known -/
namespace SM
open PySem PySem.Spec PyProof.Rows L2 SS
theorem TupS.wrK {H : Hp} {p : Addr} {kvs : List (Key × V)} (h : H p = some (.dK kvs)) (o : HO) : TupS H (upd H p o) := fun b ys e => by rw [upd_ne (ne_of e h (by intro z; cases z))]; exact e
theorem ups_len (n : Nat) : (ups n).length = 2 * n + 1 := by simp [ups]; omega
theorem alls_len : ∀ n, (alls n).length = n * n
  | 0 => by simp [alls]
  | n + 1 => by rw [alls_succ, List.length_append, alls_len n, ups_len, Nat.mul_add, Nat.add_mul]; omega
theorem TFnd.com {x : Tm} {fs : List Nat} {dn : List (Nat × Nat)} (f : TFnd x fs dn) {p : Nat × Nat} (hp : p ∈ dn) {r : Nat} (hr : r ∈ x.com (ix fs p.1) (ix fs p.2)) : r ∈ fs :=
  (congrArg (r ∈ ·) f.eq).mpr ((news_mem _ _ _).mpr (.inr (List.mem_flatMap.mpr ⟨p, hp, hr⟩)))
theorem KnT.ts {x : Tm} {fs : List Nat} {H H' : Hp} {dn : List (Nat × Nat)} {kvs : List (List Key × V)} (h : KnT x fs H dn kvs) (g : TupS H H') : KnT x fs H' dn kvs :=
  ⟨h.1, fun p hp => let ⟨v, e, l⟩ := h.2 p hp; ⟨v, e, l.ts g⟩⟩
theorem KnT.more {x : Tm} {fs fs' t : List Nat} {H : Hp} {dn : List (Nat × Nat)} {kvs : List (List Key × V)} (f : TFnd x fs dn) (h : KnT x fs H dn kvs) (e : fs' = fs ++ t) : KnT x fs' H dn kvs := by
  refine ⟨h.1, fun p hp => ?_⟩
  obtain ⟨v, e1, l⟩ := h.2 p hp
  obtain ⟨h1, h2⟩ := f.lt p hp
  refine ⟨v, e1, ?_⟩
  rw [e, ix_app h1, ix_app h2]
  have : (x.com (ix fs p.1) (ix fs p.2)).map (nOf (fs ++ t)) = (x.com (ix fs p.1) (ix fs p.2)).map (nOf fs) := List.map_congr_left fun r hr => idx_app (f.com hp hr)
  rw [this]; exact l
theorem pL_inj {p q : Nat × Nat} (h : keyL (pL p) = keyL (pL q)) : p = q := by
  have := keyL_inj _ _ h
  obtain ⟨a, b⟩ := p
  obtain ⟨c, d⟩ := q
  simp only [pL, List.cons.injEq, and_true] at this
  rw [this.1, this.2]
theorem KnT.put {x : Tm} {fs : List Nat} {H : Hp} {dn : List (Nat × Nat)} {kvs : List (List Key × V)} {p : Nat × Nat} {v : V} (h : KnT x fs H dn kvs) (hp : p ∉ dn) (l : Line H v ((x.com (ix fs p.1) (ix fs p.2)).map (nOf fs))) : KnT x fs H (dn ++ [p]) (putK kvs (keyL (pL p)) v) := by
  have hn : valV kvs (keyL (pL p)) = none := by
    cases hv : valV kvs (keyL (pL p)) with
    | none => rfl
    | some y =>
      have := valV_in hv
      rw [h.1] at this
      obtain ⟨q, hq, e⟩ := List.mem_map.mp this
      rw [pL_inj e] at hq
      exact absurd hq hp
  refine ⟨by rw [keys_new v hn, h.1, List.map_append]; rfl, fun q hq => ?_⟩
  rw [valV_put]
  by_cases e : keyL (pL q) = keyL (pL p)
  · rw [if_pos e]
    have := pL_inj e
    subst this
    exact ⟨v, rfl, l⟩
  · rw [if_neg e]
    rcases List.mem_append.mp hq with z | z
    · exact h.2 q z
    · rw [List.mem_singleton.mp z] at e
      exact absurd rfl e
theorem KnT.len {x : Tm} {fs : List Nat} {H : Hp} {dn : List (Nat × Nat)} {kvs : List (List Key × V)} (h : KnT x fs H dn kvs) : kvs.length = dn.length := by
  have := congrArg List.length h.1
  rwa [List.length_map, List.length_map] at this
theorem ups_fresh {k j : Nat} {p : Nat × Nat} (h : (ups k)[j]? = some p) : p ∉ alls k ++ (ups k).take j := fun z => by
  have hj := (List.getElem?_eq_some_iff.mp h).1
  have hs := alls_sorted (k + 1)
  have e : alls (k + 1) = (alls k ++ (ups k).take j) ++ (p :: (ups k).drop (j + 1)) := by
    have : (ups k) = (ups k).take j ++ (p :: (ups k).drop (j + 1)) := by
      rw [← (List.getElem?_eq_some_iff.mp h).2, List.getElem_cons_drop, List.take_append_drop]
    rw [alls_succ, List.append_assoc]
    exact congrArg (alls k ++ ·) this
  rw [e, List.pairwise_append] at hs
  have := hs.2.2 p z p List.mem_cons_self
  simp only [Lt3] at this
  omega
theorem com_len {x : Tm} {a b : Nat} : (x.com a b).length = 2 ^ x.w := by simp [Tm.com]
theorem com_getD {x : Tm} {fs : List Nat} {a b l : Nat} (hl : l < 2 ^ x.w) : ((x.com a b).map (nOf fs)).getD l 0 = nOf fs (x.go l a b) := by
  rw [List.getD_eq_getElem?_getD, List.getElem?_map, Tm.com, List.getElem?_map, List.getElem?_range hl]; rfl
def sp_tred (Pt : Addr) (qs : List (Pos × Str)) (Pr : Addr) (qr : List (Pos × Str)) : Sp := fun vs H Q _ => ∃ (a : Addr) (m : Tm), vs = [.ref a] ∧ TabOk H Pt qs ∧ TabOk H Pr qr ∧ RepT H a m ∧ m.Ok ∧ ∀ p m' H', Same H H' → RepT H' p m' → TRed m m' → Q (.ref p) H'
end SM

set_option Elab.async false
set_option linter.all false
set_option maxRecDepth 100000
/-! TREE MACHINES: compared, changed, walked by pairs -/
namespace SM
open PySem PySem.Spec PyProof.Rows L2 SS
section
variable {X : Cx} {H : Hp}
theorem rc_tabs {a b : Addr} {rs ts : List V} {tt : List (List (List Nat))} {k : Nat} (ha : H a = some (.tup rs)) (hb : H b = some (.tup ts)) (pa : Paired (Tab H) rs tt) (pb : Paired (Tab H) ts tt) : RcOk X (k + 3) H (.ref a) (.ref b) true := by
  have l1 := SS.Paired.len pa
  have l2 := SS.Paired.len pb
  have r := rcok_tups (X := X) (k := k + 2) (.of ha) (.of hb) (fun _ => true) fun j h1 h2 => by
    obtain ⟨x, ex, p, us, ep, hp, pp⟩ := SS.Paired.at pa (List.getElem?_eq_getElem h1)
    obtain ⟨y, ey, q, vs, eq, hq, pq⟩ := SS.Paired.at pb (List.getElem?_eq_getElem h2)
    rw [ex] at ey
    cases ey
    rw [ep, eq]
    exact eqok_of (rc_lines hp hq pp pq)
  rw [all_range_true, show (rs.length == ts.length) = true by simp; omega, Bool.true_and] at r
  exact r
end
/-- pairs come to together -/
structure PSn (R : Nat → Nat → Prop) (ls : List (List Nat)) : Prop where
  nd : ls.Nodup
  mem : ∀ x ∈ ls, ∃ a b, x = [a, b] ∧ R a b
theorem PSn.start {R : Nat → Nat → Prop} (h : R 0 0) : PSn R [[0, 0]] := ⟨by simp, fun x hx => ⟨0, 0, List.mem_singleton.mp hx, h⟩⟩
theorem PSn.new {R : Nat → Nat → Prop} {ls : List (List Nat)} (h : PSn R ls) {a b : Nat} (hr : R a b) (hn : [a, b] ∉ ls) : PSn R (ls ++ [[a, b]]) := by
  refine ⟨List.nodup_append.mpr ⟨h.nd, by simp, fun x hx y hy e => ?_⟩, fun x hx => ?_⟩
  · rw [List.mem_singleton.mp hy] at e
    rw [e] at hx; exact hn hx
  · rcases List.mem_append.mp hx with z | z
    · exact h.mem x z
    · exact ⟨a, b, List.mem_singleton.mp z, hr⟩
theorem PSn.len {m1 m2 : Tm} {R : Nat → Nat → Prop} {ls : List (List Nat)} (hB : Bis m1 m2 R) (h : PSn R ls) : ls.length ≤ m1.n * m2.n := by
  have e : ((List.range m1.n).flatMap fun x => (List.range m2.n).map fun y => [x, y]).length = m1.n * m2.n := flat_len _ _ (fun x => by rw [List.length_map, List.length_range]) _
  rw [← e]
  refine nodup_in h.nd fun x hx => ?_
  obtain ⟨a, b, rfl, hr⟩ := h.mem x hx
  obtain ⟨ha, hb⟩ := hB.lt a b hr
  exact List.mem_flatMap.mpr ⟨a, List.mem_range.mpr ha, List.mem_map.mpr ⟨b, List.mem_range.mpr hb, rfl⟩⟩
/-! one end, one way changed -/
end SM

set_option Elab.async false
set_option linter.all false
set_option maxRecDepth 100000
/-! TREE MACHINES REDUCED: least and one, the bare mathematics -/
namespace SM
section
variable {m : Tm} {fs : List Nat}
theorem TFnd.all (f : TFnd m fs (alls fs.length)) : ∀ {r : Nat}, Reach m r → r ∈ fs := fun {r} z => by
  induction z with
  | zero => exact List.mem_of_getElem? f.hd
  | go hl _ _ h1 h2 =>
    have a := ix_nOf h1
    have b := ix_nOf h2
    have := f.clo hl a.1 b.1
    rw [a.2, b.2] at this
    exact this
theorem xpl_min (c : TCan2 m) (f : TFnd m fs (alls fs.length)) : Min (xpl m fs) := fun E C i j hi hj hE => by
  rw [xpl_n] at hi hj
  have key := c.min (fun a b => ∃ i j, i < fs.length ∧ j < fs.length ∧ a = ix fs i ∧ b = ix fs j ∧ E i j) ⟨?_, ?_⟩ (ix fs i) (ix fs j) (f.rm _ (ix_mem hi)) (f.rm _ (ix_mem hj)) ⟨i, j, hi, hj, rfl, rfl, hE⟩
  · exact ix_inj f.nd hi hj key
  · rintro a b ⟨i, j, hi, hj, rfl, rfl, h⟩
    have := C.fin i j h
    rw [xpl_fin hi, xpl_fin hj] at this
    exact this
  · rintro a b l x ⟨i, j, hi, hj, rfl, rfl, h⟩ hl hx
    obtain ⟨hk, ek⟩ := ix_nOf (f.all (c.reach x hx))
    have z := C.go i j l (nOf fs x) h hl (by rw [xpl_n]; exact hk)
    rw [xpl_go hl hi hk, xpl_go hl hj hk, xpl_go hl hk hi, xpl_go hl hk hj, ek] at z
    have m1 := f.clo hl hi hk
    have m2 := f.clo hl hj hk
    have m3 := f.clo hl hk hi
    have m4 := f.clo hl hk hj
    rw [ek] at m1 m2 m3 m4
    exact ⟨⟨_, _, (ix_nOf m1).1, (ix_nOf m2).1, (ix_nOf m1).2.symm, (ix_nOf m2).2.symm, z.1⟩, ⟨_, _, (ix_nOf m3).1, (ix_nOf m4).1, (ix_nOf m3).2.symm, (ix_nOf m4).2.symm, z.2⟩⟩
theorem coming_range (c : TCan2 m) (f : TFnd m fs (alls fs.length)) : fs = List.range m.n := by
  have c2 : TCan2 (xpl m fs) := ⟨xpl_ok c.ok f, xpl_ord f, xpl_reach f, xpl_min c f⟩
  have idd : ∀ i, i < fs.length → ix fs i = i := fun i hi => bis_id2 (xpl_bis f) c c2 (ix fs i + 1) (ix fs i) i (by omega) ⟨hi, rfl⟩
  have hl : fs.length = m.n := by
    have h1 : fs.length ≤ m.n := nodup_le f.nd f.rm
    refine Nat.le_antisymm h1 (Nat.le_of_not_lt fun h => ?_)
    obtain ⟨hk, ek⟩ := ix_nOf (f.all (c.reach fs.length h))
    have := idd _ hk
    omega
  refine List.ext_getElem? fun i => ?_
  by_cases hi : i < fs.length
  · rw [List.getElem?_range (by omega), List.getElem?_eq_getElem hi]
    have := idd i hi
    rw [ix_of (List.getElem?_eq_getElem hi)] at this
    rw [this]
  · rw [List.getElem?_eq_none (by omega), List.getElem?_eq_none (by rw [List.length_range]; omega)]
end
/-! each room alone -/
/-- the first of each kind is its number -/
structure Led (n : Nat) (ns : List Nat) (E : Nat → Nat → Prop) : Prop where
  len : ns.length = n
  lt : ∀ i, i < n → ix ns i < n
  self : ∀ i, i < n → E (ix ns i) i
  eq : ∀ i j, i < n → j < n → (ix ns i = ix ns j ↔ E i j)
theorem Led.lead {n : Nat} {ns : List Nat} {E : Nat → Nat → Prop} (h : Led n ns E) {i : Nat} (hi : i < n) : ix ns (ix ns i) = ix ns i := (h.eq _ _ (h.lt i hi) hi).mpr (h.self i hi)
def leads (n : Nat) (ns : List Nat) : Nat := (List.range n).countP fun i => ix ns i == i
theorem countP_lt {p q : Nat → Bool} : ∀ {l : List Nat}, (∀ x ∈ l, p x = true → q x = true) → (∃ x ∈ l, q x = true ∧ p x = false) → l.countP p < l.countP q
  | [], _, ⟨x, hx, _⟩ => (nomatch hx)
  | y :: l, h, ⟨x, hx, h1, h2⟩ => by
    have hle : l.countP p ≤ l.countP q := List.countP_mono_left fun x hx => h x (List.mem_cons_of_mem _ hx)
    rw [List.countP_cons, List.countP_cons]
    rcases List.mem_cons.mp hx with rfl | hx
    · rw [h1, h2]; simp; omega
    · have ih := countP_lt (l := l) (fun x hx => h x (List.mem_cons_of_mem _ hx)) ⟨x, hx, h1, h2⟩
      have := h y List.mem_cons_self
      cases hp : p y <;> cases hq : q y <;> simp_all <;> omega
theorem leads_lt {n : Nat} {ns fs : List Nat} {E F : Nat → Nat → Prop} (a : Led n ns E) (b : Led n fs F) (up : ∀ i j, i < n → j < n → F i j → E i j) (fst : ∀ i j, i < n → j < n → E i j → ix ns i ≤ j) (ne : fs ≠ ns) (fst' : ∀ i j, i < n → j < n → F i j → ix fs i ≤ j) : leads n ns < leads n fs := by
  refine countP_lt (fun i hi hp => ?_) ?_
  · have hi' := List.mem_range.mp hi
    have e := beq_iff_eq.mp hp
    refine beq_iff_eq.mpr (Nat.le_antisymm (fst' i i hi' hi' ((b.eq i i hi' hi').mp rfl)) ?_)
    have h1 := b.lt i hi'
    have h2 := up _ _ h1 hi' (b.self i hi')
    have h3 := fst i (ix fs i) hi' h1 ((a.eq i _ hi' h1).mp ((a.eq _ i h1 hi').mpr h2).symm)
    omega
  · refine Classical.byContradiction fun hno => ne ?_
    have hall : ∀ i, i < n → ix fs i = i → ix ns i = i := fun i hi e => Classical.byContradiction fun h => hno ⟨i, List.mem_range.mpr hi, beq_iff_eq.mpr e, beq_eq_false_iff_ne.mpr h⟩
    refine List.ext_getElem? fun i => ?_
    by_cases hi : i < n
    · rw [List.getElem?_eq_getElem (by rw [b.len]; exact hi), List.getElem?_eq_getElem (by rw [a.len]; exact hi)]
      have h1 := b.lt i hi
      have h2 := hall _ h1 (b.lead hi)
      have h3 : ix ns (ix fs i) = ix ns i := (a.eq _ _ h1 hi).mpr (up _ _ h1 hi (b.self i hi))
      have h4 : ix fs i = ix ns i := by rw [← h3, h2]
      rw [ix_of (List.getElem?_eq_getElem (by rw [b.len]; exact hi)), ix_of (List.getElem?_eq_getElem (by rw [a.len]; exact hi))] at h4
      rw [h4]
    · rw [List.getElem?_eq_none (by rw [b.len]; omega), List.getElem?_eq_none (by rw [a.len]; omega)]
theorem leads_all {n : Nat} {ns : List Nat} (hl : ns.length = n) (h : n ≤ leads n ns) : ns = List.range n := by
  have h1 : leads n ns = (List.range n).length := Nat.le_antisymm List.countP_le_length (by rw [List.length_range]; exact h)
  have h2 := List.countP_eq_length.mp h1
  refine List.ext_getElem? fun i => ?_
  by_cases hi : i < n
  · have := beq_iff_eq.mp (h2 i (List.mem_range.mpr hi))
    rw [ix_of (List.getElem?_eq_getElem (by rw [hl]; exact hi))] at this
    rw [List.getElem?_range hi, List.getElem?_eq_getElem (by rw [hl]; exact hi), this]
  · rw [List.getElem?_eq_none (by omega), List.getElem?_eq_none (by rw [List.length_range]; omega)]
section
variable {M : Tm} {ns : List Nat}
def marksA (M : Tm) (ns : List Nat) : List (List Nat) := (List.range M.n).map (tmark M ns)
def nxA (M : Tm) (ns : List Nat) : List Nat := (marksA M ns).map fun x => (marksA M ns).idxOf x
theorem marksA_at {i : Nat} (h : i < M.n) : (marksA M ns)[i]? = some (tmark M ns i) := by rw [marksA, List.getElem?_map, List.getElem?_range h]; rfl
theorem nxA_at {i : Nat} (h : i < M.n) : ix (nxA M ns) i = (marksA M ns).idxOf (tmark M ns i) := ix_of (by rw [nxA, List.getElem?_map, marksA_at h]; rfl)
theorem idx_fst {α : Type} [BEq α] [LawfulBEq α] {l : List α} {x : α} {j : Nat} (h : l[j]? = some x) : l.idxOf x ≤ j ∧ l[l.idxOf x]? = some x := by
  have hm : x ∈ l := List.mem_of_getElem? h
  have hi := List.idxOf_lt_length_iff.mpr hm
  refine ⟨?_, by rw [List.getElem?_eq_getElem hi, List.getElem_idxOf hi]⟩
  clear hm hi
  induction l generalizing j with
  | nil => simp at h
  | cons y l ih =>
    rw [List.idxOf_cons]
    cases j with
    | zero => simp only [List.getElem?_cons_zero, Option.some.injEq] at h; simp [h]
    | succ j =>
      have := ih (j := j) (by simpa using h)
      cases hy : (y == x) <;> simp <;> omega
theorem nxA_led (ok : M.Ok) : Led M.n (nxA M ns) (fun i j => tmark M ns i = tmark M ns j) ∧ ∀ i j, i < M.n → j < M.n → tmark M ns i = tmark M ns j → ix (nxA M ns) i ≤ j := by
  have hml : (marksA M ns).length = M.n := by simp [marksA]
  have lt : ∀ i, i < M.n → ix (nxA M ns) i < M.n := fun i hi => by
    have := (List.getElem?_eq_some_iff.mp (idx_fst (marksA_at (ns := ns) hi)).2).1
    rw [nxA_at hi]; omega
  have self : ∀ i, i < M.n → tmark M ns (ix (nxA M ns) i) = tmark M ns i := fun i hi => by
    have h1 := (idx_fst (marksA_at (ns := ns) hi)).2
    rw [← nxA_at hi, marksA_at (lt i hi)] at h1
    exact Option.some.inj h1
  refine ⟨⟨by simp [nxA, marksA], lt, self, fun i j hi hj => ⟨fun e => ?_, fun e => ?_⟩⟩, fun i j hi hj e => ?_⟩
  · rw [← self i hi, ← self j hj, e]
  · rw [nxA_at hi, nxA_at hj, e]
  · rw [nxA_at hi]
    exact (idx_fst (by rw [e]; exact marksA_at hj)).1
/-- after so many turns -/
structure Aln (M : Tm) (r : Nat) (ns : List Nat) : Prop where
  len : ns.length = M.n
  fin : ∀ i j, i < M.n → j < M.n → ix ns i = ix ns j → M.fin i = M.fin j
  led : 0 < r → (∃ E, Led M.n ns E ∧ ∀ i j, i < M.n → j < M.n → E i j → ix ns i ≤ j) ∧ (r ≤ leads M.n ns ∨ ns = List.range M.n)
theorem ix_range {n i : Nat} (h : i < n) : ix (List.range n) i = i := ix_of (List.getElem?_range h)
theorem Aln.next (ok : M.Ok) (mi : Min M) {r : Nat} (a : Aln M r ns) : Aln M (r + 1) (nxA M ns) := by
  obtain ⟨L, fst⟩ := nxA_led (M := M) (ns := ns) ok
  have up : ∀ i j, i < M.n → j < M.n → tmark M ns i = tmark M ns j → ix ns i = ix ns j := fun i j hi hj e => ((tmark_eq ok hi hj).mp e).1
  refine ⟨L.len, fun i j hi hj e => a.fin i j hi hj (up i j hi hj ((L.eq i j hi hj).mp e)), fun _ => ⟨⟨_, L, fst⟩, ?_⟩⟩
  by_cases h0 : 0 < r
  · obtain ⟨⟨E, L0, fst0⟩, hr⟩ := a.led h0
    by_cases he : ns = List.range M.n
    · refine .inr ?_
      refine List.ext_getElem? fun i => ?_
      by_cases hi : i < M.n
      · have h1 := L.lt i hi
        have h2 := up _ _ h1 hi (L.self i hi)
        have h3 : ∀ k, k < M.n → ix ns k = k := fun k hk => by rw [he]; exact ix_range hk
        rw [h3 _ h1, h3 _ hi] at h2
        rw [List.getElem?_range hi, List.getElem?_eq_getElem (by rw [L.len]; exact hi)]
        rw [ix_of (List.getElem?_eq_getElem (by rw [L.len]; exact hi))] at h2
        rw [h2]
      · rw [List.getElem?_eq_none (by rw [L.len]; omega), List.getElem?_eq_none (by rw [List.length_range]; omega)]
    · by_cases hs : nxA M ns = ns
      · refine absurd ?_ he
        have hm := mi (fun i j => i < M.n ∧ j < M.n ∧ ix ns i = ix ns j) ⟨fun i j ⟨hi, hj, e⟩ => a.fin i j hi hj e, fun i j l x ⟨hi, hj, e⟩ hl hx => ?_⟩
        · refine List.ext_getElem? fun i => ?_
          by_cases hi : i < M.n
          · have h2 := hm _ i (L0.lt i hi) hi ⟨L0.lt i hi, hi, L0.lead hi⟩
            rw [List.getElem?_range hi, List.getElem?_eq_getElem (by rw [a.len]; exact hi)]
            rw [ix_of (List.getElem?_eq_getElem (by rw [a.len]; exact hi))] at h2
            rw [h2]
          · rw [List.getElem?_eq_none (by rw [a.len]; omega), List.getElem?_eq_none (by rw [List.length_range]; omega)]
        · have e2 : tmark M ns i = tmark M ns j := (L.eq i j hi hj).mp (by rw [hs]; exact e)
          have z := ((tmark_eq ok hi hj).mp e2).2 l x hl hx
          exact ⟨⟨ok.go_lt hl hi hx, ok.go_lt hl hj hx, z.1⟩, ⟨ok.go_lt hl hx hi, ok.go_lt hl hx hj, z.2⟩⟩
      · have := leads_lt L0 L (fun i j hi hj e => (L0.eq i j hi hj).mp (up i j hi hj e)) fst0 hs fst
        rcases hr with hr | hr
        · exact .inl (by omega)
        · exact absurd hr he
  · have : r = 0 := by omega
    subst this
    refine .inl (List.countP_pos_iff.mpr ⟨0, List.mem_range.mpr ok.pos, beq_iff_eq.mpr ?_⟩)
    have := fst 0 0 ok.pos ok.pos rfl
    omega
theorem Aln.done (ok : M.Ok) (a : Aln M M.n ns) : ns = List.range M.n := by
  obtain ⟨_, h⟩ := a.led ok.pos
  rcases h with h | h
  · exact leads_all a.len h
  · exact h
theorem Aln.start : Aln M 0 (M.ends.map fun b => if b then 1 else 0) := by
  refine ⟨List.length_map _, fun i j hi hj e => ?_, fun h => absurd h (by omega)⟩
  have h1 : ∀ k, k < M.n → ix (M.ends.map fun b => if b then 1 else 0) k = if M.fin k then 1 else 0 := fun k hk => ix_of (by rw [List.getElem?_map, Tm.fin_at hk]; rfl)
  rw [h1 i hi, h1 j hj] at e
  cases ha : M.fin i <;> cases hb : M.fin j <;> simp [ha, hb] at e ⊢
end
section
variable {M : Tm} {ns : List Nat}
/-- the mark, letter by letter -/
def tmg (M : Tm) (ns : List Nat) (i L : Nat) : List Nat := ix ns i :: (List.range L).flatMap fun l => ((List.range M.n).map fun o => ix ns (M.go l i o)) ++ (List.range M.n).map fun o => ix ns (M.go l o i)
theorem tmg_succ {i L : Nat} : tmg M ns i (L + 1) = tmg M ns i L ++ (((List.range M.n).map fun o => ix ns (M.go L i o)) ++ (List.range M.n).map fun o => ix ns (M.go L o i)) := by
  unfold tmg
  rw [List.range_succ, List.flatMap_append, List.cons_append]
  simp
theorem tmark_go (ok : M.Ok) {i : Nat} (hi : i < M.n) : tmark M ns i = tmg M ns i (2 ^ M.w) := by
  have ln : ∀ t ∈ M.ways, (t.getD i []).length = M.n := fun t ht => by
    have h1 : i < t.length := by rw [ok.tab t ht]; exact hi
    rw [List.getD_eq_getElem?_getD, List.getElem?_eq_getElem h1]
    exact ok.line t ht _ (List.getElem_mem h1)
  have e : M.ways = (List.range (2 ^ M.w)).map fun l => M.ways.getD l [] := by
    refine List.ext_getElem? fun l => ?_
    rw [List.getElem?_map]
    by_cases hl : l < 2 ^ M.w
    · have hl' : l < M.ways.length := by rw [ok.len]; exact hl
      rw [List.getElem?_range hl, List.getElem?_eq_getElem hl']
      show _ = some (M.ways.getD l [])
      rw [List.getD_eq_getElem?_getD, List.getElem?_eq_getElem hl']; rfl
    · rw [List.getElem?_eq_none (by rw [ok.len]; omega), List.getElem?_eq_none (by rw [List.length_range]; omega)]; rfl
  unfold tmark tmg
  congr 1
  conv => lhs; rw [e]
  rw [List.flatMap_map]
  refine flat_congr fun l hl => ?_
  have hl1 := List.mem_range.mp hl
  have hl' : l < M.ways.length := by rw [ok.len]; exact hl1
  have ew := List.getElem?_eq_getElem hl'
  have eD : M.ways.getD l [] = M.ways[l] := by rw [List.getD_eq_getElem?_getD, ew]; rfl
  rw [eD]
  have ht := List.getElem_mem hl'
  generalize M.ways[l] = t at ew ht
  congr 1
  · refine List.ext_getElem? fun o => ?_
    rw [List.getElem?_map, List.getElem?_map]
    by_cases ho : o < M.n
    · rw [(tab_go ok ew hl1 hi ho).1, List.getElem?_range ho]; rfl
    · rw [List.getElem?_eq_none (by rw [ln t ht]; omega), List.getElem?_eq_none (by rw [List.length_range]; omega)]; rfl
  · refine List.ext_getElem? fun o => ?_
    rw [List.getElem?_map, List.getElem?_map]
    have htl : t.length = M.n := ok.tab t ht
    by_cases ho : o < M.n
    · have z := (tab_go ok ew hl1 hi ho).2
      have ho' : o < t.length := by omega
      rw [List.getElem?_eq_getElem ho'] at z ⊢
      rw [List.getElem?_range ho]
      have z' : t[o].getD i 0 = M.go l o i := Option.some.inj z
      show some (ix ns (t[o].getD i 0)) = some (ix ns (M.go l o i))
      rw [z']
    · rw [List.getElem?_eq_none (by omega), List.getElem?_eq_none (by rw [List.length_range]; omega)]; rfl
end
/-! each room twice -/
structure Twc (m : Tm) (ps : List Nat) (N : Nat) (tabs : List (List (List Nat))) (bs : List Bool) : Prop where
  len : tabs.length = 2 ^ m.w
  blen : bs.length = N
  tab : ∀ (l : Nat) t, tabs[l]? = some t → t.length = N ∧ ∀ (i : Nat) r, t[i]? = some r → r.length = N ∧ ∀ (j x : Nat), r[j]? = some x → x < 2 * m.n ∧ (i < 2 * m.n → j < 2 * m.n → ix ps x % m.n = m.go l (ix ps i % m.n) (ix ps j % m.n))
  fin : ∀ i, i < 2 * m.n → bs[i]? = some (m.fin (ix ps i % m.n))
theorem Twc.ok {m : Tm} {ps : List Nat} {N : Nat} {tabs : List (List (List Nat))} {bs : List Bool} (ok : m.Ok) (t : Twc m ps N tabs bs) (h1 : 2 * m.n ≤ N) (h2 : N ≤ 30) : Tm.Ok ⟨m.w, tabs, bs⟩ := by
  have hp : 0 < m.n := ok.pos
  have hl : (⟨m.w, tabs, bs⟩ : Tm).ends.length = N := t.blen
  refine ⟨ok.wid, by rw [hl]; omega, by rw [hl]; exact h2, t.len, fun u hu => ?_, fun u hu r hr => ?_, fun u hu r hr x hx => ?_⟩ <;> rw [hl] <;> obtain ⟨l, hl1, hl2⟩ := List.getElem_of_mem hu <;> have tl := t.tab l u (List.getElem?_eq_some_iff.mpr ⟨hl1, hl2⟩)
  · exact tl.1
  · obtain ⟨i, hi1, hi2⟩ := List.getElem_of_mem hr
    exact (tl.2 i r (List.getElem?_eq_some_iff.mpr ⟨hi1, hi2⟩)).1
  · obtain ⟨i, hi1, hi2⟩ := List.getElem_of_mem hr
    obtain ⟨j, hj1, hj2⟩ := List.getElem_of_mem hx
    have := ((tl.2 i r (List.getElem?_eq_some_iff.mpr ⟨hi1, hi2⟩)).2 j x (List.getElem?_eq_some_iff.mpr ⟨hj1, hj2⟩)).1
    omega
theorem Twc.bis {m : Tm} {ps : List Nat} {N : Nat} {tabs : List (List (List Nat))} {bs : List Bool} (ok : m.Ok) (t : Twc m ps N tabs bs) (pl : Places ps (2 * m.n)) (h1 : 2 * m.n ≤ N) (h2 : N ≤ 30) : Bis m ⟨m.w, tabs, bs⟩ fun a i => i < 2 * m.n ∧ a = ix ps i % m.n := by
  have hp : 0 < m.n := ok.pos
  have ok2 := t.ok ok h1 h2
  have hn : (⟨m.w, tabs, bs⟩ : Tm).n = N := t.blen
  refine ⟨rfl, ⟨by omega, by rw [pl.zero]; simp⟩, ?_, ?_, ?_⟩
  · rintro a i c j l ⟨hi, rfl⟩ ⟨hj, rfl⟩ hl
    obtain ⟨u, r, e1, e2, e3, _⟩ := ok2.at (l := l) (a := i) (b := j) hl (by rw [hn]; omega) (by rw [hn]; omega)
    have z := ((t.tab l u e1).2 i r e2).2 j _ e3
    exact ⟨z.1, (z.2 hi hj).symm⟩
  · rintro a i ⟨hi, rfl⟩
    have := t.fin i hi
    have e2 : bs[i]? = some ((⟨m.w, tabs, bs⟩ : Tm).fin i) := Tm.fin_at (m := ⟨m.w, tabs, bs⟩) (by show i < bs.length; rw [t.blen]; omega)
    rw [e2] at this
    exact (Option.some.inj this).symm
  · rintro a i ⟨hi, rfl⟩
    exact ⟨Nat.mod_lt _ hp, by rw [hn]; omega⟩
theorem Twc.of {m : Tm} {ps os : List Nat} {tabs : List (List (List Nat))} {bs : List Bool} (len : tabs.length = 2 ^ m.w) (blen : bs.length = os.length) (he : ∀ i, i < 2 * m.n → ix os i = ix ps i)
    (tab : ∀ (l : Nat) t, tabs[l]? = some t → t.length = os.length ∧ ∀ (i : Nat) r, t[i]? = some r → r.length = os.length ∧ ∀ (j x : Nat), r[j]? = some x → x < 2 * m.n ∧ ix ps x % m.n = m.go l (ix os i % m.n) (ix os j % m.n)) (fin : ∀ i, i < 2 * m.n → bs[i]? = some (m.fin (ix ps i % m.n))) : Twc m ps os.length tabs bs :=
  ⟨len, blen, fun l t e => ⟨(tab l t e).1, fun i r ei => ⟨((tab l t e).2 i r ei).1, fun j x ej => ⟨(((tab l t e).2 i r ei).2 j x ej).1, fun hi hj => by have z := (((tab l t e).2 i r ei).2 j x ej).2; rw [he i hi, he j hj] at z; exact z⟩⟩⟩, fin⟩
theorem snoc_at {α : Type} {xs : List α} {x y : α} {i : Nat} (h : (xs ++ [x])[i]? = some y) : xs[i]? = some y ∨ (i = xs.length ∧ y = x) := by
  by_cases hi : i < xs.length
  · rw [List.getElem?_append_left hi] at h; exact .inl h
  · rw [List.getElem?_append_right (by omega)] at h
    have h0 : i - xs.length = 0 := by
      have := (List.getElem?_eq_some_iff.mp h).1
      simp at this; omega
    rw [h0] at h
    simp at h
    exact .inr ⟨by omega, h.symm⟩
end SM

set_option Elab.async false
set_option linter.all false
set_option maxRecDepth 100000
/-! TREE MACHINES REDUCED: least and one, promises -/
namespace SM
open PySem PySem.Spec PyProof.Rows L2 SS
theorem ups_paired {H : Hp} {m : Nat} {ys1 ys2 : List V} (hl1 : ys1.length = m) (hl2 : ys2.length = m + 1) (h1 : ∀ (j : Nat) y, ys1[j]? = some y → Line H y [j, m]) (h2 : ∀ (j : Nat) y, ys2[j]? = some y → Line H y [m, j]) : Paired (Line H) (ys1 ++ ys2) ((ups m).map pL) := by
  refine paired_of (by simp [ups, hl1, hl2]) fun j x y e1 e2 => ?_
  unfold ups at e2
  by_cases hj : j < m
  · rw [List.getElem?_append_left (by omega)] at e1
    rw [List.map_append, List.getElem?_append_left (by simp; omega), List.map_map, List.getElem?_map, List.getElem?_range hj] at e2
    cases e2
    exact h1 j x e1
  · rw [List.getElem?_append_right (by omega)] at e1
    rw [List.map_append, List.getElem?_append_right (by simp; omega), List.map_map, List.getElem?_map] at e2
    simp only [List.length_map, List.length_range] at e2
    rw [hl1] at e1
    have hk : j - m < m + 1 := by have := (List.getElem?_eq_some_iff.mp e1).1; omega
    rw [List.getElem?_range hk] at e2
    cases e2
    exact h2 _ x e1
theorem map_nV_inj : ∀ (l m : List Nat), l.map nV = m.map nV → l = m
  | [], [], _ => rfl
  | [], _ :: _, h => by simp at h
  | _ :: _, [], h => by simp at h
  | x :: l, y :: m, h => by
    rw [List.map_cons, List.map_cons, List.cons.injEq] at h
    have e : x = y := by have := V.int.inj h.1; omega
    rw [e, map_nV_inj l m h.2]
theorem inV_nats (z : Nat) : ∀ l : List Nat, inV (nV z) (l.map nV) = decide (z ∈ l)
  | [] => by simp [inV]
  | y :: r => by
    have e : inV (nV z) ((y :: r).map nV) = (eqV (nV y) (nV z) || inV (nV z) (r.map nV)) := rfl
    have e2 : eqV (nV y) (nV z) = decide ((y : Int) = (z : Int)) := rfl
    rw [e, inV_nats z r, e2]
    by_cases h : z = y
    · simp [h]
    · have h1 : ¬ (y : Int) = (z : Int) := by omega
      simp [h, h1]
/-- two lines compared -/
theorem eq_line {X : Cx} {H : Hp} {a b : Addr} {l m : List Nat} {k : Nat} (ha : H a = some (.tup (l.map nV))) (hb : H b = some (.tup (m.map nV))) : EqOk X (k + 1) H (.ref a) (.ref b) (decide (l = m)) := by
  by_cases hab : a = b
  · subst hab
    have e : l = m := map_nV_inj _ _ (HO.tup.inj (Option.some.inj (ha.symm.trans hb)))
    rw [decide_eq_true e]; exact eqok_same
  · refine .of_rc hab ?_
    have r := rcok_tups (X := X) (k := k) (.of ha) (.of hb) (fun j => eqV (V.int (l.getD j 0 : Nat)) (V.int (m.getD j 0 : Nat))) fun j h1 h2 => by
      rw [List.length_map] at h1 h2
      have e1 : (l.map nV)[j]'(by rw [List.length_map]; exact h1) = V.int (l.getD j 0 : Nat) := by rw [List.getElem_map, List.getD_eq_getElem?_getD, List.getElem?_eq_getElem h1]; rfl
      have e2 : (m.map nV)[j]'(by rw [List.length_map]; exact h2) = V.int (m.getD j 0 : Nat) := by rw [List.getElem_map, List.getD_eq_getElem?_getD, List.getElem?_eq_getElem h2]; rfl
      rw [e1, e2]
      exact eqok_flat rfl rfl
    have eb : ((List.range (min (l.map nV).length (m.map nV).length)).all (fun j => eqV (V.int (l.getD j 0 : Nat)) (V.int (m.getD j 0 : Nat))) && (l.map nV).length == (m.map nV).length) = decide (l = m) := by
      rw [Bool.eq_iff_iff, Bool.and_eq_true, decide_eq_true_iff, List.all_eq_true, beq_iff_eq, List.length_map, List.length_map]
      constructor
      · rintro ⟨h1, h2⟩
        refine List.ext_getElem? fun j => ?_
        by_cases hj : j < l.length
        · have := h1 j (List.mem_range.mpr (by omega))
          simp only [eqV, decide_eq_true_eq] at this
          rw [List.getD_eq_getElem?_getD, List.getD_eq_getElem?_getD, List.getElem?_eq_getElem hj, List.getElem?_eq_getElem (show j < m.length by omega)] at this
          rw [List.getElem?_eq_getElem hj, List.getElem?_eq_getElem (show j < m.length by omega)]
          simp at this
          have e : l[j] = m[j] := by omega
          rw [e]
        · rw [List.getElem?_eq_none (by omega), List.getElem?_eq_none (by omega)]
      · rintro rfl
        exact ⟨fun j _ => by simp [eqV], rfl⟩
    rw [eb] at r
    exact r
theorem line_refs {H : Hp} : ∀ {rs : List V} {ls : List (List Nat)}, Paired (Line H) rs ls → ∃ as : List Addr, rs = as.map V.ref ∧ Paired (fun a l => H a = some (.tup (l.map nV))) as ls
  | _, _, .nil => ⟨[], rfl, .nil⟩
  | _, _, .cons ⟨a, e, h⟩ t => let ⟨as, e2, h2⟩ := line_refs t; ⟨a :: as, by rw [e, e2]; rfl, .cons h h2⟩
theorem ne_tm {X : Cx} {H : Hp} {a b : Addr} {m : Tm} (ha : RepT H a m) (hb : RepT H b m) : NeOk X 8 H (.ref a) (.ref b) false := by
  obtain ⟨b1, c1, rs, e1, e2, e3, e4⟩ := ha
  obtain ⟨b2, c2, ts, f1, f2, f3, f4⟩ := hb
  have r := neok_tups (X := X) (k := 7) (.of e1) (.of f1) (fun _ => true) fun j h1 h2 => by
    have hj : j = 0 ∨ j = 1 ∨ j = 2 := by simp only [List.length_cons, List.length_nil] at h1; omega
    rcases hj with rfl | rfl | rfl
    · have z := eqok_flat (X := X) (k := 7) (H := H) (x := V.int (m.w : Int)) (y := V.int (m.w : Int)) rfl rfl
      rw [show eqV (V.int (m.w : Int)) (V.int (m.w : Int)) = true by simp [eqV]] at z
      exact z
    · exact eqok_of (rc_tabs (k := 4) e2 f2 e3 f3)
    · exact eqok_of (rc_bools (k := 6) e4 f4)
  exact r
def sp_comingL : Sp := fun vs H Q _ => ∃ (a : Addr) (m : Tm), vs = [.ref a] ∧ RepT H a m ∧ m.Ok ∧ ∀ D fs H', H D = none → Same H H' → H' D = some (.lst (fs.map nV)) → TFnd m fs (alls fs.length) → Q (.ref D) H'
def sp_alone : Sp := fun vs H Q _ => ∃ (a : Addr) (m : Tm), vs = [.ref a] ∧ RepT H a m ∧ m.Ok ∧ Min m ∧ ∀ H', Same H H' → Q (.bl true) H'
def sp_order : Sp := fun vs H Q _ => ∃ (n : Nat) (x : Int), vs = [nV n, .int x] ∧ 1 ≤ n ∧ n ≤ 14 ∧ ∀ D ps H', H D = none → Same H H' → H' D = some (.lst (ps.map nV)) → Places ps (2 * n) → Q (.ref D) H'
def sp_twice : Sp := fun vs H Q _ => ∃ (a : Addr) (m : Tm) (x : Int) (mo : Nat), vs = [.ref a, .int x, nV mo] ∧ RepT H a m ∧ m.Ok ∧ m.n ≤ 10 ∧ mo ≤ 5 ∧ ∀ p o R H', Same H H' → RepT H' p o → o.Ok → Bis m o R → Q (.ref p) H'
end SM

set_option Elab.async false
set_option linter.all false
set_option maxRecDepth 100000
set_option maxHeartbeats 4000000
namespace K46
open PySem PySem.Spec PyProof.Rows L2 SS SM
def top (i : Nat) : Stmt := PySem.Challenge.pw_setsays_k46_tree_reduced_is_least_and_on.main.body.getD i (.Pass ⟨0, 0, 0, 0⟩)
structure Txt (mg : Str → Option Value) : Prop where
  b_isinstance : mg "isinstance" = none
  b_tuple : mg "tuple" = none
  b_int : mg "int" = none
  b_bool : mg "bool" = none
  b_len : mg "len" = none
  b_all : mg "all" = none
  b_list : mg "list" = none
  b_sum : mg "sum" = none
  b_max : mg "max" = none
  b_range : mg "range" = none
seal PE PT PW PA PS PSs
section
variable {P : Program} {w : World} {K : PySem.W.Frag} {mg : Str → Option Value} {base : Heap}
abbrev s_numbered : Stmt := top 5
theorem sc_numbered : FnScope ["marks", "numbers", "mark"] ["marks"] (defScope s_numbered) := ⟨rfl, rfl, rfl, by decide +kernel, rfl, by decide +kernel, by decide +kernel⟩
theorem ok_numbered (T : Txt mg) (d : Dfn K mg "numbered" s_numbered ["marks"]) : Cal P w K mg base 1 "numbered" ["marks"] sp_numbered := by
  refine d.cal sc_numbered (fun vs H Q E h => ?_) (fun f cdv A outer s H vs Q E hr h => ?_)
  · rcases h with ⟨a, bs, rfl, _⟩ | ⟨a, rs, ms, rfl, _⟩ <;> rfl
  have hu := hu_at hr 8 (by decide)
  rcases h with ⟨a, bs, rfl, ea, h100, q⟩ | ⟨a, rs, ms, rfl, ea, pr, h100, q⟩
  · refine ⟨_, (pss_cons (ps_set (i := 1) sc_numbered.nd rfl (Or.inr rfl) pe_dnewN) (pss_cons (ps_for PassesOwn.never rfl (pi_tupK K (pv 0)) (pg_name (i := 2) sc_numbered.nd (by rfl) (Or.inl (by rfl))) (pss_one (ps_if (pt_cmpR (op_notin_d hu) (pv 2) (pv 1) (by with_unfolding_all rfl)) (pss_one (ps_dputH hu (pv 1) (pv 2) (pe_cB call_lenDK (by rfl) T.b_len boot_len (pa_c (pv 1) pa_nil)) rfl)) pss_nil))) (pss_one (ps_ret (pe_lcomp ["mark"] [(1, "numbers")] (CompOk.of rfl (by rfl) (by rfl)) (by rfl) (pi_tupK K (pv 0)) (fun _ _ _ _ _ => (pg_name (i := 0) (show List.Nodup (["mark", "numbers"] : List Str) by decide +kernel) (by rfl) (Or.inl (by rfl)))) (fun _ _ _ _ _ => pf_nil) (fun _ _ _ _ _ => (pe_dgetH hu (pv 1) (pv 0) (fun _ _ => rfl)))))))), ?_⟩
    refine rd_st [some (.ref a), none, none] rfl ?_
    simp only [exists_eq', rEqI, rNeI, rInDc, rLenD, rLenT, rMaxL, rIndex, rCatTN, rCatTE, tDNewN, tDNewTN, rNeM, rRange2, rListRng, rRepN, rPopAt, rSetL, gSub, ipI, tDGet, sDPut, tLam, tCallA, tCallV, tDef, ipCatT, rRange1, rIndexD, rInD, rIxD, rLen, rAll, rSum, rListOf, rSlTN, tTupN, tLstN, rSlLN, rCatN, cxK, cxP, cxW, tSeq, tIfS, tTest, tB, tOp, tUn, tC, tAnd, tOr, tNot, tAndV, tOrV, tNotV, tIf, tNext, tBreak, tCont, tDrop, tRet, tRetN, gName, gNil, gCons, gTup, tAsg, tPar, tAug, rI, rI0, rU, rEq, rNe, tChain, tNil, tCons, tTup, tLst, tCall, tCB, tNoPart, tPart, tSl, rSlT, rSlL, rIxL, rIxT, rIn, tBM, tyV, rAppend, rExtend, rCat, rEqD, iList, iTup, iRng1, iRng2, tYes, tDisp, tPairs, rd_v0, rd_vS, rd_comp, rd_for, rd_ite_t, rd_ite_f, List.set_cons_zero, List.set_cons_succ, List.nil_append, List.cons_append, List.append_nil, V.int.injEq, V.bl.injEq, V.ref.injEq, V.ty.injEq, List.cons.injEq, and_true, true_and, exists_eq_left, exists_eq_left', exists_and_left, exists_eq, exists_const, if_true, if_false, ite_true, ite_false, rd_ii, rd_bb, Option.some.injEq, exists_eq_right, exists_eq_right', and_assoc, reduceCtorEq, false_and, and_false, false_or, or_false, exists_false]
    refine fun p H1 n1 => ⟨⟨_, .of (n1.g _ _ ea)⟩, fb_tup (K := K) (a := a) (xs := bs.map V.bl) (fun i σ H' => Same H H' ∧ (∃ v2, σ = [some (.ref a), some (.ref p), v2]) ∧ H' p = some (.dK (tabF keyB 0 (news [] (bs.take i))))) ⟨n1.g, ⟨none, rfl⟩, n1.at'⟩ (fun i σ H' _ z => .of (z.1 _ _ ea)) ?_ ?_⟩
    · rintro i y σ H' hy ⟨g, ⟨v2, rfl⟩, ep⟩
      rw [List.getElem?_map] at hy
      obtain ⟨x, ex, rfl⟩ := Option.map_eq_some_iff.mp hy
      have en := news_take ex
      have hnl := news_len (bs.take i) []
      rw [List.length_take, List.length_nil] at hnl
      simp only [exists_eq', rEqI, rNeI, rInDc, rLenD, rLenT, rMaxL, rIndex, rCatTN, rCatTE, tDNewN, tDNewTN, rNeM, rRange2, rListRng, rRepN, rPopAt, rSetL, gSub, ipI, tDGet, sDPut, tLam, tCallA, tCallV, tDef, ipCatT, rRange1, rIndexD, rInD, rIxD, rLen, rAll, rSum, rListOf, rSlTN, tTupN, tLstN, rSlLN, rCatN, cxK, cxP, cxW, tSeq, tIfS, tTest, tB, tOp, tUn, tC, tAnd, tOr, tNot, tAndV, tOrV, tNotV, tIf, tNext, tBreak, tCont, tDrop, tRet, tRetN, gName, gNil, gCons, gTup, tAsg, tPar, tAug, rI, rI0, rU, rEq, rNe, tChain, tNil, tCons, tTup, tLst, tCall, tCB, tNoPart, tPart, tSl, rSlT, rSlL, rIxL, rIxT, rIn, tBM, tyV, rAppend, rExtend, rCat, rEqD, iList, iTup, iRng1, iRng2, tYes, tDisp, tPairs, rd_v0, rd_vS, rd_comp, rd_for, rd_ite_t, rd_ite_f, List.set_cons_zero, List.set_cons_succ, List.nil_append, List.cons_append, List.append_nil, V.int.injEq, V.bl.injEq, V.ref.injEq, V.ty.injEq, List.cons.injEq, and_true, true_and, exists_eq_left, exists_eq_left', exists_and_left, exists_eq, exists_const, if_true, if_false, ite_true, ite_false, rd_ii, rd_bb, Option.some.injEq, exists_eq_right, exists_eq_right', and_assoc, reduceCtorEq, false_and, and_false, false_or, or_false, exists_false]
      refine ⟨_, DGet.b ep, ?_⟩
      by_cases hx : x ∈ news [] (bs.take i)
      · rw [show valV (tabF keyB 0 (news [] (bs.take i))) (.inl (blI x)) = _ from tabF_in keyB_inj hx]
        exact iteF ⟨g, by rw [en, nxt_in hx]; exact ep⟩
      · rw [show valV (tabF keyB 0 (news [] (bs.take i))) (.inl (blI x)) = _ from tabF_out keyB_inj hx]
        refine iteT ⟨_, ep, _, DPut.b ep (by rw [tabF_len]; exact small1000 (by omega)), g.wr n1.nil _, ?_⟩
        rw [upd_same, en, nxt_out hx]
        exact congrArg (fun z => some (HO.dK z)) (tabF_put keyB_inj hx)
    · rintro σ H' ⟨g, ⟨v2, rfl⟩, ep⟩
      rw [List.length_map, List.take_of_length_le (Nat.le_refl _)] at ep
      simp only [exists_eq', rEqI, rNeI, rInDc, rLenD, rLenT, rMaxL, rIndex, rCatTN, rCatTE, tDNewN, tDNewTN, rNeM, rRange2, rListRng, rRepN, rPopAt, rSetL, gSub, ipI, tDGet, sDPut, tLam, tCallA, tCallV, tDef, ipCatT, rRange1, rIndexD, rInD, rIxD, rLen, rAll, rSum, rListOf, rSlTN, tTupN, tLstN, rSlLN, rCatN, cxK, cxP, cxW, tSeq, tIfS, tTest, tB, tOp, tUn, tC, tAnd, tOr, tNot, tAndV, tOrV, tNotV, tIf, tNext, tBreak, tCont, tDrop, tRet, tRetN, gName, gNil, gCons, gTup, tAsg, tPar, tAug, rI, rI0, rU, rEq, rNe, tChain, tNil, tCons, tTup, tLst, tCall, tCB, tNoPart, tPart, tSl, rSlT, rSlL, rIxL, rIxT, rIn, tBM, tyV, rAppend, rExtend, rCat, rEqD, iList, iTup, iRng1, iRng2, tYes, tDisp, tPairs, rd_v0, rd_vS, rd_comp, rd_for, rd_ite_t, rd_ite_f, List.set_cons_zero, List.set_cons_succ, List.nil_append, List.cons_append, List.append_nil, V.int.injEq, V.bl.injEq, V.ref.injEq, V.ty.injEq, List.cons.injEq, and_true, true_and, exists_eq_left, exists_eq_left', exists_and_left, exists_eq, exists_const, if_true, if_false, ite_true, ite_false, rd_ii, rd_bb, Option.some.injEq, exists_eq_right, exists_eq_right', and_assoc, reduceCtorEq, false_and, and_false, false_or, or_false, exists_false]
      refine ⟨⟨_, .of (g _ _ ea)⟩, cm_tup (K := K) (a := a) (xs := bs.map V.bl) (fun σ => ∃ v, σ = [v, some (.ref p)]) (fun y => match y with | .bl x => nV (nOf (news [] bs) x) | v => v) (by rw [List.length_map]; omega) (.of (g _ _ ea)) ⟨_, rfl⟩ ?_ ?_⟩
      · rintro D i σ H2 x hi hm hx gg hD hD' ⟨v, rfl⟩
        obtain ⟨r, mr, rfl⟩ := List.mem_map.mp hm
        have tv : valV (tabF keyB 0 (news [] bs)) (.inl (blI r)) = _ := tabF_in keyB_inj ((news_mem bs [] r).mpr (.inr mr))
        have z := DGet.b (b := r) (gg _ _ ep)
        rw [tv] at z
        simp only [exists_eq', rEqI, rNeI, rInDc, rLenD, rLenT, rMaxL, rIndex, rCatTN, rCatTE, tDNewN, tDNewTN, rNeM, rRange2, rListRng, rRepN, rPopAt, rSetL, gSub, ipI, tDGet, sDPut, tLam, tCallA, tCallV, tDef, ipCatT, rRange1, rIndexD, rInD, rIxD, rLen, rAll, rSum, rListOf, rSlTN, tTupN, tLstN, rSlLN, rCatN, cxK, cxP, cxW, tSeq, tIfS, tTest, tB, tOp, tUn, tC, tAnd, tOr, tNot, tAndV, tOrV, tNotV, tIf, tNext, tBreak, tCont, tDrop, tRet, tRetN, gName, gNil, gCons, gTup, tAsg, tPar, tAug, rI, rI0, rU, rEq, rNe, tChain, tNil, tCons, tTup, tLst, tCall, tCB, tNoPart, tPart, tSl, rSlT, rSlL, rIxL, rIxT, rIn, tBM, tyV, rAppend, rExtend, rCat, rEqD, iList, iTup, iRng1, iRng2, tYes, tDisp, tPairs, rd_v0, rd_vS, rd_comp, rd_for, rd_ite_t, rd_ite_f, List.set_cons_zero, List.set_cons_succ, List.nil_append, List.cons_append, List.append_nil, V.int.injEq, V.bl.injEq, V.ref.injEq, V.ty.injEq, List.cons.injEq, and_true, true_and, exists_eq_left, exists_eq_left', exists_and_left, exists_eq, exists_const, if_true, if_false, ite_true, ite_false, rd_ii, rd_bb, Option.some.injEq, exists_eq_right, exists_eq_right', and_assoc, reduceCtorEq, false_and, and_false, false_or, or_false, exists_false]
        exact ⟨_, z, cm_step (by rw [List.length_map]; omega) hx hD hD' gg ⟨_, rfl⟩ rfl⟩
      intro D H3 hD g3 eD
      exact q D (bs.map (nOf (news [] bs))) H3 (g.free hD) (g.trans g3) (by rw [eD, List.map_map, List.map_map]; rfl) (num_of bs)
  · have hlr := SS.Paired.len pr
    refine ⟨_, (pss_cons (ps_set (i := 1) sc_numbered.nd rfl (Or.inr rfl) pe_dnewTN) (pss_cons (ps_for PassesOwn.never rfl (pi_listK K (pv 0)) (pg_name (i := 2) sc_numbered.nd (by rfl) (Or.inl (by rfl))) (pss_one (ps_if (pt_cmpR (op_notin_d hu) (pv 2) (pv 1) (by with_unfolding_all rfl)) (pss_one (ps_dputH hu (pv 1) (pv 2) (pe_cB call_lenT (by rfl) T.b_len boot_len (pa_c (pv 1) pa_nil)) rfl)) pss_nil))) (pss_one (ps_ret (pe_lcomp ["mark"] [(1, "numbers")] (CompOk.of rfl (by rfl) (by rfl)) (by rfl) (pi_listK K (pv 0)) (fun _ _ _ _ _ => (pg_name (i := 0) (show List.Nodup (["mark", "numbers"] : List Str) by decide +kernel) (by rfl) (Or.inl (by rfl)))) (fun _ _ _ _ _ => pf_nil) (fun _ _ _ _ _ => (pe_dgetH hu (pv 1) (pv 0) (fun _ _ => rfl)))))))), ?_⟩
    refine rd_st [some (.ref a), none, none] rfl ?_
    simp only [exists_eq', rEqI, rNeI, rInDc, rLenD, rLenT, rMaxL, rIndex, rCatTN, rCatTE, tDNewN, tDNewTN, rNeM, rRange2, rListRng, rRepN, rPopAt, rSetL, gSub, ipI, tDGet, sDPut, tLam, tCallA, tCallV, tDef, ipCatT, rRange1, rIndexD, rInD, rIxD, rLen, rAll, rSum, rListOf, rSlTN, tTupN, tLstN, rSlLN, rCatN, cxK, cxP, cxW, tSeq, tIfS, tTest, tB, tOp, tUn, tC, tAnd, tOr, tNot, tAndV, tOrV, tNotV, tIf, tNext, tBreak, tCont, tDrop, tRet, tRetN, gName, gNil, gCons, gTup, tAsg, tPar, tAug, rI, rI0, rU, rEq, rNe, tChain, tNil, tCons, tTup, tLst, tCall, tCB, tNoPart, tPart, tSl, rSlT, rSlL, rIxL, rIxT, rIn, tBM, tyV, rAppend, rExtend, rCat, rEqD, iList, iTup, iRng1, iRng2, tYes, tDisp, tPairs, rd_v0, rd_vS, rd_comp, rd_for, rd_ite_t, rd_ite_f, List.set_cons_zero, List.set_cons_succ, List.nil_append, List.cons_append, List.append_nil, V.int.injEq, V.bl.injEq, V.ref.injEq, V.ty.injEq, List.cons.injEq, and_true, true_and, exists_eq_left, exists_eq_left', exists_and_left, exists_eq, exists_const, if_true, if_false, ite_true, ite_false, rd_ii, rd_bb, Option.some.injEq, exists_eq_right, exists_eq_right', and_assoc, reduceCtorEq, false_and, and_false, false_or, or_false, exists_false]
    refine fun p H1 n1 => ⟨⟨_, .of (n1.g _ _ ea)⟩, fb_list (K := K) (a := a) (xs := rs) (fun i σ H' => Same H H' ∧ (∃ v2, σ = [some (.ref a), some (.ref p), v2]) ∧ H' p = some (.dT (tabF keyL 0 (news [] (ms.take i))))) ⟨n1.g, ⟨none, rfl⟩, n1.at'⟩ (fun i σ H' _ z => .of (z.1 _ _ ea)) ?_ ?_⟩
    · rintro i y σ H' hy ⟨g, ⟨v2, rfl⟩, ep⟩
      obtain ⟨x, ex, t, rfl, et⟩ := SS.Paired.at pr hy
      have en := news_take ex
      have hnl := news_len (ms.take i) []
      rw [List.length_take, List.length_nil] at hnl
      have et' : H' t = some (.tup ((keyL x).map kV)) := by rw [keyL_V]; exact g _ _ et
      simp only [exists_eq', rEqI, rNeI, rInDc, rLenD, rLenT, rMaxL, rIndex, rCatTN, rCatTE, tDNewN, tDNewTN, rNeM, rRange2, rListRng, rRepN, rPopAt, rSetL, gSub, ipI, tDGet, sDPut, tLam, tCallA, tCallV, tDef, ipCatT, rRange1, rIndexD, rInD, rIxD, rLen, rAll, rSum, rListOf, rSlTN, tTupN, tLstN, rSlLN, rCatN, cxK, cxP, cxW, tSeq, tIfS, tTest, tB, tOp, tUn, tC, tAnd, tOr, tNot, tAndV, tOrV, tNotV, tIf, tNext, tBreak, tCont, tDrop, tRet, tRetN, gName, gNil, gCons, gTup, tAsg, tPar, tAug, rI, rI0, rU, rEq, rNe, tChain, tNil, tCons, tTup, tLst, tCall, tCB, tNoPart, tPart, tSl, rSlT, rSlL, rIxL, rIxT, rIn, tBM, tyV, rAppend, rExtend, rCat, rEqD, iList, iTup, iRng1, iRng2, tYes, tDisp, tPairs, rd_v0, rd_vS, rd_comp, rd_for, rd_ite_t, rd_ite_f, List.set_cons_zero, List.set_cons_succ, List.nil_append, List.cons_append, List.append_nil, V.int.injEq, V.bl.injEq, V.ref.injEq, V.ty.injEq, List.cons.injEq, and_true, true_and, exists_eq_left, exists_eq_left', exists_and_left, exists_eq, exists_const, if_true, if_false, ite_true, ite_false, rd_ii, rd_bb, Option.some.injEq, exists_eq_right, exists_eq_right', and_assoc, reduceCtorEq, false_and, and_false, false_or, or_false, exists_false]
      refine ⟨_, DGet.t ep et', ?_⟩
      by_cases hx : x ∈ news [] (ms.take i)
      · rw [show valV (tabF keyL 0 (news [] (ms.take i))) (keyL x) = _ from tabF_in keyL_inj hx]
        exact iteF ⟨g, by rw [en, nxt_in hx]; exact ep⟩
      · rw [show valV (tabF keyL 0 (news [] (ms.take i))) (keyL x) = _ from tabF_out keyL_inj hx]
        refine iteT ⟨_, ep, _, DPut.t ep et' (by rw [tabF_len]; exact small1000 (by omega)), g.wr n1.nil _, ?_⟩
        rw [upd_same, en, nxt_out hx]
        exact congrArg (fun z => some (HO.dT z)) (tabF_put keyL_inj hx)
    · rintro σ H' ⟨g, ⟨v2, rfl⟩, ep⟩
      rw [List.take_of_length_le (by omega)] at ep
      simp only [exists_eq', rEqI, rNeI, rInDc, rLenD, rLenT, rMaxL, rIndex, rCatTN, rCatTE, tDNewN, tDNewTN, rNeM, rRange2, rListRng, rRepN, rPopAt, rSetL, gSub, ipI, tDGet, sDPut, tLam, tCallA, tCallV, tDef, ipCatT, rRange1, rIndexD, rInD, rIxD, rLen, rAll, rSum, rListOf, rSlTN, tTupN, tLstN, rSlLN, rCatN, cxK, cxP, cxW, tSeq, tIfS, tTest, tB, tOp, tUn, tC, tAnd, tOr, tNot, tAndV, tOrV, tNotV, tIf, tNext, tBreak, tCont, tDrop, tRet, tRetN, gName, gNil, gCons, gTup, tAsg, tPar, tAug, rI, rI0, rU, rEq, rNe, tChain, tNil, tCons, tTup, tLst, tCall, tCB, tNoPart, tPart, tSl, rSlT, rSlL, rIxL, rIxT, rIn, tBM, tyV, rAppend, rExtend, rCat, rEqD, iList, iTup, iRng1, iRng2, tYes, tDisp, tPairs, rd_v0, rd_vS, rd_comp, rd_for, rd_ite_t, rd_ite_f, List.set_cons_zero, List.set_cons_succ, List.nil_append, List.cons_append, List.append_nil, V.int.injEq, V.bl.injEq, V.ref.injEq, V.ty.injEq, List.cons.injEq, and_true, true_and, exists_eq_left, exists_eq_left', exists_and_left, exists_eq, exists_const, if_true, if_false, ite_true, ite_false, rd_ii, rd_bb, Option.some.injEq, exists_eq_right, exists_eq_right', and_assoc, reduceCtorEq, false_and, and_false, false_or, or_false, exists_false]
      refine ⟨⟨_, .of (g _ _ ea)⟩, ci_list (K := K) (a := a) (xs := rs) (fun σ => ∃ v, σ = [v, some (.ref p)]) (fun i => nV (nOf (news [] ms) (ms.getD i []))) (by omega) (.of (g _ _ ea)) ⟨_, rfl⟩ ?_ ?_⟩
      · rintro D i σ H2 x hi hx gg hD hD' ⟨v, rfl⟩
        obtain ⟨r, er, t, rfl, et⟩ := SS.Paired.at pr hx
        have tv : valV (tabF keyL 0 (news [] ms)) (keyL r) = _ := tabF_in keyL_inj ((news_mem ms [] r).mpr (.inr (List.mem_of_getElem? er)))
        have et' : H2 t = some (.tup ((keyL r).map kV)) := by rw [keyL_V]; exact gg _ _ (g _ _ et)
        have z := DGet.t (gg _ _ ep) et'
        rw [tv] at z
        simp only [exists_eq', rEqI, rNeI, rInDc, rLenD, rLenT, rMaxL, rIndex, rCatTN, rCatTE, tDNewN, tDNewTN, rNeM, rRange2, rListRng, rRepN, rPopAt, rSetL, gSub, ipI, tDGet, sDPut, tLam, tCallA, tCallV, tDef, ipCatT, rRange1, rIndexD, rInD, rIxD, rLen, rAll, rSum, rListOf, rSlTN, tTupN, tLstN, rSlLN, rCatN, cxK, cxP, cxW, tSeq, tIfS, tTest, tB, tOp, tUn, tC, tAnd, tOr, tNot, tAndV, tOrV, tNotV, tIf, tNext, tBreak, tCont, tDrop, tRet, tRetN, gName, gNil, gCons, gTup, tAsg, tPar, tAug, rI, rI0, rU, rEq, rNe, tChain, tNil, tCons, tTup, tLst, tCall, tCB, tNoPart, tPart, tSl, rSlT, rSlL, rIxL, rIxT, rIn, tBM, tyV, rAppend, rExtend, rCat, rEqD, iList, iTup, iRng1, iRng2, tYes, tDisp, tPairs, rd_v0, rd_vS, rd_comp, rd_for, rd_ite_t, rd_ite_f, List.set_cons_zero, List.set_cons_succ, List.nil_append, List.cons_append, List.append_nil, V.int.injEq, V.bl.injEq, V.ref.injEq, V.ty.injEq, List.cons.injEq, and_true, true_and, exists_eq_left, exists_eq_left', exists_and_left, exists_eq, exists_const, if_true, if_false, ite_true, ite_false, rd_ii, rd_bb, Option.some.injEq, exists_eq_right, exists_eq_right', and_assoc, reduceCtorEq, false_and, and_false, false_or, or_false, exists_false]
        refine ⟨_, z, cstep (small_line (by omega)) hi hD' (by simp) ⟨gg.wr hD _, ⟨_, rfl⟩, ?_⟩⟩
        rw [List.range_succ, List.map_append, List.map_singleton, List.getD_eq_getElem?_getD, er, Option.getD_some]
      intro D H3 hD g3 eD
      refine q D (ms.map (nOf (news [] ms))) H3 (g.free hD) (g.trans g3) ?_ (num_of ms)
      rw [eD, hlr]
      congr 2
      refine List.ext_getElem (by simp) fun i h1 h2 => ?_
      simp only [List.length_map, List.length_range] at h1
      simp [List.getD_eq_getElem?_getD, List.getElem?_eq_getElem h1]
abbrev s_sorts_by : Stmt := top 6
theorem sc_sorts_by : FnScope ["ends", "part_further", "sorts", "finer"] ["ends", "part_further"] (defScope s_sorts_by) := ⟨rfl, rfl, rfl, by decide +kernel, rfl, by decide +kernel, by decide +kernel⟩
theorem ok_sortsbyT (T : Txt mg) (d : Dfn K mg "sorts_by" s_sorts_by ["ends", "part_further"]) (C_numbered : Cal P w K mg base 1 "numbered" ["marks"] sp_numbered) : Cal P w K mg base 5 "sorts_by" ["ends", "part_further"] (sp_sortsbyT P w K mg base) := by
  refine d.cal sc_sorts_by (fun vs H Q E h => ?_) (fun f cdv A outer s H vs Q E hr h => ?_)
  · obtain ⟨e, f, fd, bs, R, J, Nx, mu, rfl, _⟩ := h
    rfl
  obtain ⟨e, pf, fd, bs, R, J, Nx, mu, rfl, ee, hb, ef, cl, hR, hRs, hJ0, hJl, hnx, q⟩ := h
  have hu := hu_at hr 8 (by decide)
  refine ⟨_, (pss_cons (ps_set (i := 2) sc_sorts_by.nd rfl (Or.inl rfl) (pe_callC C_numbered hr (by omega) (by rfl) (pa_c (pv 0) pa_nil))) (pss_cons (ps_set (i := 3) sc_sorts_by.nd rfl (Or.inl rfl) (pe_callVK P w K mg base 1 4 1 (sp_part R J Nx) hr (by omega) (pa_c (pv 2) pa_nil))) (pss_cons (ps_while PassesOwn.never (pt_cmpR (op_neIK K hu) (pv 3) (pv 2) (nomark _)) (pss_cons (ps_set (i := 2) sc_sorts_by.nd rfl (Or.inl rfl) (pv 3)) (pss_one (ps_set (i := 3) sc_sorts_by.nd rfl (Or.inl rfl) (pe_callVK P w K mg base 1 4 1 (sp_part R J Nx) hr (by omega) (pa_c (pv 2) pa_nil)))))) (pss_one (ps_ret (pv 2)))))), ?_⟩
  refine rd_st [some (.ref e), some (.ref pf), none, none] rfl ?_
  simp only [exists_eq', rEqI, rNeI, rInDc, rLenD, rLenT, rMaxL, rIndex, rCatTN, rCatTE, tDNewN, tDNewTN, rNeM, rRange2, rListRng, rRepN, rPopAt, rSetL, gSub, ipI, tDGet, sDPut, tLam, tCallA, tCallV, tDef, ipCatT, rRange1, rIndexD, rInD, rIxD, rLen, rAll, rSum, rListOf, rSlTN, tTupN, tLstN, rSlLN, rCatN, cxK, cxP, cxW, tSeq, tIfS, tTest, tB, tOp, tUn, tC, tAnd, tOr, tNot, tAndV, tOrV, tNotV, tIf, tNext, tBreak, tCont, tDrop, tRet, tRetN, gName, gNil, gCons, gTup, tAsg, tPar, tAug, rI, rI0, rU, rEq, rNe, tChain, tNil, tCons, tTup, tLst, tCall, tCB, tNoPart, tPart, tSl, rSlT, rSlL, rIxL, rIxT, rIn, tBM, tyV, rAppend, rExtend, rCat, rEqD, iList, iTup, iRng1, iRng2, tYes, tDisp, tPairs, rd_v0, rd_vS, rd_comp, rd_for, rd_ite_t, rd_ite_f, List.set_cons_zero, List.set_cons_succ, List.nil_append, List.cons_append, List.append_nil, V.int.injEq, V.bl.injEq, V.ref.injEq, V.ty.injEq, List.cons.injEq, and_true, true_and, exists_eq_left, exists_eq_left', exists_and_left, exists_eq, exists_const, if_true, if_false, ite_true, ite_false, rd_ii, rd_bb, Option.some.injEq, exists_eq_right, exists_eq_right', and_assoc, reduceCtorEq, false_and, and_false, false_or, or_false, exists_false]
  refine .inl ⟨e, bs, rfl, ee, hb, fun D1 ns H1 hD1 g1 e1 N1 => ?_⟩
  refine ⟨pf, rfl, fd, g1 _ _ ef, g1 _ _ ef, cl.mono g1.frz, rfl, D1, ns, rfl, hRs _ _ g1 hR, e1, hJ0 ns N1, fun D2 fs H2 hD2 g2 e2 N2 => ?_⟩
  refine ⟨fun mm σ H' => ∃ (ns fs : List Nat) (D1 D2 : Addr), mm = mu ns ∧ Same H H' ∧ σ = [some (.ref e), some (.ref pf), some (.ref D1), some (.ref D2)] ∧ H' D1 = some (.lst (ns.map nV)) ∧ H' D2 = some (.lst (fs.map nV)) ∧ J ns ∧ Nx ns fs,
    ⟨_, ns, fs, D1, D2, rfl, g1.trans g2, rfl, g2 _ _ e1, e2, hJ0 ns N1, N2⟩, ?_⟩
  rintro mm σ H' ⟨ns, fs, D1, D2, rfl, g, rfl, e1, e2, S, N⟩
  obtain ⟨S', dn⟩ := hnx ns fs S N
  simp only [exists_eq', rEqI, rNeI, rInDc, rLenD, rLenT, rMaxL, rIndex, rCatTN, rCatTE, tDNewN, tDNewTN, rNeM, rRange2, rListRng, rRepN, rPopAt, rSetL, gSub, ipI, tDGet, sDPut, tLam, tCallA, tCallV, tDef, ipCatT, rRange1, rIndexD, rInD, rIxD, rLen, rAll, rSum, rListOf, rSlTN, tTupN, tLstN, rSlLN, rCatN, cxK, cxP, cxW, tSeq, tIfS, tTest, tB, tOp, tUn, tC, tAnd, tOr, tNot, tAndV, tOrV, tNotV, tIf, tNext, tBreak, tCont, tDrop, tRet, tRetN, gName, gNil, gCons, gTup, tAsg, tPar, tAug, rI, rI0, rU, rEq, rNe, tChain, tNil, tCons, tTup, tLst, tCall, tCB, tNoPart, tPart, tSl, rSlT, rSlL, rIxL, rIxT, rIn, tBM, tyV, rAppend, rExtend, rCat, rEqD, iList, iTup, iRng1, iRng2, tYes, tDisp, tPairs, rd_v0, rd_vS, rd_comp, rd_for, rd_ite_t, rd_ite_f, List.set_cons_zero, List.set_cons_succ, List.nil_append, List.cons_append, List.append_nil, V.int.injEq, V.bl.injEq, V.ref.injEq, V.ty.injEq, List.cons.injEq, and_true, true_and, exists_eq_left, exists_eq_left', exists_and_left, exists_eq, exists_const, if_true, if_false, ite_true, ite_false, rd_ii, rd_bb, Option.some.injEq, exists_eq_right, exists_eq_right', and_assoc, reduceCtorEq, false_and, and_false, false_or, or_false, exists_false]
  refine ⟨fs.map fun (n : Nat) => (n : Int), .of (by rw [← map_nV]; exact e2), ns.map fun (n : Nat) => (n : Int), .of (by rw [← map_nV]; exact e1), ?_⟩
  by_cases hn : fs = ns
  · rw [decide_eq_true (by rw [hn])]
    refine iteF ?_
    exact q D1 ns H' g e1 S (hn ▸ N)
  · rw [decide_eq_false (fun z => hn (map_cast_inj z))]
    refine iteT ⟨fun σ' H'' => ∃ m', m' < mu ns ∧ _, fun σ' H'' z => z, ?_⟩
    refine ⟨pf, rfl, fd, g _ _ ef, g _ _ ef, cl.mono g.frz, rfl, D2, fs, rfl, hRs _ _ g hR, e2, S', fun D3 fs' H3 hD3 g3 e3 N3 => ⟨mu fs, dn hn, fs, rfl, g.trans g3, fs', D2, D3, rfl, g3 _ _ e2, e3, S', N3⟩⟩
abbrev s_renamed : Stmt := top 4
theorem sc_renamed : FnScope ["rooms", "numbers"] ["rooms", "numbers"] (defScope s_renamed) := ⟨rfl, rfl, rfl, by decide +kernel, rfl, by decide +kernel, by decide +kernel⟩
theorem ok_renAll (T : Txt mg) (d : Dfn K mg "renamed" s_renamed ["rooms", "numbers"]) : Cal P w K mg base 1 "renamed" ["rooms", "numbers"] sp_renAll := by
  refine d.cal sc_renamed (fun vs H Q E h => ?_) (fun f cdv A outer s H vs Q E hr h => ?_)
  · rcases h with ⟨a, b, l, ns, g, rfl, _⟩ | ⟨a, b, l, ns, g, rfl, _⟩ | ⟨a, b, l, ns, g, rfl, _⟩ <;> rfl
  rcases h with h | h | h
  · obtain ⟨a, b, l, ns, g, rfl, ea, h100, eb, hv, q⟩ := h
    refine ⟨_, (pss_one (ps_ret (pe_cTy call_tuple_ofN (by rfl) T.b_tuple boot_tuple (pa_c (pe_lcomp ["room"] [(1, "numbers")] (CompOk.of rfl (by rfl) (by rfl)) (by rfl) (pi_tupK K (pv 0)) (fun _ _ _ _ _ => (pg_name (i := 0) (show List.Nodup (["room", "numbers"] : List Str) by decide +kernel) (by rfl) (Or.inl (by rfl)))) (fun _ _ _ _ _ => pf_nil) (fun _ _ _ _ _ => (pe_ix (ix_listK K) (pv 1) (pv 0) (fun _ _ => rfl)))) pa_nil)))), ?_⟩
    refine rd_st [some (.ref a), some (.ref b)] rfl ?_
    simp only [exists_eq', rEqI, rNeI, rInDc, rLenD, rLenT, rMaxL, rIndex, rCatTN, rCatTE, tDNewN, tDNewTN, rNeM, rRange2, rListRng, rRepN, rPopAt, rSetL, gSub, ipI, tDGet, sDPut, tLam, tCallA, tCallV, tDef, ipCatT, rRange1, rIndexD, rInD, rIxD, rLen, rAll, rSum, rListOf, rSlTN, tTupN, tLstN, rSlLN, rCatN, cxK, cxP, cxW, tSeq, tIfS, tTest, tB, tOp, tUn, tC, tAnd, tOr, tNot, tAndV, tOrV, tNotV, tIf, tNext, tBreak, tCont, tDrop, tRet, tRetN, gName, gNil, gCons, gTup, tAsg, tPar, tAug, rI, rI0, rU, rEq, rNe, tChain, tNil, tCons, tTup, tLst, tCall, tCB, tNoPart, tPart, tSl, rSlT, rSlL, rIxL, rIxT, rIn, tBM, tyV, rAppend, rExtend, rCat, rEqD, iList, iTup, iRng1, iRng2, tYes, tDisp, tPairs, rd_v0, rd_vS, rd_comp, rd_for, rd_ite_t, rd_ite_f, List.set_cons_zero, List.set_cons_succ, List.nil_append, List.cons_append, List.append_nil, V.int.injEq, V.bl.injEq, V.ref.injEq, V.ty.injEq, List.cons.injEq, and_true, true_and, exists_eq_left, exists_eq_left', exists_and_left, exists_eq, exists_const, if_true, if_false, ite_true, ite_false, rd_ii, rd_bb, Option.some.injEq, exists_eq_right, exists_eq_right', and_assoc, reduceCtorEq, false_and, and_false, false_or, or_false, exists_false]
    refine ⟨⟨_, .of ea⟩, cm_tup (K := K) (a := a) (xs := l.map nV) (fun σ => ∃ v, σ = [v, some (.ref b)]) (fun y => match y with | .int z => g z.toNat | v => v) (by rw [List.length_map]; omega) (.of ea) ⟨_, rfl⟩ ?_ ?_⟩
    · rintro D i σ H' x hi hm hx gg hD hD' ⟨v, rfl⟩
      obtain ⟨r, mr, rfl⟩ := List.mem_map.mp hm
      simp only [exists_eq', rEqI, rNeI, rInDc, rLenD, rLenT, rMaxL, rIndex, rCatTN, rCatTE, tDNewN, tDNewTN, rNeM, rRange2, rListRng, rRepN, rPopAt, rSetL, gSub, ipI, tDGet, sDPut, tLam, tCallA, tCallV, tDef, ipCatT, rRange1, rIndexD, rInD, rIxD, rLen, rAll, rSum, rListOf, rSlTN, tTupN, tLstN, rSlLN, rCatN, cxK, cxP, cxW, tSeq, tIfS, tTest, tB, tOp, tUn, tC, tAnd, tOr, tNot, tAndV, tOrV, tNotV, tIf, tNext, tBreak, tCont, tDrop, tRet, tRetN, gName, gNil, gCons, gTup, tAsg, tPar, tAug, rI, rI0, rU, rEq, rNe, tChain, tNil, tCons, tTup, tLst, tCall, tCB, tNoPart, tPart, tSl, rSlT, rSlL, rIxL, rIxT, rIn, tBM, tyV, rAppend, rExtend, rCat, rEqD, iList, iTup, iRng1, iRng2, tYes, tDisp, tPairs, rd_v0, rd_vS, rd_comp, rd_for, rd_ite_t, rd_ite_f, List.set_cons_zero, List.set_cons_succ, List.nil_append, List.cons_append, List.append_nil, V.int.injEq, V.bl.injEq, V.ref.injEq, V.ty.injEq, List.cons.injEq, and_true, true_and, exists_eq_left, exists_eq_left', exists_and_left, exists_eq, exists_const, if_true, if_false, ite_true, ite_false, rd_ii, rd_bb, Option.some.injEq, exists_eq_right, exists_eq_right', and_assoc, reduceCtorEq, false_and, and_false, false_or, or_false, exists_false]
      exact ⟨_, .of (gg _ _ eb), _, atI_nat (hv r mr), cm_step (by rw [List.length_map]; omega) hx hD hD' gg ⟨_, rfl⟩ rfl⟩
    intro D H1 hD g1 eD
    have eD' : H1 D = some (.lst (l.map g)) := by rw [eD, List.map_map]; rfl
    exact ⟨_, rfl, _, .inl ⟨.of eD', fun t H2 n2 => q t H2 (g1.trans n2.g) n2.at'⟩⟩
  · obtain ⟨a, b, l, ns, g, rfl, ea, h100, eb, hv, q⟩ := h
    refine ⟨_, (pss_one (ps_ret (pe_cTy call_tuple_ofN (by rfl) T.b_tuple boot_tuple (pa_c (pe_lcomp ["room"] [(1, "numbers")] (CompOk.of rfl (by rfl) (by rfl)) (by rfl) (pi_listK K (pv 0)) (fun _ _ _ _ _ => (pg_name (i := 0) (show List.Nodup (["room", "numbers"] : List Str) by decide +kernel) (by rfl) (Or.inl (by rfl)))) (fun _ _ _ _ _ => pf_nil) (fun _ _ _ _ _ => (pe_ix (ix_tupK K) (pv 1) (pv 0) (fun _ _ => rfl)))) pa_nil)))), ?_⟩
    refine rd_st [some (.ref a), some (.ref b)] rfl ?_
    simp only [exists_eq', rEqI, rNeI, rInDc, rLenD, rLenT, rMaxL, rIndex, rCatTN, rCatTE, tDNewN, tDNewTN, rNeM, rRange2, rListRng, rRepN, rPopAt, rSetL, gSub, ipI, tDGet, sDPut, tLam, tCallA, tCallV, tDef, ipCatT, rRange1, rIndexD, rInD, rIxD, rLen, rAll, rSum, rListOf, rSlTN, tTupN, tLstN, rSlLN, rCatN, cxK, cxP, cxW, tSeq, tIfS, tTest, tB, tOp, tUn, tC, tAnd, tOr, tNot, tAndV, tOrV, tNotV, tIf, tNext, tBreak, tCont, tDrop, tRet, tRetN, gName, gNil, gCons, gTup, tAsg, tPar, tAug, rI, rI0, rU, rEq, rNe, tChain, tNil, tCons, tTup, tLst, tCall, tCB, tNoPart, tPart, tSl, rSlT, rSlL, rIxL, rIxT, rIn, tBM, tyV, rAppend, rExtend, rCat, rEqD, iList, iTup, iRng1, iRng2, tYes, tDisp, tPairs, rd_v0, rd_vS, rd_comp, rd_for, rd_ite_t, rd_ite_f, List.set_cons_zero, List.set_cons_succ, List.nil_append, List.cons_append, List.append_nil, V.int.injEq, V.bl.injEq, V.ref.injEq, V.ty.injEq, List.cons.injEq, and_true, true_and, exists_eq_left, exists_eq_left', exists_and_left, exists_eq, exists_const, if_true, if_false, ite_true, ite_false, rd_ii, rd_bb, Option.some.injEq, exists_eq_right, exists_eq_right', and_assoc, reduceCtorEq, false_and, and_false, false_or, or_false, exists_false]
    refine ⟨⟨_, .of ea⟩, cm_list (K := K) (a := a) (xs := l.map nV) (fun σ => ∃ v, σ = [v, some (.ref b)]) (fun y => match y with | .int z => g z.toNat | v => v) (by rw [List.length_map]; omega) (.of ea) ⟨_, rfl⟩ ?_ ?_⟩
    · rintro D i σ H' x hi hm hx gg hD hD' ⟨v, rfl⟩
      obtain ⟨r, mr, rfl⟩ := List.mem_map.mp hm
      simp only [exists_eq', rEqI, rNeI, rInDc, rLenD, rLenT, rMaxL, rIndex, rCatTN, rCatTE, tDNewN, tDNewTN, rNeM, rRange2, rListRng, rRepN, rPopAt, rSetL, gSub, ipI, tDGet, sDPut, tLam, tCallA, tCallV, tDef, ipCatT, rRange1, rIndexD, rInD, rIxD, rLen, rAll, rSum, rListOf, rSlTN, tTupN, tLstN, rSlLN, rCatN, cxK, cxP, cxW, tSeq, tIfS, tTest, tB, tOp, tUn, tC, tAnd, tOr, tNot, tAndV, tOrV, tNotV, tIf, tNext, tBreak, tCont, tDrop, tRet, tRetN, gName, gNil, gCons, gTup, tAsg, tPar, tAug, rI, rI0, rU, rEq, rNe, tChain, tNil, tCons, tTup, tLst, tCall, tCB, tNoPart, tPart, tSl, rSlT, rSlL, rIxL, rIxT, rIn, tBM, tyV, rAppend, rExtend, rCat, rEqD, iList, iTup, iRng1, iRng2, tYes, tDisp, tPairs, rd_v0, rd_vS, rd_comp, rd_for, rd_ite_t, rd_ite_f, List.set_cons_zero, List.set_cons_succ, List.nil_append, List.cons_append, List.append_nil, V.int.injEq, V.bl.injEq, V.ref.injEq, V.ty.injEq, List.cons.injEq, and_true, true_and, exists_eq_left, exists_eq_left', exists_and_left, exists_eq, exists_const, if_true, if_false, ite_true, ite_false, rd_ii, rd_bb, Option.some.injEq, exists_eq_right, exists_eq_right', and_assoc, reduceCtorEq, false_and, and_false, false_or, or_false, exists_false]
      exact ⟨_, .of (gg _ _ eb), _, atI_nat (hv r mr), cm_step (by rw [List.length_map]; omega) hx hD hD' gg ⟨_, rfl⟩ rfl⟩
    intro D H1 hD g1 eD
    have eD' : H1 D = some (.lst (l.map g)) := by rw [eD, List.map_map]; rfl
    exact ⟨_, rfl, _, .inl ⟨.of eD', fun t H2 n2 => q t H2 (g1.trans n2.g) n2.at'⟩⟩
  · obtain ⟨a, b, l, kvs, g, rfl, ea, h100, eb, hv, q⟩ := h
    have hu := hu_at hr 8 (by decide)
    refine ⟨_, (pss_one (ps_ret (pe_cTy call_tuple_ofN (by rfl) T.b_tuple boot_tuple (pa_c (pe_lcomp ["room"] [(1, "numbers")] (CompOk.of rfl (by rfl) (by rfl)) (by rfl) (pi_listK K (pv 0)) (fun _ _ _ _ _ => (pg_name (i := 0) (show List.Nodup (["room", "numbers"] : List Str) by decide +kernel) (by rfl) (Or.inl (by rfl)))) (fun _ _ _ _ _ => pf_nil) (fun _ _ _ _ _ => (pe_dgetH hu (pv 1) (pv 0) (fun _ _ => rfl)))) pa_nil)))), ?_⟩
    refine rd_st [some (.ref a), some (.ref b)] rfl ?_
    simp only [exists_eq', rEqI, rNeI, rInDc, rLenD, rLenT, rMaxL, rIndex, rCatTN, rCatTE, tDNewN, tDNewTN, rNeM, rRange2, rListRng, rRepN, rPopAt, rSetL, gSub, ipI, tDGet, sDPut, tLam, tCallA, tCallV, tDef, ipCatT, rRange1, rIndexD, rInD, rIxD, rLen, rAll, rSum, rListOf, rSlTN, tTupN, tLstN, rSlLN, rCatN, cxK, cxP, cxW, tSeq, tIfS, tTest, tB, tOp, tUn, tC, tAnd, tOr, tNot, tAndV, tOrV, tNotV, tIf, tNext, tBreak, tCont, tDrop, tRet, tRetN, gName, gNil, gCons, gTup, tAsg, tPar, tAug, rI, rI0, rU, rEq, rNe, tChain, tNil, tCons, tTup, tLst, tCall, tCB, tNoPart, tPart, tSl, rSlT, rSlL, rIxL, rIxT, rIn, tBM, tyV, rAppend, rExtend, rCat, rEqD, iList, iTup, iRng1, iRng2, tYes, tDisp, tPairs, rd_v0, rd_vS, rd_comp, rd_for, rd_ite_t, rd_ite_f, List.set_cons_zero, List.set_cons_succ, List.nil_append, List.cons_append, List.append_nil, V.int.injEq, V.bl.injEq, V.ref.injEq, V.ty.injEq, List.cons.injEq, and_true, true_and, exists_eq_left, exists_eq_left', exists_and_left, exists_eq, exists_const, if_true, if_false, ite_true, ite_false, rd_ii, rd_bb, Option.some.injEq, exists_eq_right, exists_eq_right', and_assoc, reduceCtorEq, false_and, and_false, false_or, or_false, exists_false]
    refine ⟨⟨_, .of ea⟩, cm_list (K := K) (a := a) (xs := l.map nV) (fun σ => ∃ v, σ = [v, some (.ref b)]) (fun y => match y with | .int z => g z.toNat | v => v) (by rw [List.length_map]; omega) (.of ea) ⟨_, rfl⟩ ?_ ?_⟩
    · rintro D i σ H' x hi hm hx gg hD hD' ⟨v, rfl⟩
      obtain ⟨r, mr, rfl⟩ := List.mem_map.mp hm
      have z := DGet.n (n := (r : Int)) (gg _ _ eb)
      rw [hv r mr] at z
      simp only [exists_eq', rEqI, rNeI, rInDc, rLenD, rLenT, rMaxL, rIndex, rCatTN, rCatTE, tDNewN, tDNewTN, rNeM, rRange2, rListRng, rRepN, rPopAt, rSetL, gSub, ipI, tDGet, sDPut, tLam, tCallA, tCallV, tDef, ipCatT, rRange1, rIndexD, rInD, rIxD, rLen, rAll, rSum, rListOf, rSlTN, tTupN, tLstN, rSlLN, rCatN, cxK, cxP, cxW, tSeq, tIfS, tTest, tB, tOp, tUn, tC, tAnd, tOr, tNot, tAndV, tOrV, tNotV, tIf, tNext, tBreak, tCont, tDrop, tRet, tRetN, gName, gNil, gCons, gTup, tAsg, tPar, tAug, rI, rI0, rU, rEq, rNe, tChain, tNil, tCons, tTup, tLst, tCall, tCB, tNoPart, tPart, tSl, rSlT, rSlL, rIxL, rIxT, rIn, tBM, tyV, rAppend, rExtend, rCat, rEqD, iList, iTup, iRng1, iRng2, tYes, tDisp, tPairs, rd_v0, rd_vS, rd_comp, rd_for, rd_ite_t, rd_ite_f, List.set_cons_zero, List.set_cons_succ, List.nil_append, List.cons_append, List.append_nil, V.int.injEq, V.bl.injEq, V.ref.injEq, V.ty.injEq, List.cons.injEq, and_true, true_and, exists_eq_left, exists_eq_left', exists_and_left, exists_eq, exists_const, if_true, if_false, ite_true, ite_false, rd_ii, rd_bb, Option.some.injEq, exists_eq_right, exists_eq_right', and_assoc, reduceCtorEq, false_and, and_false, false_or, or_false, exists_false]
      exact ⟨_, z, cm_step (by rw [List.length_map]; omega) hx hD hD' gg ⟨_, rfl⟩ rfl⟩
    intro D H1 hD g1 eD
    have eD' : H1 D = some (.lst (l.map g)) := by rw [eD, List.map_map]; rfl
    exact ⟨_, rfl, _, .inl ⟨.of eD', fun t H2 n2 => q t H2 (g1.trans n2.g) n2.at'⟩⟩
abbrev s_pairs_up_to : Stmt := top 8
theorem sc_pairs_up_to : FnScope ["most"] ["most"] (defScope s_pairs_up_to) := ⟨rfl, rfl, rfl, by decide +kernel, rfl, by decide +kernel, by decide +kernel⟩
theorem ok_pairsup (T : Txt mg) (d : Dfn K mg "pairs_up_to" s_pairs_up_to ["most"]) : Cal P w K mg base 1 "pairs_up_to" ["most"] sp_pairsup := by
  refine d.cal sc_pairs_up_to (fun vs H Q E h => ?_) (fun f cdv A outer s H vs Q E hr h => ?_)
  · obtain ⟨m, rfl, _⟩ := h
    rfl
  obtain ⟨m, rfl, h30, q⟩ := h
  refine ⟨_, (pss_one (ps_ret (pe_op op_catN (pe_lcomp ["left"] [(0, "most")] (CompOk.of rfl (by rfl) (by rfl)) (by rfl) (pi_range1 (by rfl) T.b_range (pa_c (pv 0) pa_nil)) (fun _ _ _ _ _ => (pg_name (i := 0) (show List.Nodup (["left", "most"] : List Str) by decide +kernel) (by rfl) (Or.inl (by rfl)))) (fun _ _ _ _ _ => pf_nil) (fun _ _ _ _ _ => (pe_tupN (pa_c (pv 0) (pa_c (pv 1) pa_nil))))) (pe_lcomp ["right"] [(0, "most")] (CompOk.of rfl (by rfl) (by rfl)) (by rfl) (pi_range1 (by rfl) T.b_range (pa_c (pe_op op_add (pv 0) pe_int) pa_nil)) (fun _ _ _ _ _ => (pg_name (i := 0) (show List.Nodup (["right", "most"] : List Str) by decide +kernel) (by rfl) (Or.inl (by rfl)))) (fun _ _ _ _ _ => pf_nil) (fun _ _ _ _ _ => (pe_tupN (pa_c (pv 1) (pa_c (pv 0) pa_nil)))))))), ?_⟩
  refine rd_st [some (nV m)] rfl ?_
  simp only [exists_eq', rEqI, rNeI, rInDc, rLenD, rLenT, rMaxL, rIndex, rCatTN, rCatTE, tDNewN, tDNewTN, rNeM, rRange2, rListRng, rRepN, rPopAt, rSetL, gSub, ipI, tDGet, sDPut, tLam, tCallA, tCallV, tDef, ipCatT, rRange1, rIndexD, rInD, rIxD, rLen, rAll, rSum, rListOf, rSlTN, tTupN, tLstN, rSlLN, rCatN, cxK, cxP, cxW, tSeq, tIfS, tTest, tB, tOp, tUn, tC, tAnd, tOr, tNot, tAndV, tOrV, tNotV, tIf, tNext, tBreak, tCont, tDrop, tRet, tRetN, gName, gNil, gCons, gTup, tAsg, tPar, tAug, rI, rI0, rU, rEq, rNe, tChain, tNil, tCons, tTup, tLst, tCall, tCB, tNoPart, tPart, tSl, rSlT, rSlL, rIxL, rIxT, rIn, tBM, tyV, rAppend, rExtend, rCat, rEqD, iList, iTup, iRng1, iRng2, tYes, tDisp, tPairs, rd_v0, rd_vS, rd_comp, rd_for, rd_ite_t, rd_ite_f, List.set_cons_zero, List.set_cons_succ, List.nil_append, List.cons_append, List.append_nil, V.int.injEq, V.bl.injEq, V.ref.injEq, V.ty.injEq, List.cons.injEq, and_true, true_and, exists_eq_left, exists_eq_left', exists_and_left, exists_eq, exists_const, if_true, if_false, ite_true, ite_false, rd_ii, rd_bb, Option.some.injEq, exists_eq_right, exists_eq_right', and_assoc, reduceCtorEq, false_and, and_false, false_or, or_false, exists_false]
  refine ⟨by omega, by omega, ?_⟩
  rw [show ((m : Nat) : Int).toNat = m from rfl]
  refine cg_by (n := m) (fun σ => ∃ v, σ = [v, some (nV m)]) (fun j y H => Line H y [j, m]) (by omega) ⟨_, rfl⟩ (fun i H' hi gg => hi) (fun H' gg => Nat.le_refl _) ?_ ?_
  · rintro D i ys σ H1 x H1' hi gg hD hD' hl hy ⟨v, rfl⟩ ⟨rfl, rfl⟩
    simp only [exists_eq', rEqI, rNeI, rInDc, rLenD, rLenT, rMaxL, rIndex, rCatTN, rCatTE, tDNewN, tDNewTN, rNeM, rRange2, rListRng, rRepN, rPopAt, rSetL, gSub, ipI, tDGet, sDPut, tLam, tCallA, tCallV, tDef, ipCatT, rRange1, rIndexD, rInD, rIxD, rLen, rAll, rSum, rListOf, rSlTN, tTupN, tLstN, rSlLN, rCatN, cxK, cxP, cxW, tSeq, tIfS, tTest, tB, tOp, tUn, tC, tAnd, tOr, tNot, tAndV, tOrV, tNotV, tIf, tNext, tBreak, tCont, tDrop, tRet, tRetN, gName, gNil, gCons, gTup, tAsg, tPar, tAug, rI, rI0, rU, rEq, rNe, tChain, tNil, tCons, tTup, tLst, tCall, tCB, tNoPart, tPart, tSl, rSlT, rSlL, rIxL, rIxT, rIn, tBM, tyV, rAppend, rExtend, rCat, rEqD, iList, iTup, iRng1, iRng2, tYes, tDisp, tPairs, rd_v0, rd_vS, rd_comp, rd_for, rd_ite_t, rd_ite_f, List.set_cons_zero, List.set_cons_succ, List.nil_append, List.cons_append, List.append_nil, V.int.injEq, V.bl.injEq, V.ref.injEq, V.ty.injEq, List.cons.injEq, and_true, true_and, exists_eq_left, exists_eq_left', exists_and_left, exists_eq, exists_const, if_true, if_false, ite_true, ite_false, rd_ii, rd_bb, Option.some.injEq, exists_eq_right, exists_eq_right', and_assoc, reduceCtorEq, false_and, and_false, false_or, or_false, exists_false]
    refine ⟨small_line (by simp), fun t H3 n3 => cg_step (fun j y H H' ts z => z.ts ts) (by omega) hi hD (n3.g _ _ hD') hl hy n3.g.tups (gg.trans n3.g) ⟨_, rfl⟩ ⟨t, rfl, ?_⟩⟩
    rw [n3.at', Int.zero_add]; rfl
  intro D1 ys1 H1 hD1 g1 eD1 hl1 hy1
  refine ⟨by omega, by omega, ?_⟩
  rw [show ((m : Int) + 1).toNat = m + 1 by omega]
  refine cg_by (n := m + 1) (fun σ => ∃ v, σ = [v, some (nV m)]) (fun j y H => Line H y [m, j]) (by omega) ⟨_, rfl⟩ (fun i H' hi gg => hi) (fun H' gg => Nat.le_refl _) ?_ ?_
  · rintro D i ys σ H2 x H2' hi gg hD hD' hl hy ⟨v, rfl⟩ ⟨rfl, rfl⟩
    simp only [exists_eq', rEqI, rNeI, rInDc, rLenD, rLenT, rMaxL, rIndex, rCatTN, rCatTE, tDNewN, tDNewTN, rNeM, rRange2, rListRng, rRepN, rPopAt, rSetL, gSub, ipI, tDGet, sDPut, tLam, tCallA, tCallV, tDef, ipCatT, rRange1, rIndexD, rInD, rIxD, rLen, rAll, rSum, rListOf, rSlTN, tTupN, tLstN, rSlLN, rCatN, cxK, cxP, cxW, tSeq, tIfS, tTest, tB, tOp, tUn, tC, tAnd, tOr, tNot, tAndV, tOrV, tNotV, tIf, tNext, tBreak, tCont, tDrop, tRet, tRetN, gName, gNil, gCons, gTup, tAsg, tPar, tAug, rI, rI0, rU, rEq, rNe, tChain, tNil, tCons, tTup, tLst, tCall, tCB, tNoPart, tPart, tSl, rSlT, rSlL, rIxL, rIxT, rIn, tBM, tyV, rAppend, rExtend, rCat, rEqD, iList, iTup, iRng1, iRng2, tYes, tDisp, tPairs, rd_v0, rd_vS, rd_comp, rd_for, rd_ite_t, rd_ite_f, List.set_cons_zero, List.set_cons_succ, List.nil_append, List.cons_append, List.append_nil, V.int.injEq, V.bl.injEq, V.ref.injEq, V.ty.injEq, List.cons.injEq, and_true, true_and, exists_eq_left, exists_eq_left', exists_and_left, exists_eq, exists_const, if_true, if_false, ite_true, ite_false, rd_ii, rd_bb, Option.some.injEq, exists_eq_right, exists_eq_right', and_assoc, reduceCtorEq, false_and, and_false, false_or, or_false, exists_false]
    refine ⟨small_line (by simp), fun t H3 n3 => cg_step (fun j y H H' ts z => z.ts ts) (by omega) hi hD (n3.g _ _ hD') hl hy n3.g.tups (gg.trans n3.g) ⟨_, rfl⟩ ⟨t, rfl, ?_⟩⟩
    rw [n3.at', Int.zero_add]; rfl
  intro D2 ys2 H2 hD2 g2 eD2 hl2 hy2
  refine ⟨D1, rfl, D2, rfl, ys1, g2 _ _ eD1, ys2, eD2, small_line (by omega), fun p H3 n3 => q p (ys1 ++ ys2) H3 ((g1.trans g2).free n3.nil) (g1.trans (g2.trans n3.g)) n3.at' ?_⟩
  refine paired_of (by simp [ups, hl1, hl2]) fun j x y e1 e2 => ?_
  unfold ups at e2
  by_cases hj : j < m
  · rw [List.getElem?_append_left (by omega)] at e1
    rw [List.map_append, List.getElem?_append_left (by simp; omega), List.map_map, List.getElem?_map, List.getElem?_range hj] at e2
    cases e2
    exact (hy1 j x e1).ts (g2.trans n3.g).tups
  · rw [List.getElem?_append_right (by omega)] at e1
    rw [List.map_append, List.getElem?_append_right (by simp; omega), List.map_map, List.getElem?_map] at e2
    simp only [List.length_map, List.length_range] at e2
    rw [hl1] at e1
    have hk : j - m < m + 1 := by have := (List.getElem?_eq_some_iff.mp e1).1; omega
    rw [List.getElem?_range hk] at e2
    cases e2
    exact (hy2 _ x e1).ts n3.g.tups
abbrev s_tree_mark : Stmt := top 11
theorem sc_tree_mark : FnScope ["machine", "room", "sorts", "mark", "ways"] ["machine", "room", "sorts"] (defScope s_tree_mark) := ⟨rfl, rfl, rfl, by decide +kernel, rfl, by decide +kernel, by decide +kernel⟩
theorem ok_tmark (T : Txt mg) (d : Dfn K mg "tree_mark" s_tree_mark ["machine", "room", "sorts"]) (C_renamed : Cal P w K mg base 1 "renamed" ["rooms", "numbers"] sp_renAll) : Cal P w K mg base 2 "tree_mark" ["machine", "room", "sorts"] sp_tmark := by
  refine d.cal sc_tree_mark (fun vs H Q E h => ?_) (fun f cdv A outer s H vs Q E hr h => ?_)
  · obtain ⟨a, b, m, i, ns, rfl, _⟩ := h
    rfl
  obtain ⟨a, b, m, i, ns, rfl, rm, ok, hi, eb, hns, q⟩ := h
  obtain ⟨b1, c1, ts, ea, eb1, pr, ec⟩ := id rm
  have h30 : m.n ≤ 30 := ok.few
  have hps : 1 ≤ 2 ^ m.w ∧ 2 ^ m.w ≤ 16 := pow_small (by have := ok.wid; omega)
  refine ⟨_, (pss_cons (ps_set (i := 3) sc_tree_mark.nd rfl (Or.inl rfl) (pe_tupN (pa_c (pe_ix (ix_listK K) (pv 2) (pv 1) (fun _ _ => rfl)) pa_nil))) (pss_cons (ps_for PassesOwn.never rfl (pi_tupK K (pe_ix (ix_tupK K) (pv 0) pe_int (fun _ _ => rfl))) (pg_name (i := 4) sc_tree_mark.nd (by rfl) (Or.inl (by rfl))) (pss_one (ps_aug (i := 3) sc_tree_mark.nd rfl (Or.inl rfl) (pe_op (op_catTNK K) (pe_callC C_renamed hr (by omega) (by rfl) (pa_c (pe_ix (ix_tupK K) (pv 4) (pv 1) (fun _ _ => rfl)) (pa_c (pv 2) pa_nil))) (pe_cTy call_tuple_ofN (by rfl) T.b_tuple boot_tuple (pa_c (pe_lcomp ["rights"] [(2, "sorts"), (1, "room")] (CompOk.of rfl (by rfl) (by rfl)) (by rfl) (pi_tupK K (pv 4)) (fun _ _ _ _ _ => (pg_name (i := 0) (show List.Nodup (["rights", "sorts", "room"] : List Str) by decide +kernel) (by rfl) (Or.inl (by rfl)))) (fun _ _ _ _ _ => pf_nil) (fun _ _ _ _ _ => (pe_ix (ix_listK K) (pv 1) (pe_ix (ix_tupK K) (pv 0) (pv 2) (fun _ _ => rfl)) (fun _ _ => rfl)))) pa_nil))) (ip_catTK K)))) (pss_one (ps_ret (pv 3))))), ?_⟩
  refine rd_st [some (.ref a), some (nV i), some (.ref b), none, none] rfl ?_
  simp only [exists_eq', rEqI, rNeI, rInDc, rLenD, rLenT, rMaxL, rIndex, rCatTN, rCatTE, tDNewN, tDNewTN, rNeM, rRange2, rListRng, rRepN, rPopAt, rSetL, gSub, ipI, tDGet, sDPut, tLam, tCallA, tCallV, tDef, ipCatT, rRange1, rIndexD, rInD, rIxD, rLen, rAll, rSum, rListOf, rSlTN, tTupN, tLstN, rSlLN, rCatN, cxK, cxP, cxW, tSeq, tIfS, tTest, tB, tOp, tUn, tC, tAnd, tOr, tNot, tAndV, tOrV, tNotV, tIf, tNext, tBreak, tCont, tDrop, tRet, tRetN, gName, gNil, gCons, gTup, tAsg, tPar, tAug, rI, rI0, rU, rEq, rNe, tChain, tNil, tCons, tTup, tLst, tCall, tCB, tNoPart, tPart, tSl, rSlT, rSlL, rIxL, rIxT, rIn, tBM, tyV, rAppend, rExtend, rCat, rEqD, iList, iTup, iRng1, iRng2, tYes, tDisp, tPairs, rd_v0, rd_vS, rd_comp, rd_for, rd_ite_t, rd_ite_f, List.set_cons_zero, List.set_cons_succ, List.nil_append, List.cons_append, List.append_nil, V.int.injEq, V.bl.injEq, V.ref.injEq, V.ty.injEq, List.cons.injEq, and_true, true_and, exists_eq_left, exists_eq_left', exists_and_left, exists_eq, exists_const, if_true, if_false, ite_true, ite_false, rd_ii, rd_bb, Option.some.injEq, exists_eq_right, exists_eq_right', and_assoc, reduceCtorEq, false_and, and_false, false_or, or_false, exists_false]
  refine ⟨_, .of eb, _, atI_nat (by rw [List.getElem?_map, ix_at (by omega)]; rfl), small_line (by simp), fun p0 H0 n0 => ⟨_, .of (n0.g _ _ ea), _, atI_nat (j := 1) rfl, b1, rfl, ⟨_, .of (n0.g _ _ eb1)⟩, ?_⟩⟩
  refine fb_tup (K := K) (a := b1) (xs := ts) (fun j σ H' => Same H H' ∧ ∃ (p : Addr) (v4 : Option V), σ = [some (.ref a), some (nV i), some (.ref b), some (.ref p), v4] ∧ H' p = some (.tup ((ix ns i :: (m.ways.take j).flatMap fun t => (t.getD i []).map (ix ns) ++ t.map fun r => ix ns (r.getD i 0)).map nV))) ⟨n0.g, p0, none, rfl, n0.at'⟩ (fun j σ H' _ z => .of (z.1 _ _ eb1)) ?_ ?_
  · rintro j y σ H' hy ⟨g, p, v4, rfl, ep⟩
    have hj : j < m.ways.length := by rw [← SS.Paired.len pr]; exact (List.getElem?_eq_some_iff.mp hy).1
    have ew := List.getElem?_eq_getElem hj
    obtain ⟨v, ev, u, rs, rfl, eu, pu⟩ := Paired.at2 pr ew
    rw [ev] at hy
    cases hy
    have hwm := List.getElem_mem hj
    generalize m.ways[j] = t at ew pu hwm
    have htl : t.length = m.n := ok.tab t hwm
    have er : t[i]? = some t[i] := List.getElem?_eq_getElem (by omega)
    obtain ⟨v, evr, u2, rfl, eu2⟩ := Paired.at2 pu er
    have hi' : i < t.length := by omega
    have hri : t.getD i [] = t[i] := by rw [List.getD_eq_getElem?_getD, er]; rfl
    have hil : t[i].length = m.n := ok.line t hwm _ (List.getElem_mem hi')
    have hir : ∀ r ∈ t[i], r < m.n := ok.room t hwm _ (List.getElem_mem hi')
    have hrl : rs.length = m.n := by rw [SS.Paired.len pu, htl]
    simp only [exists_eq', rEqI, rNeI, rInDc, rLenD, rLenT, rMaxL, rIndex, rCatTN, rCatTE, tDNewN, tDNewTN, rNeM, rRange2, rListRng, rRepN, rPopAt, rSetL, gSub, ipI, tDGet, sDPut, tLam, tCallA, tCallV, tDef, ipCatT, rRange1, rIndexD, rInD, rIxD, rLen, rAll, rSum, rListOf, rSlTN, tTupN, tLstN, rSlLN, rCatN, cxK, cxP, cxW, tSeq, tIfS, tTest, tB, tOp, tUn, tC, tAnd, tOr, tNot, tAndV, tOrV, tNotV, tIf, tNext, tBreak, tCont, tDrop, tRet, tRetN, gName, gNil, gCons, gTup, tAsg, tPar, tAug, rI, rI0, rU, rEq, rNe, tChain, tNil, tCons, tTup, tLst, tCall, tCB, tNoPart, tPart, tSl, rSlT, rSlL, rIxL, rIxT, rIn, tBM, tyV, rAppend, rExtend, rCat, rEqD, iList, iTup, iRng1, iRng2, tYes, tDisp, tPairs, rd_v0, rd_vS, rd_comp, rd_for, rd_ite_t, rd_ite_f, List.set_cons_zero, List.set_cons_succ, List.nil_append, List.cons_append, List.append_nil, V.int.injEq, V.bl.injEq, V.ref.injEq, V.ty.injEq, List.cons.injEq, and_true, true_and, exists_eq_left, exists_eq_left', exists_and_left, exists_eq, exists_const, if_true, if_false, ite_true, ite_false, rd_ii, rd_bb, Option.some.injEq, exists_eq_right, exists_eq_right', and_assoc, reduceCtorEq, false_and, and_false, false_or, or_false, exists_false]
    refine ⟨_, rfl, _, .of (g _ _ eu), _, atI_nat evr, .inl ⟨u2, b, t[i], ns.map nV, (fun r => nV (ix ns r)), rfl, g _ _ eu2, by omega, g _ _ eb, (fun r hr => by rw [List.getElem?_map, ix_at (by have := hir r hr; omega)]; rfl), fun p1 H1 g1 e1 => ⟨⟨_, .of (g1 _ _ (g _ _ eu))⟩, ?_⟩⟩⟩
    have g01 := g.trans g1
    refine cg_by (n := m.n) (fun σ => ∃ v, σ = [v, some (.ref b), some (nV i)]) (fun k y H => y = nV (ix ns ((t.getD k []).getD i 0))) (by omega) ⟨_, rfl⟩ (fun k H2 hk gg => ⟨_, rs[k]'(by omega), .of (gg _ _ (g01 _ _ eu)), List.getElem?_eq_getElem _⟩) (fun H2 gg => ⟨_, .of (gg _ _ (g01 _ _ eu)), by omega⟩) ?_ ?_
    · rintro D k ys σ H2 x H2' hk gg hD hD' hl hy ⟨v, rfl⟩ ⟨rfl, yx⟩
      have ex := yx _ (.of (gg _ _ (g01 _ _ eu)))
      obtain ⟨row, erow, qa, rfl, eqa⟩ := SS.Paired.at pu ex
      have hrow := List.mem_of_getElem? erow
      have hrwl : row.length = m.n := ok.line t hwm row hrow
      have ei : row[i]? = some (row.getD i 0) := by rw [List.getD_eq_getElem?_getD, List.getElem?_eq_getElem (show i < row.length by omega)]; rfl
      have hri2 : row.getD i 0 < m.n := ok.room t hwm row hrow _ (List.mem_of_getElem? ei)
      have hgk : t.getD k [] = row := by rw [List.getD_eq_getElem?_getD, erow]; rfl
      have a1 : atI (row.map nV) ((i : Nat) : Int) = some (nV (row.getD i 0)) := atI_nat (by rw [List.getElem?_map, ei]; rfl)
      have a2 : atI (ns.map nV) ((row.getD i 0 : Nat) : Int) = some (nV (ix ns (row.getD i 0))) := atI_nat (by rw [List.getElem?_map, ix_at (by omega)]; rfl)
      simp only [exists_eq', rEqI, rNeI, rInDc, rLenD, rLenT, rMaxL, rIndex, rCatTN, rCatTE, tDNewN, tDNewTN, rNeM, rRange2, rListRng, rRepN, rPopAt, rSetL, gSub, ipI, tDGet, sDPut, tLam, tCallA, tCallV, tDef, ipCatT, rRange1, rIndexD, rInD, rIxD, rLen, rAll, rSum, rListOf, rSlTN, tTupN, tLstN, rSlLN, rCatN, cxK, cxP, cxW, tSeq, tIfS, tTest, tB, tOp, tUn, tC, tAnd, tOr, tNot, tAndV, tOrV, tNotV, tIf, tNext, tBreak, tCont, tDrop, tRet, tRetN, gName, gNil, gCons, gTup, tAsg, tPar, tAug, rI, rI0, rU, rEq, rNe, tChain, tNil, tCons, tTup, tLst, tCall, tCB, tNoPart, tPart, tSl, rSlT, rSlL, rIxL, rIxT, rIn, tBM, tyV, rAppend, rExtend, rCat, rEqD, iList, iTup, iRng1, iRng2, tYes, tDisp, tPairs, rd_v0, rd_vS, rd_comp, rd_for, rd_ite_t, rd_ite_f, List.set_cons_zero, List.set_cons_succ, List.nil_append, List.cons_append, List.append_nil, V.int.injEq, V.bl.injEq, V.ref.injEq, V.ty.injEq, List.cons.injEq, and_true, true_and, exists_eq_left, exists_eq_left', exists_and_left, exists_eq, exists_const, if_true, if_false, ite_true, ite_false, rd_ii, rd_bb, Option.some.injEq, exists_eq_right, exists_eq_right', and_assoc, reduceCtorEq, false_and, and_false, false_or, or_false, exists_false]
      exact ⟨_, .of ((g01.trans gg) _ _ eqa), _, a1, _, _, rfl, .of ((g01.trans gg) _ _ eb), _, a2, cg_step (fun j y H H' ts z => z) (by omega) hk hD hD' hl hy (Same.refl _).tups gg ⟨_, rfl⟩ (by rw [hgk])⟩
    intro D ys H2 hD g2 eD hl hy
    have eD' : H2 D = some (.lst ((t.map fun r => ix ns (r.getD i 0)).map nV)) := by
      rw [eD]
      congr 2
      refine List.ext_getElem? fun k => ?_
      by_cases hk : k < m.n
      · have hk' : k < t.length := by omega
        rw [List.getElem?_eq_getElem (show k < ys.length by omega), hy k _ (List.getElem?_eq_getElem (show k < ys.length by omega)), List.getElem?_map, List.getElem?_map, List.getD_eq_getElem?_getD (l := t), List.getElem?_eq_getElem hk']
        rfl
      · rw [List.getElem?_eq_none (by omega), List.getElem?_eq_none (by rw [List.length_map, List.length_map]; omega)]
    refine ⟨D, rfl, _, .inl ⟨.of eD', fun t2 H3 n3 => ?_⟩⟩
    have g23 := g2.trans n3.g
    have n0' : 0 < m.n := ok.pos
    have ne1 : t[i].map (fun r => nV (ix ns r)) ≠ [] := List.ne_nil_of_length_pos (by rw [List.length_map]; omega)
    have ne2 : (t.map fun r => ix ns (r.getD i 0)).map nV ≠ [] := List.ne_nil_of_length_pos (by rw [List.length_map, List.length_map]; omega)
    refine ⟨p1, rfl, _, .of (g23 _ _ e1), _, .of n3.at', ne1, ne2, small_line (by rw [List.length_map, List.length_map, List.length_map]; omega), fun p2 H4 n4 => ⟨p, rfl, _, .of ((g1.trans (g23.trans n4.g)) _ _ ep), _, .of n4.at', by simp, (fun z => ne1 (List.append_eq_nil_iff.mp z).1), ?_, fun p3 H5 n5 => ?_⟩⟩
    · have hfl := flat_le (c := 60) (f := fun t => (t.getD i []).map (ix ns) ++ t.map fun r => ix ns (r.getD i 0)) (m.ways.take j) fun t' ht' => by
        have hm := List.mem_of_mem_take ht'
        have l1 : t'.length = m.n := ok.tab t' hm
        have l2 : (t'.getD i []).length = m.n := by
          have hh : i < t'.length := by omega
          rw [List.getD_eq_getElem?_getD, List.getElem?_eq_getElem hh]
          exact ok.line t' hm _ (List.getElem_mem hh)
        rw [List.length_append, List.length_map, List.length_map, l1, l2]; omega
      have hwl : m.ways.length = 2 ^ m.w := ok.len
      rw [List.length_take] at hfl
      rw [List.length_map, List.length_cons, List.length_append, List.length_map, List.length_map, List.length_map]
      have hb2 : min j m.ways.length * 60 ≤ 16 * 60 := Nat.mul_le_mul_right 60 (by omega)
      exact Nat.le_trans (show _ ≤ 2000 by omega) (by decide)
    · refine ⟨g01.trans (g23.trans (n4.g.trans n5.g)), ?_⟩
      rw [n5.at', List.take_add_one, ew, Option.toList_some, List.flatMap_append, List.flatMap_cons, List.flatMap_nil, List.append_nil, hri]
      simp
  · rintro σ H' ⟨g, p, v4, rfl, ep⟩
    rw [SS.Paired.len pr, List.take_of_length_le (Nat.le_refl _)] at ep
    simp only [exists_eq', rEqI, rNeI, rInDc, rLenD, rLenT, rMaxL, rIndex, rCatTN, rCatTE, tDNewN, tDNewTN, rNeM, rRange2, rListRng, rRepN, rPopAt, rSetL, gSub, ipI, tDGet, sDPut, tLam, tCallA, tCallV, tDef, ipCatT, rRange1, rIndexD, rInD, rIxD, rLen, rAll, rSum, rListOf, rSlTN, tTupN, tLstN, rSlLN, rCatN, cxK, cxP, cxW, tSeq, tIfS, tTest, tB, tOp, tUn, tC, tAnd, tOr, tNot, tAndV, tOrV, tNotV, tIf, tNext, tBreak, tCont, tDrop, tRet, tRetN, gName, gNil, gCons, gTup, tAsg, tPar, tAug, rI, rI0, rU, rEq, rNe, tChain, tNil, tCons, tTup, tLst, tCall, tCB, tNoPart, tPart, tSl, rSlT, rSlL, rIxL, rIxT, rIn, tBM, tyV, rAppend, rExtend, rCat, rEqD, iList, iTup, iRng1, iRng2, tYes, tDisp, tPairs, rd_v0, rd_vS, rd_comp, rd_for, rd_ite_t, rd_ite_f, List.set_cons_zero, List.set_cons_succ, List.nil_append, List.cons_append, List.append_nil, V.int.injEq, V.bl.injEq, V.ref.injEq, V.ty.injEq, List.cons.injEq, and_true, true_and, exists_eq_left, exists_eq_left', exists_and_left, exists_eq, exists_const, if_true, if_false, ite_true, ite_false, rd_ii, rd_bb, Option.some.injEq, exists_eq_right, exists_eq_right', and_assoc, reduceCtorEq, false_and, and_false, false_or, or_false, exists_false]
    exact q p H' g ep
abbrev s_tree_finer_sorts : Stmt := top 12
theorem sc_tree_finer_sorts : FnScope ["machine", "sorts"] ["machine", "sorts"] (defScope s_tree_finer_sorts) := ⟨rfl, rfl, rfl, by decide +kernel, rfl, by decide +kernel, by decide +kernel⟩
theorem ok_tfiner (T : Txt mg) (d : Dfn K mg "tree_finer_sorts" s_tree_finer_sorts ["machine", "sorts"]) (C_tree_mark : Cal P w K mg base 2 "tree_mark" ["machine", "room", "sorts"] sp_tmark) (C_numbered : Cal P w K mg base 1 "numbered" ["marks"] sp_numbered) : Cal P w K mg base 3 "tree_finer_sorts" ["machine", "sorts"] sp_tfiner := by
  refine d.cal sc_tree_finer_sorts (fun vs H Q E h => ?_) (fun f cdv A outer s H vs Q E hr h => ?_)
  · obtain ⟨a, b, m, ns, rfl, _⟩ := h
    rfl
  obtain ⟨a, b, m, ns, rfl, rm, ok, eb, hns, q⟩ := h
  have h30 : m.n ≤ 30 := ok.few
  refine ⟨_, (pss_one (ps_ret (pe_callC C_numbered hr (by omega) (by rfl) (pa_c (pe_lcomp ["room"] [(0, "machine"), (1, "sorts")] (CompOk.of rfl (by rfl) (by rfl)) (by rfl) (pi_range1 (by rfl) T.b_range (pa_c (pe_cB (call_len_seqK K) (by rfl) T.b_len boot_len (pa_c (pv 1) pa_nil)) pa_nil)) (fun _ _ _ _ _ => (pg_name (i := 0) (show List.Nodup (["room", "machine", "sorts"] : List Str) by decide +kernel) (by rfl) (Or.inl (by rfl)))) (fun _ _ _ _ _ => pf_nil) (fun _ _ _ _ _ => (pe_callC C_tree_mark hr (by omega) (by rfl) (pa_c (pv 1) (pa_c (pv 0) (pa_c (pv 2) pa_nil)))))) pa_nil)))), ?_⟩
  refine rd_st [some (.ref a), some (.ref b)] rfl ?_
  simp only [exists_eq', rEqI, rNeI, rInDc, rLenD, rLenT, rMaxL, rIndex, rCatTN, rCatTE, tDNewN, tDNewTN, rNeM, rRange2, rListRng, rRepN, rPopAt, rSetL, gSub, ipI, tDGet, sDPut, tLam, tCallA, tCallV, tDef, ipCatT, rRange1, rIndexD, rInD, rIxD, rLen, rAll, rSum, rListOf, rSlTN, tTupN, tLstN, rSlLN, rCatN, cxK, cxP, cxW, tSeq, tIfS, tTest, tB, tOp, tUn, tC, tAnd, tOr, tNot, tAndV, tOrV, tNotV, tIf, tNext, tBreak, tCont, tDrop, tRet, tRetN, gName, gNil, gCons, gTup, tAsg, tPar, tAug, rI, rI0, rU, rEq, rNe, tChain, tNil, tCons, tTup, tLst, tCall, tCB, tNoPart, tPart, tSl, rSlT, rSlL, rIxL, rIxT, rIn, tBM, tyV, rAppend, rExtend, rCat, rEqD, iList, iTup, iRng1, iRng2, tYes, tDisp, tPairs, rd_v0, rd_vS, rd_comp, rd_for, rd_ite_t, rd_ite_f, List.set_cons_zero, List.set_cons_succ, List.nil_append, List.cons_append, List.append_nil, V.int.injEq, V.bl.injEq, V.ref.injEq, V.ty.injEq, List.cons.injEq, and_true, true_and, exists_eq_left, exists_eq_left', exists_and_left, exists_eq, exists_const, if_true, if_false, ite_true, ite_false, rd_ii, rd_bb, Option.some.injEq, exists_eq_right, exists_eq_right', and_assoc, reduceCtorEq, false_and, and_false, false_or, or_false, exists_false]
  refine ⟨_, .inl (.of eb), by rw [List.length_map]; omega, by rw [List.length_map]; omega, ?_⟩
  rw [List.length_map, show ((ns.length : Nat) : Int).toNat = m.n from hns]
  refine cg_by (n := m.n) (fun σ => ∃ v, σ = [v, some (.ref a), some (.ref b)]) (fun j y H => Line H y (tmark m ns j)) (by omega) ⟨_, rfl⟩ (fun i H' hi gg => hi) (fun H' gg => Nat.le_refl _) ?_ ?_
  · rintro D i ys σ H1 x H1' hi gg hD hD' hl hy ⟨v, rfl⟩ ⟨rfl, rfl⟩
    simp only [exists_eq', rEqI, rNeI, rInDc, rLenD, rLenT, rMaxL, rIndex, rCatTN, rCatTE, tDNewN, tDNewTN, rNeM, rRange2, rListRng, rRepN, rPopAt, rSetL, gSub, ipI, tDGet, sDPut, tLam, tCallA, tCallV, tDef, ipCatT, rRange1, rIndexD, rInD, rIxD, rLen, rAll, rSum, rListOf, rSlTN, tTupN, tLstN, rSlLN, rCatN, cxK, cxP, cxW, tSeq, tIfS, tTest, tB, tOp, tUn, tC, tAnd, tOr, tNot, tAndV, tOrV, tNotV, tIf, tNext, tBreak, tCont, tDrop, tRet, tRetN, gName, gNil, gCons, gTup, tAsg, tPar, tAug, rI, rI0, rU, rEq, rNe, tChain, tNil, tCons, tTup, tLst, tCall, tCB, tNoPart, tPart, tSl, rSlT, rSlL, rIxL, rIxT, rIn, tBM, tyV, rAppend, rExtend, rCat, rEqD, iList, iTup, iRng1, iRng2, tYes, tDisp, tPairs, rd_v0, rd_vS, rd_comp, rd_for, rd_ite_t, rd_ite_f, List.set_cons_zero, List.set_cons_succ, List.nil_append, List.cons_append, List.append_nil, V.int.injEq, V.bl.injEq, V.ref.injEq, V.ty.injEq, List.cons.injEq, and_true, true_and, exists_eq_left, exists_eq_left', exists_and_left, exists_eq, exists_const, if_true, if_false, ite_true, ite_false, rd_ii, rd_bb, Option.some.injEq, exists_eq_right, exists_eq_right', and_assoc, reduceCtorEq, false_and, and_false, false_or, or_false, exists_false]
    rw [Int.zero_add]
    exact ⟨a, b, m, i, ns, rfl, rm.same gg, ok, hi, gg _ _ eb, hns, fun p H2 g2 e2 => cg_step (fun j y H H' ts z => z.ts ts) (by omega) hi hD (g2 _ _ hD') hl hy g2.tups (gg.trans g2) ⟨_, rfl⟩ ⟨p, rfl, e2⟩⟩
  intro D ys H1 hD g1 eD hl hy
  refine .inr ⟨D, ys, (List.range m.n).map (tmark m ns), rfl, eD, paired_of (by rw [hl, List.length_map, List.length_range]) (fun j x y e1 e2 => ?_), by rw [List.length_map, List.length_range]; omega, fun D2 fs H2 hD2 g2 e2 N => q D2 fs H2 (g1.free hD2) (g1.trans g2) e2 N⟩
  have hj : j < m.n := by rw [← hl]; exact (List.getElem?_eq_some_iff.mp e1).1
  rw [List.getElem?_map, List.getElem?_range hj] at e2
  cases e2
  exact hy j x e1
end
end K46

set_option Elab.async false
set_option linter.all false
set_option maxRecDepth 100000
set_option maxHeartbeats 4000000
namespace K46
open PySem PySem.Spec PyProof.Rows L2 SS SM
seal PE PT PW PA PS PSs
section
variable {P : Program} {w : World} {K : PySem.W.Frag} {mg : Str → Option Value} {base : Heap}
abbrev s_tree_least : Stmt := top 13
theorem sc_tree_least : FnScope ["machine", "sorts", "firsts", "comings", "ways"] ["machine"] (defScope s_tree_least) := ⟨rfl, rfl, rfl, by decide +kernel, rfl, by decide +kernel, by decide +kernel⟩
abbrev qs_tree_least : List (Pos × Str) := [(⟨56, 33, 56, 83⟩, "tree_least.<locals>.<lambda>")]
theorem ok_tleast {c Pt : Addr} (T : Txt mg) (d : DfnC K mg "tree_least" s_tree_least ["machine"] c Pt) (kb : BltK base mg) (C_tree_finer_sorts : Cal P w K mg base 3 "tree_finer_sorts" ["machine", "sorts"] sp_tfiner) (C_sorts_by : Cal P w K mg base 5 "sorts_by" ["ends", "part_further"] (sp_sortsbyT P w K mg base)) (C_renamed : Cal P w K mg base 1 "renamed" ["rooms", "numbers"] sp_renAll) :
    Cal P w K mg base 6 "tree_least" ["machine"] (sp_tleast Pt qs_tree_least) := by
  refine d.cal sc_tree_least (fun vs H Q E h => ?_) (fun f A outer s H vs Q E hr h => ?_)
  · obtain ⟨a, m, rfl, _⟩ := h
    rfl
  obtain ⟨a, m, rfl, tab, rm, ok, q⟩ := h
  obtain ⟨b1, c1, ts, ea, eb1, pr, ec⟩ := id rm
  have h30 : m.n ≤ 30 := ok.few
  have hps : 1 ≤ 2 ^ m.w ∧ 2 ^ m.w ≤ 16 := pow_small (by have := ok.wid; omega)
  refine ⟨_, (pss_cons (ps_set (i := 1) sc_tree_least.nd rfl (Or.inr rfl) (pe_callAC C_sorts_by hr (by omega) (by rfl) (fun _ => rfl) (pa_c (pe_ix (ix_tupK K) (pv 0) pe_int (fun _ _ => rfl)) (pa_c (pe_lam (qs := qs_tree_least) "tree_least.<locals>.<lambda>" rfl d.code kb (by rfl) (by rfl)) pa_nil)))) (pss_cons (ps_set (i := 2) sc_tree_least.nd rfl (Or.inr rfl) (pe_lcomp ["sort"] [(1, "sorts")] (CompOk.of rfl (by rfl) (by rfl)) (by rfl) (pi_range1 (by rfl) T.b_range (pa_c (pe_op op_add (pe_cB (call_max_lK K rfl) (by rfl) T.b_max boot_max (pa_c (pv 1) pa_nil)) pe_int) pa_nil)) (fun _ _ _ _ _ => (pg_name (i := 0) (show List.Nodup (["sort", "sorts"] : List Str) by decide +kernel) (by rfl) (Or.inl (by rfl)))) (fun _ _ _ _ _ => pf_nil) (fun _ _ _ _ _ => (pe_bmK K PySem.F.plainAttrs_list PySem.F.slot_list_index PySem.F.type_list_index (mt_indexK K) (pv 1) (pa_c (pv 0) pa_nil))))) (pss_cons (ps_set (i := 3) sc_tree_least.nd rfl (Or.inl rfl) (pe_lstN pa_nil)) (pss_cons (ps_for PassesOwn.never rfl (pi_tupK K (pe_ix (ix_tupK K) (pv 0) pe_int (fun _ _ => rfl))) (pg_name (i := 4) sc_tree_least.nd (by rfl) (Or.inr (by rfl))) (pss_one (ps_expr (pe_bmK K PySem.F.plainAttrs_list PySem.F.slot_list_append PySem.F.type_list_append mt_append (pv 3) (pa_c (pe_cTy call_tuple_ofN (by rfl) T.b_tuple boot_tuple (pa_c (pe_lcomp ["left"] [(1, "sorts"), (2, "firsts"), (4, "ways")] (CompOk.of rfl (by rfl) (by rfl)) (by rfl) (pi_listK K (pv 2)) (fun _ _ _ _ _ => (pg_name (i := 0) (show List.Nodup (["left", "sorts", "firsts", "ways"] : List Str) by decide +kernel) (by rfl) (Or.inl (by rfl)))) (fun _ _ _ _ _ => pf_nil) (fun _ _ _ _ _ => (pe_callC C_renamed hr (by omega) (by rfl) (pa_c (pe_callC C_renamed hr (by omega) (by rfl) (pa_c (pv 2) (pa_c (pe_ix (ix_tupK K) (pv 3) (pv 0) (fun _ _ => rfl)) pa_nil))) (pa_c (pv 1) pa_nil))))) pa_nil)) pa_nil))))) (pss_one (ps_ret (pe_tupN (pa_c (pe_ix (ix_tupK K) (pv 0) pe_int (fun _ _ => rfl)) (pa_c (pe_cTy call_tuple_ofN (by rfl) T.b_tuple boot_tuple (pa_c (pv 3) pa_nil)) (pa_c (pe_callC C_renamed hr (by omega) (by rfl) (pa_c (pv 2) (pa_c (pe_ix (ix_tupK K) (pv 0) pe_int (fun _ _ => rfl)) pa_nil))) pa_nil)))))))))), ?_⟩
  refine rd_st [some (.ref a), none, none, none, none] rfl ?_
  simp only [exists_eq', rEqI, rNeI, rInDc, rLenD, rLenT, rMaxL, rIndex, rCatTN, rCatTE, tDNewN, tDNewTN, rNeM, rRange2, rListRng, rRepN, rPopAt, rSetL, gSub, ipI, tDGet, sDPut, tLam, tCallA, tCallV, tDef, ipCatT, rRange1, rIndexD, rInD, rIxD, rLen, rAll, rSum, rListOf, rSlTN, tTupN, tLstN, rSlLN, rCatN, cxK, cxP, cxW, tSeq, tIfS, tTest, tB, tOp, tUn, tC, tAnd, tOr, tNot, tAndV, tOrV, tNotV, tIf, tNext, tBreak, tCont, tDrop, tRet, tRetN, gName, gNil, gCons, gTup, tAsg, tPar, tAug, rI, rI0, rU, rEq, rNe, tChain, tNil, tCons, tTup, tLst, tCall, tCB, tNoPart, tPart, tSl, rSlT, rSlL, rIxL, rIxT, rIn, tBM, tyV, rAppend, rExtend, rCat, rEqD, iList, iTup, iRng1, iRng2, tYes, tDisp, tPairs, rd_v0, rd_vS, rd_comp, rd_for, rd_ite_t, rd_ite_f, List.set_cons_zero, List.set_cons_succ, List.nil_append, List.cons_append, List.append_nil, V.int.injEq, V.bl.injEq, V.ref.injEq, V.ty.injEq, List.cons.injEq, and_true, true_and, exists_eq_left, exists_eq_left', exists_and_left, exists_eq, exists_const, if_true, if_false, ite_true, ite_false, rd_ii, rd_bb, Option.some.injEq, exists_eq_right, exists_eq_right', and_assoc, reduceCtorEq, false_and, and_false, false_or, or_false, exists_false]
  refine ⟨_, .of ea, _, atI_nat (j := 2) rfl, tab, fun fl H1 M Hq ad => ?_⟩
  have gq : Same H Hq := M.old.trans ad.up
  obtain ⟨fdl, efl⟩ := M.fn
  have cl : CloH P w K mg base 4 Hq fl 1 (sp_part (fun H => RepT H a m) (TSorts m) (TNx m)) := by
    refine M.clo_e (own := ["coarser"]) (ps := ["coarser"]) (cap := ["machine"]) (cv := [.ref a]) (k := 3) (Same.refl _) ad ⟨rfl, rfl, rfl, by decide +kernel, rfl, by decide +kernel, by decide +kernel, by decide +kernel⟩ (Nat.le_refl _) (.cons ⟨0, rfl, rfl, .inl rfl⟩ .nil) (fun cl ct cd pm us hl => match us, hl with | [_], _ => rfl) ?_
    rintro clo c' A' outer' s' H' vs Q' hr hcl fz fz2 hl ⟨b, ns, rfl, hR, eb, S, q'⟩
    refine ⟨_, (pe_callC C_tree_finer_sorts hr (by omega) (by rfl) (pa_c (pv 1) (pa_c (pv 0) pa_nil))), ?_⟩
    refine rd_se [some (.ref b), some (.ref a)] rfl ?_
    simp only [exists_eq', rEqI, rNeI, rInDc, rLenD, rLenT, rMaxL, rIndex, rCatTN, rCatTE, tDNewN, tDNewTN, rNeM, rRange2, rListRng, rRepN, rPopAt, rSetL, gSub, ipI, tDGet, sDPut, tLam, tCallA, tCallV, tDef, ipCatT, rRange1, rIndexD, rInD, rIxD, rLen, rAll, rSum, rListOf, rSlTN, tTupN, tLstN, rSlLN, rCatN, cxK, cxP, cxW, tSeq, tIfS, tTest, tB, tOp, tUn, tC, tAnd, tOr, tNot, tAndV, tOrV, tNotV, tIf, tNext, tBreak, tCont, tDrop, tRet, tRetN, gName, gNil, gCons, gTup, tAsg, tPar, tAug, rI, rI0, rU, rEq, rNe, tChain, tNil, tCons, tTup, tLst, tCall, tCB, tNoPart, tPart, tSl, rSlT, rSlL, rIxL, rIxT, rIn, tBM, tyV, rAppend, rExtend, rCat, rEqD, iList, iTup, iRng1, iRng2, tYes, tDisp, tPairs, rd_v0, rd_vS, rd_comp, rd_for, rd_ite_t, rd_ite_f, List.set_cons_zero, List.set_cons_succ, List.nil_append, List.cons_append, List.append_nil, V.int.injEq, V.bl.injEq, V.ref.injEq, V.ty.injEq, List.cons.injEq, and_true, true_and, exists_eq_left, exists_eq_left', exists_and_left, exists_eq, exists_const, if_true, if_false, ite_true, ite_false, rd_ii, rd_bb, Option.some.injEq, exists_eq_right, exists_eq_right', and_assoc, reduceCtorEq, false_and, and_false, false_or, or_false, exists_false]
    exact ⟨a, b, m, ns, rfl, RepT.ts hR (SameN.tups hcl.n), ok, hcl.n _ _ eb (fun _ _ z => nomatch z), S.len, fun D5 fs H5 hD5 g5 eD5 N5 hnone => q' D5 fs (mixL clo H' H5) (drop_none hD5 eD5 hnone) (mix_same g5) (mix_up hnone _ _ eD5) N5⟩
  refine ⟨c1, fl, fdl, m.ends, (fun H => RepT H a m), TSorts m, TNx m, (fun ns => m.n * m.n - ns.sum), rfl, gq _ _ ec, by show m.n ≤ 100; omega, ad.up _ _ efl, cl, rm.same gq, (fun H1 H2 g z => z.same g), (fun ns N => tsorts_first N), (fun ns S => by rw [S.len]; omega), (fun ns fs S N => ?_), fun D5 ns H5' g5' eD5' S N5 => ?_⟩
  · obtain ⟨S', ref, _⟩ := tsorts_next ok S N
    refine ⟨S', fun hn => ?_⟩
    obtain ⟨m1, m2⟩ := tsorts_more S S' ref hn
    show m.n * m.n - fs.sum < m.n * m.n - ns.sum
    omega
  have g5 := M.old.trans (ad.same g5')
  have eD5 := ad.keep g5' eD5' (fun _ _ z => nomatch z)
  dsimp only
  generalize dropX _ H5' = H5 at g5 eD5 ⊢
  have hnl : ns.length = m.n := S.len
  have hn0 : 0 < m.n := ok.pos
  refine ⟨_, rfl, ns.map fun (n : Nat) => (n : Int), .of (by rw [← map_nV]; exact eD5), by rw [List.length_map, hnl]; exact hn0, fun M' mM hM => ?_⟩
  obtain ⟨Mn, mMn, rfl⟩ := List.mem_map.mp mM
  have hMl : ∀ x ∈ ns, x ≤ Mn := fun x mx => by have := hM _ (List.mem_map.mpr ⟨x, mx, rfl⟩); omega
  have St := tst_of ok S N5 mMn hMl
  have hMb : Mn < m.n := by
    obtain ⟨i, hi, ei⟩ := ix_ex mMn
    have := S.srt.le i hi
    omega
  have mem : ∀ s, s ≤ Mn → s ∈ ns := (firsts_of S.srt mMn hMl).2
  refine ⟨by omega, by omega, ?_⟩
  rw [show ((Mn : Int) + 1).toNat = Mn + 1 by omega]
  refine cr_map (fun σ => ∃ v, σ = [v, some (.ref D5)]) (fun i => nV (ns.idxOf i)) (by omega) ⟨_, rfl⟩ ?_ ?_
  · rintro D6 i σ H6 hi gg hD6 hD6' ⟨v, rfl⟩
    simp only [exists_eq', rEqI, rNeI, rInDc, rLenD, rLenT, rMaxL, rIndex, rCatTN, rCatTE, tDNewN, tDNewTN, rNeM, rRange2, rListRng, rRepN, rPopAt, rSetL, gSub, ipI, tDGet, sDPut, tLam, tCallA, tCallV, tDef, ipCatT, rRange1, rIndexD, rInD, rIxD, rLen, rAll, rSum, rListOf, rSlTN, tTupN, tLstN, rSlLN, rCatN, cxK, cxP, cxW, tSeq, tIfS, tTest, tB, tOp, tUn, tC, tAnd, tOr, tNot, tAndV, tOrV, tNotV, tIf, tNext, tBreak, tCont, tDrop, tRet, tRetN, gName, gNil, gCons, gTup, tAsg, tPar, tAug, rI, rI0, rU, rEq, rNe, tChain, tNil, tCons, tTup, tLst, tCall, tCB, tNoPart, tPart, tSl, rSlT, rSlL, rIxL, rIxT, rIn, tBM, tyV, rAppend, rExtend, rCat, rEqD, iList, iTup, iRng1, iRng2, tYes, tDisp, tPairs, rd_v0, rd_vS, rd_comp, rd_for, rd_ite_t, rd_ite_f, List.set_cons_zero, List.set_cons_succ, List.nil_append, List.cons_append, List.append_nil, V.int.injEq, V.bl.injEq, V.ref.injEq, V.ty.injEq, List.cons.injEq, and_true, true_and, exists_eq_left, exists_eq_left', exists_and_left, exists_eq, exists_const, if_true, if_false, ite_true, ite_false, rd_ii, rd_bb, Option.some.injEq, exists_eq_right, exists_eq_right', and_assoc, reduceCtorEq, false_and, and_false, false_or, or_false, exists_false]
    refine ⟨.inl ⟨_, .of (gg _ _ eD5)⟩, ns.map fun (n : Nat) => (n : Int), .of (by rw [← map_nV]; exact gg _ _ eD5), List.mem_map.mpr ⟨i, mem i (by omega), by omega⟩, by rw [List.length_map]; omega, ?_⟩
    refine cr_step (by omega) hi hD6 hD6' gg ⟨_, rfl⟩ ?_
    rw [show (0 : Int) + (i : Int) = ((i : Nat) : Int) by omega, idx_cast]
  intro D6 H6 hD6 g6 eD6
  have eD6' : H6 D6 = some (.lst (((List.range (Mn + 1)).map fun s => ns.idxOf s).map nV)) := by rw [eD6, List.map_map]; rfl
  refine ⟨by decide, fun pc H7 n7 => ?_⟩
  have g07 : Same H H7 := g5.trans (g6.trans n7.g)
  have hpc : H pc = none := (g5.trans g6).free n7.nil
  have nD5 : D5 ≠ pc := ne_of_none (g6 _ _ eD5) n7.nil
  have nD6 : D6 ≠ pc := ne_of_none eD6' n7.nil
  refine ⟨_, .of (g07 _ _ ea), _, atI_nat (j := 1) rfl, b1, rfl, ⟨_, .of (g07 _ _ eb1)⟩, ?_⟩
  have Flt : ∀ s, s < Mn + 1 → ns.idxOf s < m.n := fun s hs => (St.first s hs).1
  have hfl : ((List.range (Mn + 1)).map fun s => ns.idxOf s).length = Mn + 1 := by rw [List.length_map, List.length_range]
  have hfm : ∀ r ∈ ((List.range (Mn + 1)).map fun s => ns.idxOf s), r < m.n := fun r hr => by
    obtain ⟨s', hs, rfl⟩ := List.mem_map.mp hr
    exact Flt s' (List.mem_range.mp hs)
  refine fb_tup (K := K) (a := b1) (xs := ts) (fun j σ H' => Same H H' ∧ TupS H7 H' ∧ (∃ v4, σ = [some (.ref a), some (.ref D5), some (.ref D6), some (.ref pc), v4]) ∧ H' D5 = some (.lst (ns.map nV)) ∧ H' D6 = some (.lst (((List.range (Mn + 1)).map fun s => ns.idxOf s).map nV)) ∧
    ∃ rc, H' pc = some (.lst rc) ∧ Paired (Tab H') rc ((List.range j).map fun l => (List.range (Mn + 1)).map fun a' => (List.range (Mn + 1)).map fun b' => ix ns (m.go l (ns.idxOf a') (ns.idxOf b'))))
    ⟨g07, TupS.refl _, ⟨_, rfl⟩, (g6.trans n7.g) _ _ eD5, n7.g _ _ eD6', [], n7.at', .nil⟩ (fun j σ H' _ z => .of (z.1 _ _ eb1)) ?_ ?_
  · rintro j y σ H' hy ⟨g, tsP, ⟨v4, rfl⟩, e5, e6, rc, ep, prc⟩
    have hj : j < m.ways.length := by rw [← SS.Paired.len pr]; exact (List.getElem?_eq_some_iff.mp hy).1
    have hj2 : j < 2 ^ m.w := by rw [← ok.len]; exact hj
    have ew := List.getElem?_eq_getElem hj
    obtain ⟨v, ev, u, rs, rfl, eu, pu⟩ := Paired.at2 pr ew
    rw [ev] at hy
    cases hy
    have hwm := List.getElem_mem hj
    generalize m.ways[j] = tb at ew pu hwm
    have htl : tb.length = m.n := ok.tab tb hwm
    have hrcl := SS.Paired.len prc
    rw [List.length_map, List.length_range] at hrcl
    simp only [exists_eq', rEqI, rNeI, rInDc, rLenD, rLenT, rMaxL, rIndex, rCatTN, rCatTE, tDNewN, tDNewTN, rNeM, rRange2, rListRng, rRepN, rPopAt, rSetL, gSub, ipI, tDGet, sDPut, tLam, tCallA, tCallV, tDef, ipCatT, rRange1, rIndexD, rInD, rIxD, rLen, rAll, rSum, rListOf, rSlTN, tTupN, tLstN, rSlLN, rCatN, cxK, cxP, cxW, tSeq, tIfS, tTest, tB, tOp, tUn, tC, tAnd, tOr, tNot, tAndV, tOrV, tNotV, tIf, tNext, tBreak, tCont, tDrop, tRet, tRetN, gName, gNil, gCons, gTup, tAsg, tPar, tAug, rI, rI0, rU, rEq, rNe, tChain, tNil, tCons, tTup, tLst, tCall, tCB, tNoPart, tPart, tSl, rSlT, rSlL, rIxL, rIxT, rIn, tBM, tyV, rAppend, rExtend, rCat, rEqD, iList, iTup, iRng1, iRng2, tYes, tDisp, tPairs, rd_v0, rd_vS, rd_comp, rd_for, rd_ite_t, rd_ite_f, List.set_cons_zero, List.set_cons_succ, List.nil_append, List.cons_append, List.append_nil, V.int.injEq, V.bl.injEq, V.ref.injEq, V.ty.injEq, List.cons.injEq, and_true, true_and, exists_eq_left, exists_eq_left', exists_and_left, exists_eq, exists_const, if_true, if_false, ite_true, ite_false, rd_ii, rd_bb, Option.some.injEq, exists_eq_right, exists_eq_right', and_assoc, reduceCtorEq, false_and, and_false, false_or, or_false, exists_false]
    refine ⟨.inl ⟨_, .of ep⟩, ⟨_, .of e6⟩, cg_by (n := Mn + 1) (fun σ => ∃ v, σ = [v, some (.ref D5), some (.ref D6), some (.ref u)]) (fun a' y H => Line H y ((List.range (Mn + 1)).map fun b' => ix ns (m.go j (ns.idxOf a') (ns.idxOf b')))) (by omega) ⟨_, rfl⟩ (fun k H2 hk gg => ⟨_, nV (ns.idxOf k), .of (gg _ _ e6), by rw [List.getElem?_map, List.getElem?_map, List.getElem?_range hk]; rfl⟩) (fun H2 gg => ⟨_, .of (gg _ _ e6), by rw [List.length_map, hfl]; exact Nat.le_refl _⟩) ?_ ?_⟩
    · rintro D k ys σ H2 x H2' hk gg hD hD' hl hy ⟨v, rfl⟩ ⟨rfl, yx⟩
      have ex := yx _ (.of (gg _ _ e6))
      rw [List.getElem?_map, List.getElem?_map, List.getElem?_range hk] at ex
      cases ex
      have hFk := Flt k hk
      have hkt : ns.idxOf k < tb.length := by omega
      have er := List.getElem?_eq_getElem hkt
      obtain ⟨v, evr, u2, rfl, eu2⟩ := Paired.at2 pu er
      have hrwl : tb[ns.idxOf k].length = m.n := ok.line tb hwm _ (List.getElem_mem hkt)
      have hrr : ∀ r ∈ tb[ns.idxOf k], r < m.n := ok.room tb hwm _ (List.getElem_mem hkt)
      have goe : ∀ x, x < m.n → (tb[ns.idxOf k]).getD x 0 = m.go j (ns.idxOf k) x := fun x hx => by
        have z := (tab_go ok ew hj2 hFk hx).1
        rw [List.getD_eq_getElem?_getD, er] at z
        rw [List.getD_eq_getElem?_getD]
        rw [show tb[ns.idxOf k][x]? = some (m.go j (ns.idxOf k) x) from z]; rfl
      have gA := g.trans gg
      simp only [exists_eq', rEqI, rNeI, rInDc, rLenD, rLenT, rMaxL, rIndex, rCatTN, rCatTE, tDNewN, tDNewTN, rNeM, rRange2, rListRng, rRepN, rPopAt, rSetL, gSub, ipI, tDGet, sDPut, tLam, tCallA, tCallV, tDef, ipCatT, rRange1, rIndexD, rInD, rIxD, rLen, rAll, rSum, rListOf, rSlTN, tTupN, tLstN, rSlLN, rCatN, cxK, cxP, cxW, tSeq, tIfS, tTest, tB, tOp, tUn, tC, tAnd, tOr, tNot, tAndV, tOrV, tNotV, tIf, tNext, tBreak, tCont, tDrop, tRet, tRetN, gName, gNil, gCons, gTup, tAsg, tPar, tAug, rI, rI0, rU, rEq, rNe, tChain, tNil, tCons, tTup, tLst, tCall, tCB, tNoPart, tPart, tSl, rSlT, rSlL, rIxL, rIxT, rIn, tBM, tyV, rAppend, rExtend, rCat, rEqD, iList, iTup, iRng1, iRng2, tYes, tDisp, tPairs, rd_v0, rd_vS, rd_comp, rd_for, rd_ite_t, rd_ite_f, List.set_cons_zero, List.set_cons_succ, List.nil_append, List.cons_append, List.append_nil, V.int.injEq, V.bl.injEq, V.ref.injEq, V.ty.injEq, List.cons.injEq, and_true, true_and, exists_eq_left, exists_eq_left', exists_and_left, exists_eq, exists_const, if_true, if_false, ite_true, ite_false, rd_ii, rd_bb, Option.some.injEq, exists_eq_right, exists_eq_right', and_assoc, reduceCtorEq, false_and, and_false, false_or, or_false, exists_false]
      refine ⟨_, .of (gA _ _ eu), _, atI_nat evr, .inr (.inl ⟨D6, u2, _, tb[ns.idxOf k].map nV, (fun r => nV ((tb[ns.idxOf k]).getD r 0)), rfl, gg _ _ e6, by rw [hfl]; omega, gA _ _ eu2, (fun r hr => ?_), fun p1 H3 g3 e3 => .inl ⟨p1, D5, ((List.range (Mn + 1)).map fun s => ns.idxOf s).map (fun r => (tb[ns.idxOf k]).getD r 0), ns.map nV, (fun r => nV (ix ns r)), rfl, ?_, by rw [List.length_map, hfl]; omega, (gg.trans g3) _ _ e5, (fun r hr => ?_), fun p2 H4 g4 e4 => cg_step (fun j y H H' ts z => z.ts ts) (by omega) hk hD ((g3.trans g4) _ _ hD') hl hy (g3.trans g4).tups (gg.trans (g3.trans g4)) ⟨_, rfl⟩ ⟨p2, rfl, ?_⟩⟩⟩)⟩
      · have := hfm r hr
        show (tb[ns.idxOf k].map nV)[r]? = some (nV ((tb[ns.idxOf k]).getD r 0))
        rw [List.getElem?_map, List.getD_eq_getElem?_getD, List.getElem?_eq_getElem (show r < tb[ns.idxOf k].length by omega)]; rfl
      · rw [e3]; simp only [List.map_map]; rfl
      · obtain ⟨x, hx, rfl⟩ := List.mem_map.mp hr
        have hxn := hfm x hx
        have : (tb[ns.idxOf k]).getD x 0 < m.n := by rw [goe x hxn]; exact ok.go_lt hj2 hFk hxn
        rw [List.getElem?_map, ix_at (by omega)]; rfl
      · rw [e4, List.map_map, List.map_map, List.map_map]
        congr 2
        refine List.map_congr_left fun b' hb' => ?_
        show nV (ix ns ((tb[ns.idxOf k]).getD (ns.idxOf b') 0)) = nV (ix ns (m.go j (ns.idxOf k) (ns.idxOf b')))
        rw [goe _ (Flt b' (List.mem_range.mp hb'))]
    intro D ys H2 hD g2 eD hl hy
    refine ⟨D, rfl, _, .inl ⟨.of eD, fun t2 H3 n3 => ⟨_, (g2.trans n3.g) _ _ ep, small1000 (by have := ok.len; omega), ?_⟩⟩⟩
    have g23 := g2.trans n3.g
    have tsA : TupS H' (upd H3 pc (.lst (rc ++ [.ref t2]))) := g23.tups.trans (TupS.wr (g23 _ _ ep) _)
    have tsB : TupS H2 (upd H3 pc (.lst (rc ++ [.ref t2]))) := n3.g.tups.trans (TupS.wr (g23 _ _ ep) _)
    refine ⟨(g.trans g23).wr hpc _, tsP.trans tsA, by rw [upd_ne nD5]; exact g23 _ _ e5, by rw [upd_ne nD6]; exact g23 _ _ e6, rc ++ [.ref t2], upd_same, ?_⟩
    rw [show List.range (j + 1) = List.range j ++ [j] from List.range_succ, List.map_append, List.map_cons, List.map_nil]
    refine SM.Paired.snoc (L2.Paired.mapP prc fun _ _ z => z.ts tsA) ⟨t2, ys, rfl, TupS.wr (g23 _ _ ep) _ _ _ n3.at', ?_⟩
    refine paired_of (by rw [hl, List.length_map, List.length_range]) fun k x y e1 e2 => ?_
    have hk : k < Mn + 1 := by rw [← hl]; exact (List.getElem?_eq_some_iff.mp e1).1
    rw [List.getElem?_map, List.getElem?_range hk] at e2
    cases e2
    exact (hy k x e1).ts tsB
  · rintro σ H' ⟨g, tsP, ⟨v4, rfl⟩, e5, e6, rc, ep, prc⟩
    rw [SS.Paired.len pr, ok.len] at prc
    simp only [exists_eq', rEqI, rNeI, rInDc, rLenD, rLenT, rMaxL, rIndex, rCatTN, rCatTE, tDNewN, tDNewTN, rNeM, rRange2, rListRng, rRepN, rPopAt, rSetL, gSub, ipI, tDGet, sDPut, tLam, tCallA, tCallV, tDef, ipCatT, rRange1, rIndexD, rInD, rIxD, rLen, rAll, rSum, rListOf, rSlTN, tTupN, tLstN, rSlLN, rCatN, cxK, cxP, cxW, tSeq, tIfS, tTest, tB, tOp, tUn, tC, tAnd, tOr, tNot, tAndV, tOrV, tNotV, tIf, tNext, tBreak, tCont, tDrop, tRet, tRetN, gName, gNil, gCons, gTup, tAsg, tPar, tAug, rI, rI0, rU, rEq, rNe, tChain, tNil, tCons, tTup, tLst, tCall, tCB, tNoPart, tPart, tSl, rSlT, rSlL, rIxL, rIxT, rIn, tBM, tyV, rAppend, rExtend, rCat, rEqD, iList, iTup, iRng1, iRng2, tYes, tDisp, tPairs, rd_v0, rd_vS, rd_comp, rd_for, rd_ite_t, rd_ite_f, List.set_cons_zero, List.set_cons_succ, List.nil_append, List.cons_append, List.append_nil, V.int.injEq, V.bl.injEq, V.ref.injEq, V.ty.injEq, List.cons.injEq, and_true, true_and, exists_eq_left, exists_eq_left', exists_and_left, exists_eq, exists_const, if_true, if_false, ite_true, ite_false, rd_ii, rd_bb, Option.some.injEq, exists_eq_right, exists_eq_right', and_assoc, reduceCtorEq, false_and, and_false, false_or, or_false, exists_false]
    refine ⟨_, .of (g _ _ ea), _, atI_0, _, .inl ⟨.of ep, fun t1 H8 n8 => ⟨_, .of ((g.trans n8.g) _ _ ea), _, atI_nat (j := 2) rfl, .inr (.inl ⟨D6, c1, _, m.ends.map V.bl, (fun r => .bl (m.fin r)), rfl, n8.g _ _ e6, by rw [hfl]; omega, (g.trans n8.g) _ _ ec, (fun r hr => by rw [List.getElem?_map, Tm.fin_at (hfm r hr)]; rfl), fun p9 H9 g9 e9 => ⟨small_line (by simp), fun pt H10 n10 => ?_⟩⟩)⟩⟩⟩
    have gB := n8.g.trans (g9.trans n10.g)
    refine q pt ns (Mn + 1) H10 (g.trans gB) ⟨t1, p9, rc, n10.at', (g9.trans n10.g) _ _ n8.at', ?_, ?_⟩ St (by omega) (by omega)
    · exact L2.Paired.mapP prc fun _ _ z => z.ts gB.tups
    · rw [n10.g _ _ e9]
      simp only [quo, mkT, List.map_map]
      rfl
end
end K46

set_option Elab.async false
set_option linter.all false
set_option maxRecDepth 100000
set_option maxHeartbeats 4000000
namespace K46
open PySem PySem.Spec PyProof.Rows L2 SS SM
seal PE PT PW PA PS PSs
section
variable {P : Program} {w : World} {K : PySem.W.Frag} {mg : Str → Option Value} {base : Heap}
abbrev s_ways_of : Stmt := top 9
theorem sc_ways_of : FnScope ["comings", "count", "letter", "ways", "left"] ["comings", "count", "letter"] (defScope s_ways_of) := ⟨rfl, rfl, rfl, by decide +kernel, rfl, by decide +kernel, by decide +kernel⟩
theorem ok_waysof (T : Txt mg) (d : Dfn K mg "ways_of" s_ways_of ["comings", "count", "letter"]) : Cal P w K mg base 1 "ways_of" ["comings", "count", "letter"] sp_waysof := by
  refine d.cal sc_ways_of (fun vs H Q E h => ?_) (fun f cdv A outer s H vs Q E hr h => ?_)
  · obtain ⟨a, kvs, n, l, L, rw', rfl, _⟩ := h
    rfl
  obtain ⟨a, kvs, n, l, L, rw', rfl, ea, h30, hl, hv, q⟩ := h
  have hu := hu_at hr 8 (by decide)
  refine ⟨_, (pss_cons (ps_set (i := 3) sc_ways_of.nd rfl (Or.inl rfl) (pe_lstN pa_nil)) (pss_cons (ps_for PassesOwn.never rfl (pi_range1 (by rfl) T.b_range (pa_c (pv 1) pa_nil)) (pg_name (i := 4) sc_ways_of.nd (by rfl) (Or.inr (by rfl))) (pss_one (ps_expr (pe_bmK K PySem.F.plainAttrs_list PySem.F.slot_list_append PySem.F.type_list_append mt_append (pv 3) (pa_c (pe_cTy call_tuple_ofN (by rfl) T.b_tuple boot_tuple (pa_c (pe_lcomp ["right"] [(2, "letter"), (0, "comings"), (4, "left")] (CompOk.of rfl (by rfl) (by rfl)) (by rfl) (pi_range1 (by rfl) T.b_range (pa_c (pv 1) pa_nil)) (fun _ _ _ _ _ => (pg_name (i := 0) (show List.Nodup (["right", "letter", "comings", "left"] : List Str) by decide +kernel) (by rfl) (Or.inl (by rfl)))) (fun _ _ _ _ _ => pf_nil) (fun _ _ _ _ _ => (pe_ix (ix_tupK K) (pe_dgetH hu (pv 2) (pe_tupN (pa_c (pv 3) (pa_c (pv 0) pa_nil))) (fun _ _ => rfl)) (pv 1) (fun _ _ => rfl)))) pa_nil)) pa_nil))))) (pss_one (ps_ret (pe_cTy call_tuple_ofN (by rfl) T.b_tuple boot_tuple (pa_c (pv 3) pa_nil)))))), ?_⟩
  refine rd_st [some (.ref a), some (nV n), some (nV l), none, none] rfl ?_
  simp only [exists_eq', rEqI, rNeI, rInDc, rLenD, rLenT, rMaxL, rIndex, rCatTN, rCatTE, tDNewN, tDNewTN, rNeM, rRange2, rListRng, rRepN, rPopAt, rSetL, gSub, ipI, tDGet, sDPut, tLam, tCallA, tCallV, tDef, ipCatT, rRange1, rIndexD, rInD, rIxD, rLen, rAll, rSum, rListOf, rSlTN, tTupN, tLstN, rSlLN, rCatN, cxK, cxP, cxW, tSeq, tIfS, tTest, tB, tOp, tUn, tC, tAnd, tOr, tNot, tAndV, tOrV, tNotV, tIf, tNext, tBreak, tCont, tDrop, tRet, tRetN, gName, gNil, gCons, gTup, tAsg, tPar, tAug, rI, rI0, rU, rEq, rNe, tChain, tNil, tCons, tTup, tLst, tCall, tCB, tNoPart, tPart, tSl, rSlT, rSlL, rIxL, rIxT, rIn, tBM, tyV, rAppend, rExtend, rCat, rEqD, iList, iTup, iRng1, iRng2, tYes, tDisp, tPairs, rd_v0, rd_vS, rd_comp, rd_for, rd_ite_t, rd_ite_f, List.set_cons_zero, List.set_cons_succ, List.nil_append, List.cons_append, List.append_nil, V.int.injEq, V.bl.injEq, V.ref.injEq, V.ty.injEq, List.cons.injEq, and_true, true_and, exists_eq_left, exists_eq_left', exists_and_left, exists_eq, exists_const, if_true, if_false, ite_true, ite_false, rd_ii, rd_bb, Option.some.injEq, exists_eq_right, exists_eq_right', and_assoc, reduceCtorEq, false_and, and_false, false_or, or_false, exists_false]
  refine ⟨by decide, fun pw H1 n1 => ⟨by omega, by omega, ?_⟩⟩
  rw [show ((n : Nat) : Int).toNat = n from rfl]
  have npa : a ≠ pw := ne_of_none ea n1.nil
  refine fb_range (fun i σ H' => Same H H' ∧ (∃ v4, σ = [some (.ref a), some (nV n), some (nV l), some (.ref pw), v4]) ∧ ∃ rs, H' pw = some (.lst rs) ∧ Paired (Line H') rs ((List.range i).map fun i => (List.range n).map fun j => (rw' i j).getD l 0))
    ⟨n1.g, ⟨_, rfl⟩, [], n1.at', .nil⟩ ?_ ?_
  · rintro i σ H' hi ⟨g, ⟨v4, rfl⟩, rs, ep, pr⟩
    have hrl := SS.Paired.len pr
    rw [List.length_map, List.length_range] at hrl
    simp only [exists_eq', rEqI, rNeI, rInDc, rLenD, rLenT, rMaxL, rIndex, rCatTN, rCatTE, tDNewN, tDNewTN, rNeM, rRange2, rListRng, rRepN, rPopAt, rSetL, gSub, ipI, tDGet, sDPut, tLam, tCallA, tCallV, tDef, ipCatT, rRange1, rIndexD, rInD, rIxD, rLen, rAll, rSum, rListOf, rSlTN, tTupN, tLstN, rSlLN, rCatN, cxK, cxP, cxW, tSeq, tIfS, tTest, tB, tOp, tUn, tC, tAnd, tOr, tNot, tAndV, tOrV, tNotV, tIf, tNext, tBreak, tCont, tDrop, tRet, tRetN, gName, gNil, gCons, gTup, tAsg, tPar, tAug, rI, rI0, rU, rEq, rNe, tChain, tNil, tCons, tTup, tLst, tCall, tCB, tNoPart, tPart, tSl, rSlT, rSlL, rIxL, rIxT, rIn, tBM, tyV, rAppend, rExtend, rCat, rEqD, iList, iTup, iRng1, iRng2, tYes, tDisp, tPairs, rd_v0, rd_vS, rd_comp, rd_for, rd_ite_t, rd_ite_f, List.set_cons_zero, List.set_cons_succ, List.nil_append, List.cons_append, List.append_nil, V.int.injEq, V.bl.injEq, V.ref.injEq, V.ty.injEq, List.cons.injEq, and_true, true_and, exists_eq_left, exists_eq_left', exists_and_left, exists_eq, exists_const, if_true, if_false, ite_true, ite_false, rd_ii, rd_bb, Option.some.injEq, exists_eq_right, exists_eq_right', and_assoc, reduceCtorEq, false_and, and_false, false_or, or_false, exists_false]
    refine ⟨.inl ⟨_, .of ep⟩, by omega, by omega, ?_⟩
    rw [show ((n : Nat) : Int).toNat = n from rfl]
    refine cr_map (fun σ => ∃ v, σ = [v, some (nV l), some (.ref a), some (.int (0 + (i : Int)))]) (fun j => nV ((rw' i j).getD l 0)) (by omega) ⟨_, rfl⟩ ?_ ?_
    · rintro D j σ H2 hj gg hD hD' ⟨v, rfl⟩
      obtain ⟨v', hv1, ⟨qa, rfl, eqa⟩, hv3⟩ := hv i j hi hj
      have at1 : ((rw' i j).map nV)[l]? = some (nV ((rw' i j).getD l 0)) := by rw [List.getElem?_map, List.getD_eq_getElem?_getD, List.getElem?_eq_getElem (show l < (rw' i j).length by omega)]; rfl
      simp only [exists_eq', rEqI, rNeI, rInDc, rLenD, rLenT, rMaxL, rIndex, rCatTN, rCatTE, tDNewN, tDNewTN, rNeM, rRange2, rListRng, rRepN, rPopAt, rSetL, gSub, ipI, tDGet, sDPut, tLam, tCallA, tCallV, tDef, ipCatT, rRange1, rIndexD, rInD, rIxD, rLen, rAll, rSum, rListOf, rSlTN, tTupN, tLstN, rSlLN, rCatN, cxK, cxP, cxW, tSeq, tIfS, tTest, tB, tOp, tUn, tC, tAnd, tOr, tNot, tAndV, tOrV, tNotV, tIf, tNext, tBreak, tCont, tDrop, tRet, tRetN, gName, gNil, gCons, gTup, tAsg, tPar, tAug, rI, rI0, rU, rEq, rNe, tChain, tNil, tCons, tTup, tLst, tCall, tCB, tNoPart, tPart, tSl, rSlT, rSlL, rIxL, rIxT, rIn, tBM, tyV, rAppend, rExtend, rCat, rEqD, iList, iTup, iRng1, iRng2, tYes, tDisp, tPairs, rd_v0, rd_vS, rd_comp, rd_for, rd_ite_t, rd_ite_f, List.set_cons_zero, List.set_cons_succ, List.nil_append, List.cons_append, List.append_nil, V.int.injEq, V.bl.injEq, V.ref.injEq, V.ty.injEq, List.cons.injEq, and_true, true_and, exists_eq_left, exists_eq_left', exists_and_left, exists_eq, exists_const, if_true, if_false, ite_true, ite_false, rd_ii, rd_bb, Option.some.injEq, exists_eq_right, exists_eq_right', and_assoc, reduceCtorEq, false_and, and_false, false_or, or_false, exists_false]
      refine ⟨small_line (by simp), fun tk H3 n3 => ?_⟩
      have g3 := g.trans (gg.trans n3.g)
      have et2 : H3 tk = some (.tup ((keyL [i, j]).map kV)) := by rw [n3.at', Int.zero_add, Int.zero_add]; rfl
      have z := DGet.t (g3 _ _ ea) et2
      rw [hv1] at z
      exact ⟨_, z, qa, rfl, _, .of (g3 _ _ eqa), _, atI_nat at1, cr_step (by omega) hj hD (n3.g _ _ hD') (gg.trans n3.g) ⟨_, rfl⟩ rfl⟩
    intro D H2 hD g2 eD
    have eD' : H2 D = some (.lst (((List.range n).map fun j => (rw' i j).getD l 0).map nV)) := by rw [eD, List.map_map]; rfl
    refine ⟨D, rfl, _, .inl ⟨.of eD', fun t2 H3 n3 => ⟨_, (g2.trans n3.g) _ _ ep, small1000 (by omega), ?_⟩⟩⟩
    have g23 := g2.trans n3.g
    have tsA : TupS H' (upd H3 pw (.lst (rs ++ [.ref t2]))) := g23.tups.trans (TupS.wr (g23 _ _ ep) _)
    refine ⟨(g.trans g23).wr n1.nil _, rs ++ [.ref t2], upd_same, ?_⟩
    rw [show List.range (i + 1) = List.range i ++ [i] from List.range_succ, List.map_append, List.map_cons, List.map_nil]
    exact SM.Paired.snoc (L2.Paired.mapP pr fun _ _ z => z.ts tsA) ⟨t2, rfl, TupS.wr (g23 _ _ ep) _ _ _ n3.at'⟩
  · rintro σ H' ⟨g, ⟨v4, rfl⟩, rs, ep, pr⟩
    simp only [exists_eq', rEqI, rNeI, rInDc, rLenD, rLenT, rMaxL, rIndex, rCatTN, rCatTE, tDNewN, tDNewTN, rNeM, rRange2, rListRng, rRepN, rPopAt, rSetL, gSub, ipI, tDGet, sDPut, tLam, tCallA, tCallV, tDef, ipCatT, rRange1, rIndexD, rInD, rIxD, rLen, rAll, rSum, rListOf, rSlTN, tTupN, tLstN, rSlLN, rCatN, cxK, cxP, cxW, tSeq, tIfS, tTest, tB, tOp, tUn, tC, tAnd, tOr, tNot, tAndV, tOrV, tNotV, tIf, tNext, tBreak, tCont, tDrop, tRet, tRetN, gName, gNil, gCons, gTup, tAsg, tPar, tAug, rI, rI0, rU, rEq, rNe, tChain, tNil, tCons, tTup, tLst, tCall, tCB, tNoPart, tPart, tSl, rSlT, rSlL, rIxL, rIxT, rIn, tBM, tyV, rAppend, rExtend, rCat, rEqD, iList, iTup, iRng1, iRng2, tYes, tDisp, tPairs, rd_v0, rd_vS, rd_comp, rd_for, rd_ite_t, rd_ite_f, List.set_cons_zero, List.set_cons_succ, List.nil_append, List.cons_append, List.append_nil, V.int.injEq, V.bl.injEq, V.ref.injEq, V.ty.injEq, List.cons.injEq, and_true, true_and, exists_eq_left, exists_eq_left', exists_and_left, exists_eq, exists_const, if_true, if_false, ite_true, ite_false, rd_ii, rd_bb, Option.some.injEq, exists_eq_right, exists_eq_right', and_assoc, reduceCtorEq, false_and, and_false, false_or, or_false, exists_false]
    exact ⟨_, .inl ⟨.of ep, fun t H2 n2 => q t H2 (g.trans n2.g) ⟨t, rs, rfl, n2.at', L2.Paired.mapP pr fun _ _ z => z.ts n2.g.tups⟩⟩⟩
abbrev s_tree_explored : Stmt := top 10
theorem sc_tree_explored : FnScope ["tracks", "comings", "first", "is_end", "most", "numbers", "found", "known", "at", "pair", "coming_here", "thing", "ways"] ["tracks", "comings", "first", "is_end", "most"] (defScope s_tree_explored) := ⟨rfl, rfl, rfl, by decide +kernel, rfl, by decide +kernel, by decide +kernel⟩
theorem ok_texpl (T : Txt mg) (d : Dfn K mg "tree_explored" s_tree_explored ["tracks", "comings", "first", "is_end", "most"]) (C_pairs_up_to : Cal P w K mg base 1 "pairs_up_to" ["most"] sp_pairsup) (C_renamed : Cal P w K mg base 1 "renamed" ["rooms", "numbers"] sp_renAll) (C_ways_of : Cal P w K mg base 1 "ways_of" ["comings", "count", "letter"] sp_waysof) :
    Cal P w K mg base 5 "tree_explored" ["tracks", "comings", "first", "is_end", "most"] (sp_texpl P w K mg base) := by
  refine d.cal sc_tree_explored (fun vs H Q E h => ?_) (fun f cdv A outer s H vs Q E hr h => ?_)
  · obtain ⟨fc, fe, fd, fd', R, x, mo, rfl, _⟩ := h
    rfl
  obtain ⟨fc, fe, fdc, fde, R, x, mo, rfl, ok, hmo, efc, efe, clc, cle, hR, hRs, q⟩ := h
  have hu := hu_at hr 8 (by decide)
  have h30 : x.n ≤ 30 := ok.few
  have hps : 1 ≤ 2 ^ x.w ∧ 2 ^ x.w ≤ 16 := pow_small (by have := ok.wid; omega)
  refine ⟨_, (pss_cons (ps_set (i := 5) sc_tree_explored.nd rfl (Or.inl rfl) (pe_disp (pps_cons (pv 2) pe_int pps_nil) rfl rfl (by simp) (by decide))) (pss_cons (ps_set (i := 6) sc_tree_explored.nd rfl (Or.inr rfl) (pe_lstN (pa_c (pv 2) pa_nil))) (pss_cons (ps_set (i := 7) sc_tree_explored.nd rfl (Or.inr rfl) pe_dnewTN) (pss_cons (ps_set (i := 8) sc_tree_explored.nd rfl (Or.inl rfl) pe_int) (pss_cons (ps_while PassesOwn.never (pt_cmpR op_lt (pv 8) (pe_cB (call_len_seqK K) (by rfl) T.b_len boot_len (pa_c (pv 6) pa_nil)) (nomark _)) (pss_cons (ps_for PassesOwn.never rfl (pi_listK K (pe_callC C_pairs_up_to hr (by omega) (by rfl) (pa_c (pv 8) pa_nil))) (pg_name (i := 9) sc_tree_explored.nd (by rfl) (Or.inl (by rfl))) (pss_cons (ps_set (i := 10) sc_tree_explored.nd rfl (Or.inl rfl) (pe_callVK P w K mg base 1 4 2 (sp_comT R x) hr (by omega) (pa_c (pe_ix (ix_listK K) (pv 6) (pe_ix (ix_tupK K) (pv 9) pe_int (fun _ _ => rfl)) (fun _ _ => rfl)) (pa_c (pe_ix (ix_listK K) (pv 6) (pe_ix (ix_tupK K) (pv 9) pe_int (fun _ _ => rfl)) (fun _ _ => rfl)) pa_nil)))) (pss_cons (ps_for PassesOwn.never rfl (pi_listK K (pv 10)) (pg_name (i := 11) sc_tree_explored.nd (by rfl) (Or.inl (by rfl))) (pss_one (ps_if (pt_cmpR (op_notin_d hu) (pv 11) (pv 5) (by with_unfolding_all rfl)) (pss_cons (ps_dputH hu (pv 5) (pv 11) (pe_cB (call_len_seqK K) (by rfl) T.b_len boot_len (pa_c (pv 6) pa_nil)) rfl) (pss_one (ps_expr (pe_bmK K PySem.F.plainAttrs_list PySem.F.slot_list_append PySem.F.type_list_append mt_append (pv 6) (pa_c (pv 11) pa_nil))))) pss_nil))) (pss_cons (ps_if (pt_cmpR op_gt (pe_cB (call_len_seqK K) (by rfl) T.b_len boot_len (pa_c (pv 6) pa_nil)) (pv 4) (nomark _)) (pss_one ps_never) pss_nil) (pss_one (ps_dputH hu (pv 7) (pv 9) (pe_callC C_renamed hr (by omega) (by rfl) (pa_c (pv 10) (pa_c (pv 5) pa_nil))) rfl)))))) (pss_one (ps_aug (i := 8) sc_tree_explored.nd rfl (Or.inl rfl) pe_int ip_add)))) (pss_cons (ps_setC (i := 12) sc_tree_explored.nd rfl (Or.inl rfl) ["letter"] [(7, "known"), (6, "found")] (CompOk.of rfl (by rfl) (by rfl)) (by rfl) (pi_range1 (by rfl) T.b_range (pa_c (pe_op op_shl pe_int (pv 0)) pa_nil)) (fun _ _ _ _ _ => (pg_name (i := 0) (show List.Nodup (["letter", "known", "found"] : List Str) by decide +kernel) (by rfl) (Or.inl (by rfl)))) (fun _ _ _ _ _ => pf_nil) (fun _ _ _ _ _ => (pe_callC C_ways_of hr (by omega) (by rfl) (pa_c (pv 1) (pa_c (pe_cB (call_len_seqK K) (by rfl) T.b_len boot_len (pa_c (pv 2) pa_nil)) (pa_c (pv 0) pa_nil)))))) (pss_one (ps_ret (pe_tupN (pa_c (pv 0) (pa_c (pe_cTy call_tuple_ofN (by rfl) T.b_tuple boot_tuple (pa_c (pv 12) pa_nil)) (pa_c (pe_cTy call_tuple_ofN (by rfl) T.b_tuple boot_tuple (pa_c (pe_lcomp ["thing"] [(3, "is_end")] (CompOk.of rfl (by rfl) (by rfl)) (by rfl) (pi_listK K (pv 6)) (fun _ _ _ _ _ => (pg_name (i := 0) (show List.Nodup (["thing", "is_end"] : List Str) by decide +kernel) (by rfl) (Or.inl (by rfl)))) (fun _ _ _ _ _ => pf_nil) (fun _ _ _ _ _ => (pe_callVK P w K mg base 1 4 1 (sp_endT R x) hr (by omega) (pa_c (pv 0) pa_nil)))) pa_nil)) pa_nil)))))))))))), ?_⟩
  refine rd_st [some (nV x.w), some (.ref fc), some (nV 0), some (.ref fe), some (nV mo), none, none, none, none, none, none, none, none] rfl ?_
  simp only [exists_eq', rEqI, rNeI, rInDc, rLenD, rLenT, rMaxL, rIndex, rCatTN, rCatTE, tDNewN, tDNewTN, rNeM, rRange2, rListRng, rRepN, rPopAt, rSetL, gSub, ipI, tDGet, sDPut, tLam, tCallA, tCallV, tDef, ipCatT, rRange1, rIndexD, rInD, rIxD, rLen, rAll, rSum, rListOf, rSlTN, tTupN, tLstN, rSlLN, rCatN, cxK, cxP, cxW, tSeq, tIfS, tTest, tB, tOp, tUn, tC, tAnd, tOr, tNot, tAndV, tOrV, tNotV, tIf, tNext, tBreak, tCont, tDrop, tRet, tRetN, gName, gNil, gCons, gTup, tAsg, tPar, tAug, rI, rI0, rU, rEq, rNe, tChain, tNil, tCons, tTup, tLst, tCall, tCB, tNoPart, tPart, tSl, rSlT, rSlL, rIxL, rIxT, rIn, tBM, tyV, rAppend, rExtend, rCat, rEqD, iList, iTup, iRng1, iRng2, tYes, tDisp, tPairs, rd_v0, rd_vS, rd_comp, rd_for, rd_ite_t, rd_ite_f, List.set_cons_zero, List.set_cons_succ, List.nil_append, List.cons_append, List.append_nil, V.int.injEq, V.bl.injEq, V.ref.injEq, V.ty.injEq, List.cons.injEq, and_true, true_and, exists_eq_left, exists_eq_left', exists_and_left, exists_eq, exists_const, if_true, if_false, ite_true, ite_false, rd_ii, rd_bb, Option.some.injEq, exists_eq_right, exists_eq_right', and_assoc, reduceCtorEq, false_and, and_false, false_or, or_false, exists_false]
  refine fun kd hkd => ⟨upd_same, [(keyI 0, V.int 0)], rfl, by decide, small_line (by simp), fun pf H2 n2 pk H3 n3 => ?_⟩
  generalize eH : upd (upd H kd (.dK [])) kd (.dK (mergeK [] [(keyI 0, V.int 0)])) = Hk2 at n2
  have gk : Same H Hk2 := by rw [← eH]; exact ((Same.refl H).wr hkd _).wr hkd _
  have ek : Hk2 kd = some (.dK (tabF keyI 0 [0])) := by rw [← eH, upd_same]; rfl
  have g3 : Same H H3 := gk.trans (n2.g.trans n3.g)
  have nfk : kd ≠ pf := ne_of_none ek n2.nil
  have nkk : kd ≠ pk := ne_of_none (n2.g _ _ ek) n3.nil
  have nfp : pf ≠ pk := ne_of_none n2.at' n3.nil
  have hpf : H pf = none := gk.free n2.nil
  have hpk : H pk = none := (gk.trans n2.g).free n3.nil
  refine ⟨fun mm σ H' => ∃ (k : Nat) (fs : List Nat) (kvs : List (List Key × V)) (v9 v10 v11 : Option V), mm = 100 - k ∧ Same H H' ∧ σ = [some (nV x.w), some (.ref fc), some (nV 0), some (.ref fe), some (nV mo), some (.ref kd), some (.ref pf), some (.ref pk), some (nV k), v9, v10, v11, none] ∧ H' kd = some (.dK (tabF keyI 0 fs)) ∧ H' pf = some (.lst (fs.map nV)) ∧ H' pk = some (.dT kvs) ∧ KnT x fs H' (alls k) kvs ∧ TFnd x fs (alls k) ∧ k ≤ fs.length,
    ⟨100, 0, [0], [], none, none, none, rfl, g3, rfl, (n2.g.trans n3.g) _ _ ek, n3.g _ _ n2.at', n3.at', ⟨rfl, fun p hp => (nomatch hp)⟩, TFnd.start ok.pos, by decide⟩, ?_⟩
  rintro mm σ H' ⟨k, fs, kvs, v9, v10, v11, rfl, g, rfl, ek', ef', ep', kn, F, hk⟩
  have hfl : fs.length ≤ x.n := nodup_le F.nd F.rm
  simp only [exists_eq', rEqI, rNeI, rInDc, rLenD, rLenT, rMaxL, rIndex, rCatTN, rCatTE, tDNewN, tDNewTN, rNeM, rRange2, rListRng, rRepN, rPopAt, rSetL, gSub, ipI, tDGet, sDPut, tLam, tCallA, tCallV, tDef, ipCatT, rRange1, rIndexD, rInD, rIxD, rLen, rAll, rSum, rListOf, rSlTN, tTupN, tLstN, rSlLN, rCatN, cxK, cxP, cxW, tSeq, tIfS, tTest, tB, tOp, tUn, tC, tAnd, tOr, tNot, tAndV, tOrV, tNotV, tIf, tNext, tBreak, tCont, tDrop, tRet, tRetN, gName, gNil, gCons, gTup, tAsg, tPar, tAug, rI, rI0, rU, rEq, rNe, tChain, tNil, tCons, tTup, tLst, tCall, tCB, tNoPart, tPart, tSl, rSlT, rSlL, rIxL, rIxT, rIn, tBM, tyV, rAppend, rExtend, rCat, rEqD, iList, iTup, iRng1, iRng2, tYes, tDisp, tPairs, rd_v0, rd_vS, rd_comp, rd_for, rd_ite_t, rd_ite_f, List.set_cons_zero, List.set_cons_succ, List.nil_append, List.cons_append, List.append_nil, V.int.injEq, V.bl.injEq, V.ref.injEq, V.ty.injEq, List.cons.injEq, and_true, true_and, exists_eq_left, exists_eq_left', exists_and_left, exists_eq, exists_const, if_true, if_false, ite_true, ite_false, rd_ii, rd_bb, Option.some.injEq, exists_eq_right, exists_eq_right', and_assoc, reduceCtorEq, false_and, and_false, false_or, or_false, exists_false]
  refine ⟨_, .inl (.of ef'), ?_⟩
  rw [List.length_map]
  by_cases hlt : k < fs.length
  · rw [decide_eq_true (by omega)]
    refine iteT ⟨fun σ' H'' => ∃ m', m' < 100 - k ∧ _, fun σ' H'' z => z, ?_⟩
    refine ⟨k, rfl, by omega, fun D rs H1 hD g1 eD pr1 => ⟨D, rfl, ⟨_, .of eD⟩, ?_⟩⟩
    have hkk : k * k ≤ 900 := Nat.le_trans (Nat.mul_le_mul (show k ≤ 30 by omega) (show k ≤ 30 by omega)) (by decide)
    have hal := alls_len k
    have hul := ups_len k
    have hrl := SS.Paired.len pr1
    rw [List.length_map] at hrl
    have nkD : kd ≠ D := ne_of_none ek' hD
    have nfD : pf ≠ D := ne_of_none ef' hD
    have npD : pk ≠ D := ne_of_none ep' hD
    refine fb_list (K := K) (a := D) (xs := rs) (fun j σ H'' => Same H H'' ∧ TupS H1 H'' ∧ (∃ v9 v10 v11, σ = [some (nV x.w), some (.ref fc), some (nV 0), some (.ref fe), some (nV mo), some (.ref kd), some (.ref pf), some (.ref pk), some (nV k), v9, v10, v11, none]) ∧ H'' D = some (.lst rs) ∧ ∃ (fs : List Nat) (kvs : List (List Key × V)), H'' kd = some (.dK (tabF keyI 0 fs)) ∧ H'' pf = some (.lst (fs.map nV)) ∧ H'' pk = some (.dT kvs) ∧ KnT x fs H'' (alls k ++ (ups k).take j) kvs ∧ TFnd x fs (alls k ++ (ups k).take j) ∧ k < fs.length)
      ⟨g.trans g1, TupS.refl _, ⟨_, _, _, rfl⟩, eD, fs, kvs, g1 _ _ ek', g1 _ _ ef', g1 _ _ ep', by rw [List.take_zero, List.append_nil]; exact kn.ts g1.tups, by rw [List.take_zero, List.append_nil]; exact F, hlt⟩ (fun j σ H'' _ z => .of z.2.2.2.1) ?_ ?_
    · rintro j y σ H'' hy ⟨g2, ts, ⟨w9, w10, w11, rfl⟩, eD2, fs2, kvs2, ek2, ef2, ep2, kn2, F2, hk2⟩
      obtain ⟨ll, el, tp, rfl, etp⟩ := SS.Paired.at pr1 hy
      rw [List.getElem?_map] at el
      obtain ⟨p, eup, rfl⟩ := Option.map_eq_some_iff.mp el
      obtain ⟨i, i'⟩ := p
      have hjl := (List.getElem?_eq_some_iff.mp eup).1
      have hmem := ups_mem.mp (List.mem_of_getElem? eup)
      have etp2 := ts _ _ etp
      have hi : i < fs2.length := by have := hmem.1; show i < fs2.length; omega
      have hi' : i' < fs2.length := by have := hmem.2.1; omega
      have hri := F2.rm _ (ix_mem hi)
      have hri' := F2.rm _ (ix_mem hi')
      simp only [exists_eq', rEqI, rNeI, rInDc, rLenD, rLenT, rMaxL, rIndex, rCatTN, rCatTE, tDNewN, tDNewTN, rNeM, rRange2, rListRng, rRepN, rPopAt, rSetL, gSub, ipI, tDGet, sDPut, tLam, tCallA, tCallV, tDef, ipCatT, rRange1, rIndexD, rInD, rIxD, rLen, rAll, rSum, rListOf, rSlTN, tTupN, tLstN, rSlLN, rCatN, cxK, cxP, cxW, tSeq, tIfS, tTest, tB, tOp, tUn, tC, tAnd, tOr, tNot, tAndV, tOrV, tNotV, tIf, tNext, tBreak, tCont, tDrop, tRet, tRetN, gName, gNil, gCons, gTup, tAsg, tPar, tAug, rI, rI0, rU, rEq, rNe, tChain, tNil, tCons, tTup, tLst, tCall, tCB, tNoPart, tPart, tSl, rSlT, rSlL, rIxL, rIxT, rIn, tBM, tyV, rAppend, rExtend, rCat, rEqD, iList, iTup, iRng1, iRng2, tYes, tDisp, tPairs, rd_v0, rd_vS, rd_comp, rd_for, rd_ite_t, rd_ite_f, List.set_cons_zero, List.set_cons_succ, List.nil_append, List.cons_append, List.append_nil, V.int.injEq, V.bl.injEq, V.ref.injEq, V.ty.injEq, List.cons.injEq, and_true, true_and, exists_eq_left, exists_eq_left', exists_and_left, exists_eq, exists_const, if_true, if_false, ite_true, ite_false, rd_ii, rd_bb, Option.some.injEq, exists_eq_right, exists_eq_right', and_assoc, reduceCtorEq, false_and, and_false, false_or, or_false, exists_false]
      refine ⟨fc, rfl, fdc, g2 _ _ efc, _, .of etp2, _, atI_0, _, _, rfl, .of ef2, _, atI_nat (by rw [List.getElem?_map, ix_at hi]; rfl), ?_⟩
      refine ⟨_, .of etp2, _, atI_nat (j := 1) rfl, _, _, rfl, .of ef2, _, atI_nat (by rw [List.getElem?_map, ix_at hi']; rfl), g2 _ _ efc, clc.mono g2.frz, rfl, ix fs2 i, ix fs2 i', rfl, hRs _ _ g2 hR, hri, hri', fun D2 H3' hD2 g3' eD2' => ⟨D2, rfl, ⟨_, .of eD2'⟩, ?_⟩⟩
      have F' := F2.step ok hi hi'
      have hfl' : (news fs2 (x.com (ix fs2 i) (ix fs2 i'))).length ≤ x.n := nodup_le F'.nd F'.rm
      have hcl : (x.com (ix fs2 i) (ix fs2 i')).length = 2 ^ x.w := com_len
      have hfl2 : fs2.length ≤ x.n := nodup_le F2.nd F2.rm
      obtain ⟨tl, etl⟩ := news_pre (x.com (ix fs2 i) (ix fs2 i')) fs2
      have nkD2 : kd ≠ D2 := ne_of_none ek2 hD2
      have nfD2 : pf ≠ D2 := ne_of_none ef2 hD2
      have npD2 : pk ≠ D2 := ne_of_none ep2 hD2
      have nDD2 : D ≠ D2 := ne_of_none eD2 hD2
      refine fb_list (K := K) (a := D2) (xs := (x.com (ix fs2 i) (ix fs2 i')).map nV) (fun j2 σ Ha => Same H Ha ∧ TupS H3' Ha ∧ (∃ v11, σ = [some (nV x.w), some (.ref fc), some (nV 0), some (.ref fe), some (nV mo), some (.ref kd), some (.ref pf), some (.ref pk), some (nV k), some (.ref tp), some (.ref D2), v11, none]) ∧ Ha D = some (.lst rs) ∧ Ha D2 = some (.lst ((x.com (ix fs2 i) (ix fs2 i')).map nV)) ∧ Ha kd = some (.dK (tabF keyI 0 (news fs2 ((x.com (ix fs2 i) (ix fs2 i')).take j2)))) ∧ Ha pf = some (.lst ((news fs2 ((x.com (ix fs2 i) (ix fs2 i')).take j2)).map nV)) ∧ Ha pk = some (.dT kvs2))
        ⟨g2.trans g3', TupS.refl _, ⟨_, rfl⟩, g3' _ _ eD2, eD2', g3' _ _ ek2, g3' _ _ ef2, g3' _ _ ep2⟩ (fun j2 σ Ha _ z => .of z.2.2.2.2.1) ?_ ?_
      · rintro j2 y σ Ha hy2 ⟨ga, tsa, ⟨v11', rfl⟩, eDa, eD2a, eka, efa, epa⟩
        rw [List.getElem?_map] at hy2
        obtain ⟨u, eu, rfl⟩ := Option.map_eq_some_iff.mp hy2
        have hnl := news_len ((x.com (ix fs2 i) (ix fs2 i')).take j2) fs2
        rw [List.length_take] at hnl
        simp only [exists_eq', rEqI, rNeI, rInDc, rLenD, rLenT, rMaxL, rIndex, rCatTN, rCatTE, tDNewN, tDNewTN, rNeM, rRange2, rListRng, rRepN, rPopAt, rSetL, gSub, ipI, tDGet, sDPut, tLam, tCallA, tCallV, tDef, ipCatT, rRange1, rIndexD, rInD, rIxD, rLen, rAll, rSum, rListOf, rSlTN, tTupN, tLstN, rSlLN, rCatN, cxK, cxP, cxW, tSeq, tIfS, tTest, tB, tOp, tUn, tC, tAnd, tOr, tNot, tAndV, tOrV, tNotV, tIf, tNext, tBreak, tCont, tDrop, tRet, tRetN, gName, gNil, gCons, gTup, tAsg, tPar, tAug, rI, rI0, rU, rEq, rNe, tChain, tNil, tCons, tTup, tLst, tCall, tCB, tNoPart, tPart, tSl, rSlT, rSlL, rIxL, rIxT, rIn, tBM, tyV, rAppend, rExtend, rCat, rEqD, iList, iTup, iRng1, iRng2, tYes, tDisp, tPairs, rd_v0, rd_vS, rd_comp, rd_for, rd_ite_t, rd_ite_f, List.set_cons_zero, List.set_cons_succ, List.nil_append, List.cons_append, List.append_nil, V.int.injEq, V.bl.injEq, V.ref.injEq, V.ty.injEq, List.cons.injEq, and_true, true_and, exists_eq_left, exists_eq_left', exists_and_left, exists_eq, exists_const, if_true, if_false, ite_true, ite_false, rd_ii, rd_bb, Option.some.injEq, exists_eq_right, exists_eq_right', and_assoc, reduceCtorEq, false_and, and_false, false_or, or_false, exists_false]
        refine ⟨_, DGet.n (n := (u : Int)) eka, ?_⟩
        by_cases hin : u ∈ news fs2 ((x.com (ix fs2 i) (ix fs2 i')).take j2)
        · rw [show valV (tabF keyI 0 _) (.inl (u : Int)) = _ from tabF_in keyI_inj hin]
          refine iteF ?_
          rw [news_takeA eu, nxt_in hin]
          exact ⟨ga, tsa, eDa, eD2a, eka, efa, epa⟩
        · rw [show valV (tabF keyI 0 _) (.inl (u : Int)) = _ from tabF_out keyI_inj hin]
          rw [news_takeA eu, nxt_out hin]
          generalize news fs2 ((x.com (ix fs2 i) (ix fs2 i')).take j2) = ds at hin eka efa hnl
          have ef3 : ∀ o, upd Ha kd o pf = some (.lst (ds.map nV)) := fun o => by rw [upd_ne (Ne.symm nfk)]; exact efa
          refine iteT ⟨_, .inl (.of efa), _, DPut.n (n := (u : Int)) eka (by rw [tabF_len]; exact small1000 (by omega)), .inl ⟨_, .of (ef3 _)⟩, _, ef3 _, by rw [List.length_map]; exact small1000 (by omega), ?_⟩
          have ep : putK (tabF keyI 0 ds) (.inl (u : Int)) (V.int ((ds.map nV).length : Int)) = tabF keyI 0 (ds ++ [u]) := by
            rw [← tabF_put keyI_inj hin, tabF_len, List.length_map]; rfl
          have tsA : TupS Ha (upd (upd Ha kd (.dK (putK (tabF keyI 0 ds) (.inl (u : Int)) (V.int ((ds.map nV).length : Int))))) pf (.lst (ds.map nV ++ [nV u]))) := (TupS.wrK eka _).trans (TupS.wr (ef3 _) _)
          exact ⟨(ga.wr hkd _).wr hpf _, tsa.trans tsA, by rw [upd_ne (Ne.symm nfD), upd_ne (Ne.symm nkD)]; exact eDa, by rw [upd_ne (Ne.symm nfD2), upd_ne (Ne.symm nkD2)]; exact eD2a, by rw [upd_ne nfk, upd_same, ep], by rw [upd_same, List.map_append]; rfl, by rw [upd_ne (Ne.symm nfp), upd_ne (Ne.symm nkk)]; exact epa⟩
      · rintro σ Ha ⟨ga, tsa, ⟨v11', rfl⟩, eDa, eD2a, eka, efa, epa⟩
        rw [List.length_map, List.take_of_length_le (Nat.le_refl _)] at eka efa
        simp only [exists_eq', rEqI, rNeI, rInDc, rLenD, rLenT, rMaxL, rIndex, rCatTN, rCatTE, tDNewN, tDNewTN, rNeM, rRange2, rListRng, rRepN, rPopAt, rSetL, gSub, ipI, tDGet, sDPut, tLam, tCallA, tCallV, tDef, ipCatT, rRange1, rIndexD, rInD, rIxD, rLen, rAll, rSum, rListOf, rSlTN, tTupN, tLstN, rSlLN, rCatN, cxK, cxP, cxW, tSeq, tIfS, tTest, tB, tOp, tUn, tC, tAnd, tOr, tNot, tAndV, tOrV, tNotV, tIf, tNext, tBreak, tCont, tDrop, tRet, tRetN, gName, gNil, gCons, gTup, tAsg, tPar, tAug, rI, rI0, rU, rEq, rNe, tChain, tNil, tCons, tTup, tLst, tCall, tCB, tNoPart, tPart, tSl, rSlT, rSlL, rIxL, rIxT, rIn, tBM, tyV, rAppend, rExtend, rCat, rEqD, iList, iTup, iRng1, iRng2, tYes, tDisp, tPairs, rd_v0, rd_vS, rd_comp, rd_for, rd_ite_t, rd_ite_f, List.set_cons_zero, List.set_cons_succ, List.nil_append, List.cons_append, List.append_nil, V.int.injEq, V.bl.injEq, V.ref.injEq, V.ty.injEq, List.cons.injEq, and_true, true_and, exists_eq_left, exists_eq_left', exists_and_left, exists_eq, exists_const, if_true, if_false, ite_true, ite_false, rd_ii, rd_bb, Option.some.injEq, exists_eq_right, exists_eq_right', and_assoc, reduceCtorEq, false_and, and_false, false_or, or_false, exists_false]
        refine ⟨_, .inl (.of efa), ?_⟩
        rw [List.length_map, decide_eq_false (by omega)]
        have etpA : Ha tp = some (.tup ((keyL (pL (i, i'))).map kV)) := by rw [keyL_V]; exact tsa _ _ (g3'.tups _ _ etp2)
        refine iteF (.inr (.inr ⟨D2, kd, x.com (ix fs2 i) (ix fs2 i'), _, (fun r => nV (nOf (news fs2 (x.com (ix fs2 i) (ix fs2 i'))) r)), rfl, eD2a, by omega, eka, (fun r hr => tabF_in keyI_inj ((news_mem _ _ _).mpr (.inr hr))), fun p Hb gb eb => ?_⟩))
        have hkl := kn2.len
        rw [List.length_append, List.length_take] at hkl
        refine ⟨_, DPut.t (gb _ _ epa) (gb _ _ etpA) (by rw [hkl]; exact small1000 (by omega)), ?_⟩
        have tsC : TupS Hb (upd Hb pk (.dT (putK kvs2 (keyL (pL (i, i'))) (.ref p)))) := TupS.wrT (gb _ _ epa) _
        have tsB : TupS Ha (upd Hb pk (.dT (putK kvs2 (keyL (pL (i, i'))) (.ref p)))) := gb.tups.trans tsC
        have et1 : (ups k).take (j + 1) = (ups k).take j ++ [(i, i')] := by rw [List.take_add_one, eup, Option.toList_some]
        refine ⟨(ga.trans gb).wr hpk _, ts.trans (g3'.tups.trans (tsa.trans tsB)), by rw [upd_ne (Ne.symm npD)]; exact gb _ _ eDa, news fs2 (x.com (ix fs2 i) (ix fs2 i')), by rw [upd_ne nkk]; exact gb _ _ eka, by rw [upd_ne nfp]; exact gb _ _ efa, _, upd_same, ?_, by rw [et1, ← List.append_assoc]; exact F', by rw [etl, List.length_append]; omega⟩
        rw [et1, ← List.append_assoc]
        refine KnT.put ((kn2.more F2 etl).ts (g3'.tups.trans (tsa.trans tsB))) (ups_fresh eup) ⟨p, rfl, ?_⟩
        rw [etl, ix_app hi, ix_app hi', ← etl]
        have := tsC _ _ eb
        rw [List.map_map]
        exact this
    · rintro σ H'' ⟨g2, ts, ⟨w9, w10, w11, rfl⟩, eD2, fs2, kvs2, ek2, ef2, ep2, kn2, F2, hk2⟩
      rw [hrl, List.take_of_length_le (Nat.le_refl _), ← alls_succ] at kn2 F2
      have hfl2 : fs2.length ≤ x.n := nodup_le F2.nd F2.rm
      simp only [exists_eq', rEqI, rNeI, rInDc, rLenD, rLenT, rMaxL, rIndex, rCatTN, rCatTE, tDNewN, tDNewTN, rNeM, rRange2, rListRng, rRepN, rPopAt, rSetL, gSub, ipI, tDGet, sDPut, tLam, tCallA, tCallV, tDef, ipCatT, rRange1, rIndexD, rInD, rIxD, rLen, rAll, rSum, rListOf, rSlTN, tTupN, tLstN, rSlLN, rCatN, cxK, cxP, cxW, tSeq, tIfS, tTest, tB, tOp, tUn, tC, tAnd, tOr, tNot, tAndV, tOrV, tNotV, tIf, tNext, tBreak, tCont, tDrop, tRet, tRetN, gName, gNil, gCons, gTup, tAsg, tPar, tAug, rI, rI0, rU, rEq, rNe, tChain, tNil, tCons, tTup, tLst, tCall, tCB, tNoPart, tPart, tSl, rSlT, rSlL, rIxL, rIxT, rIn, tBM, tyV, rAppend, rExtend, rCat, rEqD, iList, iTup, iRng1, iRng2, tYes, tDisp, tPairs, rd_v0, rd_vS, rd_comp, rd_for, rd_ite_t, rd_ite_f, List.set_cons_zero, List.set_cons_succ, List.nil_append, List.cons_append, List.append_nil, V.int.injEq, V.bl.injEq, V.ref.injEq, V.ty.injEq, List.cons.injEq, and_true, true_and, exists_eq_left, exists_eq_left', exists_and_left, exists_eq, exists_const, if_true, if_false, ite_true, ite_false, rd_ii, rd_bb, Option.some.injEq, exists_eq_right, exists_eq_right', and_assoc, reduceCtorEq, false_and, and_false, false_or, or_false, exists_false]
      exact ⟨_, rfl, _, rfl, 100 - (k + 1), by omega, k + 1, rfl, g2, rfl, fs2, ek2, ef2, kvs2, ep2, kn2, F2, by omega⟩
  · rw [decide_eq_false (by omega)]
    have hk : k = fs.length := by omega
    subst hk
    refine iteF ?_
    have hpi : (1 * 2 ^ ((x.w : Nat) : Int).toNat : Int) = ((2 ^ x.w : Nat) : Int) := by simp
    have hpw : (1 * 2 ^ ((x.w : Nat) : Int).toNat : Int).toNat = 2 ^ x.w := by rw [hpi]; exact Int.toNat_natCast _
    refine ⟨⟨by omega, by have := ok.wid; omega, by decide⟩, by rw [hpi]; omega, by rw [hpi]; omega, ?_⟩
    rw [hpw]
    refine cg_by (n := 2 ^ x.w) (fun σ => ∃ v, σ = [v, some (.ref pk), some (.ref pf)]) (fun l y H => Tab H y ((List.range fs.length).map fun i => (List.range fs.length).map fun j => nOf fs (x.go l (ix fs i) (ix fs j)))) (by omega) ⟨_, rfl⟩ (fun i H' hi gg => hi) (fun H' gg => Nat.le_refl _) ?_ ?_
    · rintro D i ys σ H1 y H1' hi gg hD hD' hl hy ⟨v, rfl⟩ ⟨rfl, rfl⟩
      simp only [exists_eq', rEqI, rNeI, rInDc, rLenD, rLenT, rMaxL, rIndex, rCatTN, rCatTE, tDNewN, tDNewTN, rNeM, rRange2, rListRng, rRepN, rPopAt, rSetL, gSub, ipI, tDGet, sDPut, tLam, tCallA, tCallV, tDef, ipCatT, rRange1, rIndexD, rInD, rIxD, rLen, rAll, rSum, rListOf, rSlTN, tTupN, tLstN, rSlLN, rCatN, cxK, cxP, cxW, tSeq, tIfS, tTest, tB, tOp, tUn, tC, tAnd, tOr, tNot, tAndV, tOrV, tNotV, tIf, tNext, tBreak, tCont, tDrop, tRet, tRetN, gName, gNil, gCons, gTup, tAsg, tPar, tAug, rI, rI0, rU, rEq, rNe, tChain, tNil, tCons, tTup, tLst, tCall, tCB, tNoPart, tPart, tSl, rSlT, rSlL, rIxL, rIxT, rIn, tBM, tyV, rAppend, rExtend, rCat, rEqD, iList, iTup, iRng1, iRng2, tYes, tDisp, tPairs, rd_v0, rd_vS, rd_comp, rd_for, rd_ite_t, rd_ite_f, List.set_cons_zero, List.set_cons_succ, List.nil_append, List.cons_append, List.append_nil, V.int.injEq, V.bl.injEq, V.ref.injEq, V.ty.injEq, List.cons.injEq, and_true, true_and, exists_eq_left, exists_eq_left', exists_and_left, exists_eq, exists_const, if_true, if_false, ite_true, ite_false, rd_ii, rd_bb, Option.some.injEq, exists_eq_right, exists_eq_right', and_assoc, reduceCtorEq, false_and, and_false, false_or, or_false, exists_false]
      rw [Int.zero_add]
      refine ⟨_, .inl (.of (gg _ _ ef')), pk, kvs, fs.length, i, 2 ^ x.w, (fun a b => (x.com (ix fs a) (ix fs b)).map (nOf fs)), by rw [List.length_map], gg _ _ ep', by omega, hi, (fun a b ha hb => ?_), fun p H2 g2 t2 => cg_step (fun j y H H' ts z => z.ts ts) (by omega) hi hD (g2 _ _ hD') hl hy g2.tups (gg.trans g2) ⟨_, rfl⟩ ?_⟩
      · obtain ⟨v, e1, l1⟩ := kn.2 (a, b) (alls_mem.mpr ⟨ha, hb⟩)
        exact ⟨v, e1, l1.ts gg.tups, by rw [List.length_map]; exact com_len⟩
      · have : ((List.range fs.length).map fun a => (List.range fs.length).map fun b => ((x.com (ix fs a) (ix fs b)).map (nOf fs)).getD i 0) = (List.range fs.length).map fun a => (List.range fs.length).map fun b => nOf fs (x.go i (ix fs a) (ix fs b)) :=
          List.map_congr_left fun a _ => List.map_congr_left fun b _ => com_getD hi
        rw [this] at t2
        exact t2
    intro D ys H1 hD g1 eD hl hy
    refine ⟨D, rfl, _, .inl ⟨.of eD, fun t1 H2 n2' => ⟨⟨_, .of ((g1.trans n2'.g) _ _ ef')⟩, ?_⟩⟩⟩
    have g12 := g1.trans n2'.g
    refine cg_by (n := fs.length) (fun σ => ∃ v, σ = [v, some (.ref fe)]) (fun j y H => y = .bl (x.fin (ix fs j))) (by omega) ⟨_, rfl⟩ (fun i H5 hi gg => ⟨_, nV (ix fs i), .of (gg _ _ (g12 _ _ ef')), by rw [List.getElem?_map, ix_at hi]; rfl⟩) (fun H5 gg => ⟨_, .of (gg _ _ (g12 _ _ ef')), by rw [List.length_map]; exact Nat.le_refl _⟩) ?_ ?_
    · rintro D' i ys' σ H5 y H5' hi gg hD' hD'' hl' hy' ⟨v, rfl⟩ ⟨rfl, yx⟩
      have ex := yx _ (.of (gg _ _ (g12 _ _ ef')))
      rw [List.getElem?_map, ix_at hi] at ex
      cases ex
      have gg' := g.trans (g12.trans gg)
      simp only [exists_eq', rEqI, rNeI, rInDc, rLenD, rLenT, rMaxL, rIndex, rCatTN, rCatTE, tDNewN, tDNewTN, rNeM, rRange2, rListRng, rRepN, rPopAt, rSetL, gSub, ipI, tDGet, sDPut, tLam, tCallA, tCallV, tDef, ipCatT, rRange1, rIndexD, rInD, rIxD, rLen, rAll, rSum, rListOf, rSlTN, tTupN, tLstN, rSlLN, rCatN, cxK, cxP, cxW, tSeq, tIfS, tTest, tB, tOp, tUn, tC, tAnd, tOr, tNot, tAndV, tOrV, tNotV, tIf, tNext, tBreak, tCont, tDrop, tRet, tRetN, gName, gNil, gCons, gTup, tAsg, tPar, tAug, rI, rI0, rU, rEq, rNe, tChain, tNil, tCons, tTup, tLst, tCall, tCB, tNoPart, tPart, tSl, rSlT, rSlL, rIxL, rIxT, rIn, tBM, tyV, rAppend, rExtend, rCat, rEqD, iList, iTup, iRng1, iRng2, tYes, tDisp, tPairs, rd_v0, rd_vS, rd_comp, rd_for, rd_ite_t, rd_ite_f, List.set_cons_zero, List.set_cons_succ, List.nil_append, List.cons_append, List.append_nil, V.int.injEq, V.bl.injEq, V.ref.injEq, V.ty.injEq, List.cons.injEq, and_true, true_and, exists_eq_left, exists_eq_left', exists_and_left, exists_eq, exists_const, if_true, if_false, ite_true, ite_false, rd_ii, rd_bb, Option.some.injEq, exists_eq_right, exists_eq_right', and_assoc, reduceCtorEq, false_and, and_false, false_or, or_false, exists_false]
      exact ⟨fe, rfl, fde, gg' _ _ efe, gg' _ _ efe, cle.mono gg'.frz, rfl, ix fs i, rfl, hRs _ _ gg' hR, F.rm _ (ix_mem hi), fun H6 g6 => cg_step (fun j y H H' ts z => z) (by omega) hi hD' (g6 _ _ hD'') hl' hy' g6.tups (gg.trans g6) ⟨_, rfl⟩ rfl⟩
    intro D' ys' H5 hD' g5 eD' hl' hy'
    have eE : ys' = ((List.range fs.length).map fun i => x.fin (ix fs i)).map V.bl := by
      refine List.ext_getElem? fun j => ?_
      by_cases hj : j < fs.length
      · rw [List.getElem?_eq_getElem (show j < ys'.length by omega), hy' j _ (List.getElem?_eq_getElem (show j < ys'.length by omega)), List.getElem?_map, List.getElem?_map, List.getElem?_range hj]
        rfl
      · rw [List.getElem?_eq_none (by omega), List.getElem?_eq_none (by rw [List.length_map, List.length_map, List.length_range]; omega)]
    refine ⟨D', rfl, _, .inl ⟨.of eD', fun t2 H6 n6 => ⟨small_line (by simp), fun t3 H7 n7 => ?_⟩⟩⟩
    have gA := n2'.g.trans (g5.trans (n6.g.trans n7.g))
    refine q t3 fs H7 (g.trans (g1.trans gA)) ⟨t1, t2, ys, n7.at', (g5.trans (n6.g.trans n7.g)) _ _ n2'.at', ?_, ?_⟩ F
    · refine paired_of (by rw [hl]; simp [xpl, mkT]) fun l v y e1 e2 => ?_
      have hl2 : l < 2 ^ x.w := by rw [← hl]; exact (List.getElem?_eq_some_iff.mp e1).1
      simp only [xpl, mkT, List.getElem?_map, List.getElem?_range hl2] at e2
      cases e2
      exact (hy l v e1).ts gA.tups
    · rw [n7.g _ _ n6.at', eE]
      rfl
end
end K46

set_option Elab.async false
set_option linter.all false
set_option maxRecDepth 100000
set_option maxHeartbeats 4000000
namespace K46
open PySem PySem.Spec PyProof.Rows L2 SS SM
seal PE PT PW PA PS PSs
section
variable {P : Program} {w : World} {K : PySem.W.Frag} {mg : Str → Option Value} {base : Heap}
abbrev s_tree_reduced : Stmt := top 14
theorem sc_tree_reduced : FnScope ["machine", "comings", "rooms"] ["machine"] (defScope s_tree_reduced) := ⟨rfl, rfl, rfl, by decide +kernel, rfl, by decide +kernel, by decide +kernel⟩
abbrev qs_tree_reduced : List (Pos × Str) := [(⟨64, 4, 65, 57⟩, "tree_reduced.<locals>.comings"), (⟨67, 60, 67, 89⟩, "tree_reduced.<locals>.<lambda>")]
theorem ok_tred {c Pt Pr : Addr} (T : Txt mg) (d : DfnC K mg "tree_reduced" s_tree_reduced ["machine"] c Pr) (kb : BltK base mg) (C_tree_explored : Cal P w K mg base 5 "tree_explored" ["tracks", "comings", "first", "is_end", "most"] (sp_texpl P w K mg base)) (C_tree_least : Cal P w K mg base 6 "tree_least" ["machine"] (sp_tleast Pt qs_tree_least)) :
    Cal P w K mg base 7 "tree_reduced" ["machine"] (sp_tred Pt qs_tree_least Pr qs_tree_reduced) := by
  refine d.cal sc_tree_reduced (fun vs H Q E h => ?_) (fun f A outer s H vs Q E hr h => ?_)
  · obtain ⟨a, m, rfl, _⟩ := h
    rfl
  obtain ⟨a, m, rfl, tl, tr, rm, ok, q⟩ := h
  obtain ⟨b1, c1, ts, ea, eb1, pr, ec⟩ := id rm
  have h30 : m.n ≤ 30 := ok.few
  have hps : 1 ≤ 2 ^ m.w ∧ 2 ^ m.w ≤ 16 := pow_small (by have := ok.wid; omega)
  refine ⟨_, (pss_cons (ps_dfn (qs := qs_tree_reduced) "tree_reduced.<locals>.comings" (j := 1) rfl d.code kb (by rfl) (by rfl) sc_tree_reduced.nd rfl rfl) (pss_cons (ps_set (i := 2) sc_tree_reduced.nd rfl (Or.inl rfl) (pe_cB (call_len_seqK K) (by rfl) T.b_len boot_len (pa_c (pe_ix (ix_tupK K) (pv 0) pe_int (fun _ _ => rfl)) pa_nil))) (pss_one (ps_ret (pe_callC C_tree_least hr (by omega) (by rfl) (pa_c (pe_callAC C_tree_explored hr (by omega) (by rfl) (fun _ => rfl) (pa_c (pe_ix (ix_tupK K) (pv 0) pe_int (fun _ _ => rfl)) (pa_c (pv 1) (pa_c pe_int (pa_c (pe_lam (qs := qs_tree_reduced) "tree_reduced.<locals>.<lambda>" rfl d.code kb (by rfl) (by rfl)) (pa_c (pv 2) pa_nil)))))) pa_nil)))))), ?_⟩
  refine rd_st [some (.ref a), none, none] rfl ?_
  simp only [exists_eq', rEqI, rNeI, rInDc, rLenD, rLenT, rMaxL, rIndex, rCatTN, rCatTE, tDNewN, tDNewTN, rNeM, rRange2, rListRng, rRepN, rPopAt, rSetL, gSub, ipI, tDGet, sDPut, tLam, tCallA, tCallV, tDef, ipCatT, rRange1, rIndexD, rInD, rIxD, rLen, rAll, rSum, rListOf, rSlTN, tTupN, tLstN, rSlLN, rCatN, cxK, cxP, cxW, tSeq, tIfS, tTest, tB, tOp, tUn, tC, tAnd, tOr, tNot, tAndV, tOrV, tNotV, tIf, tNext, tBreak, tCont, tDrop, tRet, tRetN, gName, gNil, gCons, gTup, tAsg, tPar, tAug, rI, rI0, rU, rEq, rNe, tChain, tNil, tCons, tTup, tLst, tCall, tCB, tNoPart, tPart, tSl, rSlT, rSlL, rIxL, rIxT, rIn, tBM, tyV, rAppend, rExtend, rCat, rEqD, iList, iTup, iRng1, iRng2, tYes, tDisp, tPairs, rd_v0, rd_vS, rd_comp, rd_for, rd_ite_t, rd_ite_f, List.set_cons_zero, List.set_cons_succ, List.nil_append, List.cons_append, List.append_nil, V.int.injEq, V.bl.injEq, V.ref.injEq, V.ty.injEq, List.cons.injEq, and_true, true_and, exists_eq_left, exists_eq_left', exists_and_left, exists_eq, exists_const, if_true, if_false, ite_true, ite_false, rd_ii, rd_bb, Option.some.injEq, exists_eq_right, exists_eq_right', and_assoc, reduceCtorEq, false_and, and_false, false_or, or_false, exists_false]
  refine ⟨tr, fun f1 H1 M1 => ?_⟩
  refine ⟨_, .of (M1.old _ _ ea), _, atI_nat (j := 2) rfl, c1, rfl, _, .inr (.of (M1.old _ _ ec)), _, .of (M1.old _ _ ea), _, atI_0, tr.same M1.old, fun f2 H2 M2 Hq ad => ?_⟩
  have g2 : Same H H2 := M1.old.trans M2.old
  have gq : Same H Hq := g2.trans ad.up
  obtain ⟨fd1, ef1⟩ := M1.fn
  obtain ⟨fd2, ef2⟩ := M2.fn
  have clc : CloH P w K mg base 4 Hq f1 2 (sp_comT (fun H => RepT H a m) m) := by
    refine M1.clo_sM (own := ["left", "right"]) (ps := ["left", "right"]) (cap := ["machine"]) (cv := [.ref a]) (k := 3) M2.old ad ⟨rfl, rfl, rfl, rfl, by decide +kernel, by decide +kernel, by decide +kernel, by decide +kernel⟩ (Nat.le_refl _) (.cons ⟨0, rfl, rfl, .inl rfl⟩ .nil) (fun cl ct cd pm us hl => match us, hl with | [_, _], _ => rfl) ?_
    rintro clo c' A' outer' s' H' vs Q' hr hcl fz fz2 hl ⟨l, r, rfl, hR, hl1, hr1, q'⟩
    refine ⟨_, (pss_one (ps_ret (pe_lcomp ["ways"] [(1, "right"), (0, "left")] (CompOk.of rfl (by rfl) (by rfl)) (by rfl) (pi_tupK K (pe_ix (ix_tupK K) (pv 2) pe_int (fun _ _ => rfl))) (fun _ _ _ _ _ => (pg_name (i := 0) (show List.Nodup (["ways", "right", "left"] : List Str) by decide +kernel) (by rfl) (Or.inl (by rfl)))) (fun _ _ _ _ _ => pf_nil) (fun _ _ _ _ _ => (pe_ix (ix_tupK K) (pe_ix (ix_tupK K) (pv 0) (pv 2) (fun _ _ => rfl)) (pv 1) (fun _ _ => rfl)))))), ?_⟩
    refine rd_st [some (nV l), some (nV r), some (.ref a)] rfl ?_
    simp only [exists_eq', rEqI, rNeI, rInDc, rLenD, rLenT, rMaxL, rIndex, rCatTN, rCatTE, tDNewN, tDNewTN, rNeM, rRange2, rListRng, rRepN, rPopAt, rSetL, gSub, ipI, tDGet, sDPut, tLam, tCallA, tCallV, tDef, ipCatT, rRange1, rIndexD, rInD, rIxD, rLen, rAll, rSum, rListOf, rSlTN, tTupN, tLstN, rSlLN, rCatN, cxK, cxP, cxW, tSeq, tIfS, tTest, tB, tOp, tUn, tC, tAnd, tOr, tNot, tAndV, tOrV, tNotV, tIf, tNext, tBreak, tCont, tDrop, tRet, tRetN, gName, gNil, gCons, gTup, tAsg, tPar, tAug, rI, rI0, rU, rEq, rNe, tChain, tNil, tCons, tTup, tLst, tCall, tCB, tNoPart, tPart, tSl, rSlT, rSlL, rIxL, rIxT, rIn, tBM, tyV, rAppend, rExtend, rCat, rEqD, iList, iTup, iRng1, iRng2, tYes, tDisp, tPairs, rd_v0, rd_vS, rd_comp, rd_for, rd_ite_t, rd_ite_f, List.set_cons_zero, List.set_cons_succ, List.nil_append, List.cons_append, List.append_nil, V.int.injEq, V.bl.injEq, V.ref.injEq, V.ty.injEq, List.cons.injEq, and_true, true_and, exists_eq_left, exists_eq_left', exists_and_left, exists_eq, exists_const, if_true, if_false, ite_true, ite_false, rd_ii, rd_bb, Option.some.injEq, exists_eq_right, exists_eq_right', and_assoc, reduceCtorEq, false_and, and_false, false_or, or_false, exists_false]
    obtain ⟨b1', c1', ts', ea', eb1', pr', ec'⟩ := RepT.ts hR (SameN.tups hcl.n)
    have htl : ts'.length = 2 ^ m.w := by rw [SS.Paired.len pr', ok.len]
    refine ⟨_, .of ea', _, atI_nat (j := 1) rfl, b1', rfl, ⟨_, .of eb1'⟩, cg_by (n := 2 ^ m.w) (fun σ => ∃ v, σ = [v, some (nV r), some (nV l)]) (fun j y H => y = nV (m.go j l r)) (by omega) ⟨_, rfl⟩ (fun i H5 hi gg => ⟨_, ts'[i]'(by omega), .of (gg _ _ eb1'), List.getElem?_eq_getElem _⟩) (fun H5 gg => ⟨_, .of (gg _ _ eb1'), by omega⟩) ?_ ?_⟩
    · rintro D i ys σ H5 y H5' hi gg hD hD' hll hy ⟨v, rfl⟩ ⟨rfl, yx⟩
      have ex := yx _ (.of (gg _ _ eb1'))
      obtain ⟨p, p2, rs, ln, z1, z2, z3, z4, z5⟩ := RepT.row pr' ok hi hl1 hr1
      rw [z1] at ex
      cases ex
      simp only [exists_eq', rEqI, rNeI, rInDc, rLenD, rLenT, rMaxL, rIndex, rCatTN, rCatTE, tDNewN, tDNewTN, rNeM, rRange2, rListRng, rRepN, rPopAt, rSetL, gSub, ipI, tDGet, sDPut, tLam, tCallA, tCallV, tDef, ipCatT, rRange1, rIndexD, rInD, rIxD, rLen, rAll, rSum, rListOf, rSlTN, tTupN, tLstN, rSlLN, rCatN, cxK, cxP, cxW, tSeq, tIfS, tTest, tB, tOp, tUn, tC, tAnd, tOr, tNot, tAndV, tOrV, tNotV, tIf, tNext, tBreak, tCont, tDrop, tRet, tRetN, gName, gNil, gCons, gTup, tAsg, tPar, tAug, rI, rI0, rU, rEq, rNe, tChain, tNil, tCons, tTup, tLst, tCall, tCB, tNoPart, tPart, tSl, rSlT, rSlL, rIxL, rIxT, rIn, tBM, tyV, rAppend, rExtend, rCat, rEqD, iList, iTup, iRng1, iRng2, tYes, tDisp, tPairs, rd_v0, rd_vS, rd_comp, rd_for, rd_ite_t, rd_ite_f, List.set_cons_zero, List.set_cons_succ, List.nil_append, List.cons_append, List.append_nil, V.int.injEq, V.bl.injEq, V.ref.injEq, V.ty.injEq, List.cons.injEq, and_true, true_and, exists_eq_left, exists_eq_left', exists_and_left, exists_eq, exists_const, if_true, if_false, ite_true, ite_false, rd_ii, rd_bb, Option.some.injEq, exists_eq_right, exists_eq_right', and_assoc, reduceCtorEq, false_and, and_false, false_or, or_false, exists_false]
      exact ⟨_, .of (gg _ _ z2), _, atI_nat z3, _, rfl, _, .of (gg _ _ z4), _, atI_nat z5, cg_step (fun j y H H' ts z => z) (by omega) hi hD hD' hll hy (Same.refl _).tups gg ⟨_, rfl⟩ rfl⟩
    intro D ys H5 hD g5 eD hll hy hn
    have eY : ys = (m.com l r).map nV := by
      refine List.ext_getElem? fun j => ?_
      by_cases hj : j < 2 ^ m.w
      · rw [List.getElem?_eq_getElem (show j < ys.length by omega), hy j _ (List.getElem?_eq_getElem (show j < ys.length by omega)), List.getElem?_map, Tm.com, List.getElem?_map, List.getElem?_range hj]
        rfl
      · rw [List.getElem?_eq_none (by omega), List.getElem?_eq_none (by rw [List.length_map, com_len]; omega)]
    rw [eY] at eD
    exact q' D (mixL clo H' H5) (drop_none hD eD hn) (mix_same g5) (mix_up hn _ _ eD)
  have cle : CloH P w K mg base 4 Hq f2 1 (sp_endT (fun H => RepT H a m) m) := by
    refine M2.clo_e (own := ["room"]) (ps := ["room"]) (cap := ["machine"]) (cv := [.ref a]) (k := 3) (Same.refl _) ad ⟨rfl, rfl, rfl, by decide +kernel, rfl, by decide +kernel, by decide +kernel, by decide +kernel⟩ (Nat.le_refl _) (.cons ⟨0, rfl, rfl, .inl rfl⟩ .nil) (fun cl ct cd pm us hl => match us, hl with | [_], _ => rfl) ?_
    rintro clo c' A' outer' s' H' vs Q' hr hcl fz fz2 hl ⟨r, rfl, hR, hr1, q'⟩
    refine ⟨_, (pe_ix (ix_tupK K) (pe_ix (ix_tupK K) (pv 1) pe_int (fun _ _ => rfl)) (pv 0) (fun _ _ => rfl)), ?_⟩
    refine rd_se [some (nV r), some (.ref a)] rfl ?_
    simp only [exists_eq', rEqI, rNeI, rInDc, rLenD, rLenT, rMaxL, rIndex, rCatTN, rCatTE, tDNewN, tDNewTN, rNeM, rRange2, rListRng, rRepN, rPopAt, rSetL, gSub, ipI, tDGet, sDPut, tLam, tCallA, tCallV, tDef, ipCatT, rRange1, rIndexD, rInD, rIxD, rLen, rAll, rSum, rListOf, rSlTN, tTupN, tLstN, rSlLN, rCatN, cxK, cxP, cxW, tSeq, tIfS, tTest, tB, tOp, tUn, tC, tAnd, tOr, tNot, tAndV, tOrV, tNotV, tIf, tNext, tBreak, tCont, tDrop, tRet, tRetN, gName, gNil, gCons, gTup, tAsg, tPar, tAug, rI, rI0, rU, rEq, rNe, tChain, tNil, tCons, tTup, tLst, tCall, tCB, tNoPart, tPart, tSl, rSlT, rSlL, rIxL, rIxT, rIn, tBM, tyV, rAppend, rExtend, rCat, rEqD, iList, iTup, iRng1, iRng2, tYes, tDisp, tPairs, rd_v0, rd_vS, rd_comp, rd_for, rd_ite_t, rd_ite_f, List.set_cons_zero, List.set_cons_succ, List.nil_append, List.cons_append, List.append_nil, V.int.injEq, V.bl.injEq, V.ref.injEq, V.ty.injEq, List.cons.injEq, and_true, true_and, exists_eq_left, exists_eq_left', exists_and_left, exists_eq, exists_const, if_true, if_false, ite_true, ite_false, rd_ii, rd_bb, Option.some.injEq, exists_eq_right, exists_eq_right', and_assoc, reduceCtorEq, false_and, and_false, false_or, or_false, exists_false]
    obtain ⟨b1', c1', ts', ea', eb1', pr', ec'⟩ := RepT.ts hR (SameN.tups hcl.n)
    exact ⟨_, .of ea', _, atI_nat (j := 2) rfl, c1', rfl, _, .of ec', _, atI_nat (by rw [List.getElem?_map, Tm.fin_at hr1]; rfl), fun hn => q' _ (mix_same (Same.refl _))⟩
  refine ⟨f1, f2, fd1, fd2, (fun H => RepT H a m), m, m.n, by rw [List.length_map]; rfl, ok, Nat.le_refl _, (M2.old.trans ad.up) _ _ ef1, ad.up _ _ ef2, clc, cle, rm.same gq, (fun H1 H2 g z => z.same g), fun p fs H5 g5 rp F => ?_⟩
  have g5' := g2.trans (ad.same g5)
  have rp' : RepT (dropX _ H5) p (xpl m fs) := rp.ts fun b xs e => ad.keep g5 e (fun _ _ z => nomatch z)
  dsimp only
  exact ⟨p, xpl m fs, rfl, tl.same g5', rp', xpl_ok ok F, fun p2 ns k H6 g6 r6 S k0 kn => q p2 _ H6 (g5'.trans g6) r6 (tred_of ok F S k0 (by rw [xpl_n] at kn; exact kn))⟩
end
end K46

set_option Elab.async false
set_option linter.all false
set_option maxRecDepth 100000
set_option maxHeartbeats 4000000
namespace K46
open PySem PySem.Spec PyProof.Rows L2 SS SM
seal PE PT PW PA PS PSs
section
variable {P : Program} {w : World} {K : PySem.W.Frag} {mg : Str → Option Value} {base : Heap}
abbrev s_law_cell_at : Stmt := top 16
theorem sc_law_cell_at : FnScope ["_law_script", "_law_k"] ["_law_script", "_law_k"] (defScope s_law_cell_at) := ⟨rfl, rfl, rfl, by decide +kernel, rfl, by decide +kernel, by decide +kernel⟩
theorem ok_cell (T : Txt mg) (d : Dfn K mg "_law_cell_at" s_law_cell_at ["_law_script", "_law_k"]) : Cal P w K mg base 1 "_law_cell_at" ["_law_script", "_law_k"] (sp_cell K) := by
  refine d.cal sc_law_cell_at (fun vs H Q E h => ?_) (fun f cdv A outer s H vs Q E hr h => ?_)
  · obtain ⟨a, ns, k, rfl, _⟩ := h
    rfl
  obtain ⟨a, ns, k, rfl, hS, h0, q⟩ := h
  refine ⟨_, (pss_cons (ps_if (pt_cmpR op_lt (pv 1) (pe_cB (call_len_seqK K) (by rfl) T.b_len boot_len (pa_c (pv 0) pa_nil)) (nomark _)) (pss_one (ps_ret (pe_ix (ix_listK K) (pv 0) (pv 1) (fun _ _ => rfl)))) pss_nil) (pss_one (ps_ret pe_int))), ?_⟩
  refine rd_st [some (.ref a), some (.int k)] rfl ?_
  simp only [exists_eq', rEqI, rNeI, rInDc, rLenD, rLenT, rMaxL, rIndex, rCatTN, rCatTE, tDNewN, tDNewTN, rNeM, rRange2, rListRng, rRepN, rPopAt, rSetL, gSub, ipI, tDGet, sDPut, tLam, tCallA, tCallV, tDef, ipCatT, rRange1, rIndexD, rInD, rIxD, rLen, rAll, rSum, rListOf, rSlTN, tTupN, tLstN, rSlLN, rCatN, cxK, cxP, cxW, tSeq, tIfS, tTest, tB, tOp, tUn, tC, tAnd, tOr, tNot, tAndV, tOrV, tNotV, tIf, tNext, tBreak, tCont, tDrop, tRet, tRetN, gName, gNil, gCons, gTup, tAsg, tPar, tAug, rI, rI0, rU, rEq, rNe, tChain, tNil, tCons, tTup, tLst, tCall, tCB, tNoPart, tPart, tSl, rSlT, rSlL, rIxL, rIxT, rIn, tBM, tyV, rAppend, rExtend, rCat, rEqD, iList, iTup, iRng1, iRng2, tYes, tDisp, tPairs, rd_v0, rd_vS, rd_comp, rd_for, rd_ite_t, rd_ite_f, List.set_cons_zero, List.set_cons_succ, List.nil_append, List.cons_append, List.append_nil, V.int.injEq, V.bl.injEq, V.ref.injEq, V.ty.injEq, List.cons.injEq, and_true, true_and, exists_eq_left, exists_eq_left', exists_and_left, exists_eq, exists_const, if_true, if_false, ite_true, ite_false, rd_ii, rd_bb, Option.some.injEq, exists_eq_right, exists_eq_right', and_assoc, reduceCtorEq, false_and, and_false, false_or, or_false, exists_false]
  refine ⟨_, .inl hS, ite2 (fun c => ?_) (fun _ => q 0)⟩
  have c' := of_decide_eq_true c
  rw [List.length_map] at c'
  have hk : k.toNat < ns.length := by omega
  have ek : k = ((k.toNat : Nat) : Int) := by omega
  have e : atI (ns.map V.int) ((k.toNat : Nat) : Int) = some (.int ns[k.toNat]) := atI_nat (by simp [hk])
  rw [← ek] at e
  exact ⟨_, hS, _, e, q _⟩
abbrev s_law_machine : Stmt := top 17
theorem sc_law_machine : FnScope ["_law_number", "_law_rooms", "_law_width", "_law_ways", "_law_letter", "_law_table", "_law_one", "_law_row", "_law_other", "_law_ends", "_law_room"] ["_law_number", "_law_rooms", "_law_width"] (defScope s_law_machine) := ⟨rfl, rfl, rfl, by decide +kernel, rfl, by decide +kernel, by decide +kernel⟩
theorem ok_machT (T : Txt mg) (d : Dfn K mg "_law_machine" s_law_machine ["_law_number", "_law_rooms", "_law_width"]) : Cal P w K mg base 1 "_law_machine" ["_law_number", "_law_rooms", "_law_width"] sp_machT := by
  refine d.cal sc_law_machine (fun vs H Q E h => ?_) (fun f cdv A outer s H vs Q E hr h => ?_)
  · obtain ⟨x, n, wd, rfl, _⟩ := h
    rfl
  obtain ⟨x, n, wd, rfl, hw, hn1, hn, q⟩ := h
  have hps : 1 ≤ 2 ^ wd ∧ 2 ^ wd ≤ 16 := pow_small (by omega)
  have hat : atI [V.int 1, V.int 2, V.int 4, V.int 8] ((wd : Nat) : Int) = some (nV (2 ^ wd)) := by
    have : wd = 0 ∨ wd = 1 ∨ wd = 2 ∨ wd = 3 := by omega
    rcases this with rfl | rfl | rfl | rfl <;> exact atI_nat rfl
  refine ⟨_, (pss_cons (ps_set (i := 3) sc_law_machine.nd rfl (Or.inl rfl) (pe_lstN pa_nil)) (pss_cons (ps_for PassesOwn.never rfl (pi_range1 (by rfl) T.b_range (pa_c (pe_ix (ix_listK K) (pe_lstN (pa_c pe_int (pa_c pe_int (pa_c pe_int (pa_c pe_int pa_nil))))) (pv 2) (fun _ _ => rfl)) pa_nil)) (pg_name (i := 4) sc_law_machine.nd (by rfl) (Or.inl (by rfl))) (pss_cons (ps_set (i := 5) sc_law_machine.nd rfl (Or.inl rfl) (pe_lstN pa_nil)) (pss_cons (ps_for PassesOwn.never rfl (pi_range1 (by rfl) T.b_range (pa_c (pv 1) pa_nil)) (pg_name (i := 6) sc_law_machine.nd (by rfl) (Or.inl (by rfl))) (pss_cons (ps_set (i := 7) sc_law_machine.nd rfl (Or.inl rfl) (pe_lstN pa_nil)) (pss_cons (ps_for PassesOwn.never rfl (pi_range1 (by rfl) T.b_range (pa_c (pv 1) pa_nil)) (pg_name (i := 8) sc_law_machine.nd (by rfl) (Or.inl (by rfl))) (pss_cons (ps_set (i := 0) sc_law_machine.nd rfl (Or.inl rfl) (pe_op op_mod (pe_op op_add (pe_op op_add (pe_op op_add (pe_op op_add (pe_op op_mul (pv 0) pe_int) (pe_op op_mul pe_int (pv 4))) (pe_op op_mul pe_int (pv 6))) (pv 8)) pe_int) pe_int)) (pss_one (ps_expr (pe_bmK K PySem.F.plainAttrs_list PySem.F.slot_list_append PySem.F.type_list_append mt_append (pv 7) (pa_c (pe_op op_mod (pe_op op_fdiv (pv 0) pe_int) (pv 1)) pa_nil)))))) (pss_one (ps_expr (pe_bmK K PySem.F.plainAttrs_list PySem.F.slot_list_append PySem.F.type_list_append mt_append (pv 5) (pa_c (pe_cTy call_tuple_ofN (by rfl) T.b_tuple boot_tuple (pa_c (pv 7) pa_nil)) pa_nil))))))) (pss_one (ps_expr (pe_bmK K PySem.F.plainAttrs_list PySem.F.slot_list_append PySem.F.type_list_append mt_append (pv 3) (pa_c (pe_cTy call_tuple_ofN (by rfl) T.b_tuple boot_tuple (pa_c (pv 5) pa_nil)) pa_nil))))))) (pss_cons (ps_set (i := 9) sc_law_machine.nd rfl (Or.inl rfl) (pe_lstN pa_nil)) (pss_cons (ps_for PassesOwn.never rfl (pi_range1 (by rfl) T.b_range (pa_c (pv 1) pa_nil)) (pg_name (i := 10) sc_law_machine.nd (by rfl) (Or.inl (by rfl))) (pss_cons (ps_set (i := 0) sc_law_machine.nd rfl (Or.inl rfl) (pe_op op_mod (pe_op op_add (pe_op op_add (pe_op op_mul (pv 0) pe_int) (pv 10)) pe_int) pe_int)) (pss_one (ps_expr (pe_bmK K PySem.F.plainAttrs_list PySem.F.slot_list_append PySem.F.type_list_append mt_append (pv 9) (pa_c (pe_cmpR op_eq (pe_op op_mod (pe_op op_fdiv (pv 0) pe_int) pe_int) pe_int (nomark _)) pa_nil)))))) (pss_one (ps_ret (pe_tupN (pa_c (pv 2) (pa_c (pe_cTy call_tuple_ofN (by rfl) T.b_tuple boot_tuple (pa_c (pv 3) pa_nil)) (pa_c (pe_cTy call_tuple_ofN (by rfl) T.b_tuple boot_tuple (pa_c (pv 9) pa_nil)) pa_nil)))))))))), ?_⟩
  refine rd_st [some (.int x), some (nV n), some (nV wd), none, none, none, none, none, none, none, none] rfl ?_
  simp only [exists_eq', rEqI, rNeI, rInDc, rLenD, rLenT, rMaxL, rIndex, rCatTN, rCatTE, tDNewN, tDNewTN, rNeM, rRange2, rListRng, rRepN, rPopAt, rSetL, gSub, ipI, tDGet, sDPut, tLam, tCallA, tCallV, tDef, ipCatT, rRange1, rIndexD, rInD, rIxD, rLen, rAll, rSum, rListOf, rSlTN, tTupN, tLstN, rSlLN, rCatN, cxK, cxP, cxW, tSeq, tIfS, tTest, tB, tOp, tUn, tC, tAnd, tOr, tNot, tAndV, tOrV, tNotV, tIf, tNext, tBreak, tCont, tDrop, tRet, tRetN, gName, gNil, gCons, gTup, tAsg, tPar, tAug, rI, rI0, rU, rEq, rNe, tChain, tNil, tCons, tTup, tLst, tCall, tCB, tNoPart, tPart, tSl, rSlT, rSlL, rIxL, rIxT, rIn, tBM, tyV, rAppend, rExtend, rCat, rEqD, iList, iTup, iRng1, iRng2, tYes, tDisp, tPairs, rd_v0, rd_vS, rd_comp, rd_for, rd_ite_t, rd_ite_f, List.set_cons_zero, List.set_cons_succ, List.nil_append, List.cons_append, List.append_nil, V.int.injEq, V.bl.injEq, V.ref.injEq, V.ty.injEq, List.cons.injEq, and_true, true_and, exists_eq_left, exists_eq_left', exists_and_left, exists_eq, exists_const, if_true, if_false, ite_true, ite_false, rd_ii, rd_bb, Option.some.injEq, exists_eq_right, exists_eq_right', and_assoc, reduceCtorEq, false_and, and_false, false_or, or_false, exists_false]
  refine ⟨by decide, fun p H1 n1 => ⟨small_line (by simp), fun pl H2 n2 => ⟨_, .of n2.at', _, hat, _, rfl, by omega, by omega, ?_⟩⟩⟩
  rw [show ((2 ^ wd : Nat) : Int).toNat = 2 ^ wd from rfl]
  refine fb_range (fun i σ H' => Same H H' ∧ (∃ v0 v4 v5 v6 v7 v8, σ = [some (.int v0), some (nV n), some (nV wd), some (.ref p), v4, v5, v6, v7, v8, none, none]) ∧
    ∃ rs tabs, H' p = some (.lst rs) ∧ Paired (Tab H') rs tabs ∧ tabs.length = i ∧ ∀ t ∈ tabs, t.length = n ∧ ∀ l ∈ t, l.length = n ∧ ∀ r ∈ l, r < n) ⟨n1.g.trans n2.g, ⟨x, none, none, none, none, none, rfl⟩, [], [], n2.g _ _ n1.at', .nil, rfl, fun _ h => (nomatch h)⟩ ?_ ?_
  · rintro i σ H' hi ⟨g, ⟨v0, v4, v5, v6, v7, v8, rfl⟩, rs, tabs, ep, pr, ll, hg⟩
    simp only [exists_eq', rEqI, rNeI, rInDc, rLenD, rLenT, rMaxL, rIndex, rCatTN, rCatTE, tDNewN, tDNewTN, rNeM, rRange2, rListRng, rRepN, rPopAt, rSetL, gSub, ipI, tDGet, sDPut, tLam, tCallA, tCallV, tDef, ipCatT, rRange1, rIndexD, rInD, rIxD, rLen, rAll, rSum, rListOf, rSlTN, tTupN, tLstN, rSlLN, rCatN, cxK, cxP, cxW, tSeq, tIfS, tTest, tB, tOp, tUn, tC, tAnd, tOr, tNot, tAndV, tOrV, tNotV, tIf, tNext, tBreak, tCont, tDrop, tRet, tRetN, gName, gNil, gCons, gTup, tAsg, tPar, tAug, rI, rI0, rU, rEq, rNe, tChain, tNil, tCons, tTup, tLst, tCall, tCB, tNoPart, tPart, tSl, rSlT, rSlL, rIxL, rIxT, rIn, tBM, tyV, rAppend, rExtend, rCat, rEqD, iList, iTup, iRng1, iRng2, tYes, tDisp, tPairs, rd_v0, rd_vS, rd_comp, rd_for, rd_ite_t, rd_ite_f, List.set_cons_zero, List.set_cons_succ, List.nil_append, List.cons_append, List.append_nil, V.int.injEq, V.bl.injEq, V.ref.injEq, V.ty.injEq, List.cons.injEq, and_true, true_and, exists_eq_left, exists_eq_left', exists_and_left, exists_eq, exists_const, if_true, if_false, ite_true, ite_false, rd_ii, rd_bb, Option.some.injEq, exists_eq_right, exists_eq_right', and_assoc, reduceCtorEq, false_and, and_false, false_or, or_false, exists_false]
    refine ⟨by decide, fun p2 H2 n2 => ⟨by omega, by omega, ?_⟩⟩
    rw [show ((n : Nat) : Int).toNat = n from rfl]
    have ne2 : p ≠ p2 := ne_of_none ep n2.nil
    refine fb_range (fun j σ H'' => Same H H'' ∧ TupS H2 H'' ∧ (∃ v0 v6 v7 v8, σ = [some (.int v0), some (nV n), some (nV wd), some (.ref p), some (.int (0 + (i : Int))), some (.ref p2), v6, v7, v8, none, none]) ∧ H'' p = some (.lst rs) ∧
      ∃ rs2 lines, H'' p2 = some (.lst rs2) ∧ Paired (Line H'') rs2 lines ∧ lines.length = j ∧ ∀ l ∈ lines, l.length = n ∧ ∀ r ∈ l, r < n) ⟨g.trans n2.g, TupS.refl _, ⟨_, _, _, _, rfl⟩, n2.g _ _ ep, [], [], n2.at', .nil, rfl, fun _ h => (nomatch h)⟩ ?_ ?_
    · rintro j σ H'' hj ⟨g2, ts, ⟨v0, v6, v7, v8, rfl⟩, ep2, rs2, lines, e2, pr2, le, hr2⟩
      simp only [exists_eq', rEqI, rNeI, rInDc, rLenD, rLenT, rMaxL, rIndex, rCatTN, rCatTE, tDNewN, tDNewTN, rNeM, rRange2, rListRng, rRepN, rPopAt, rSetL, gSub, ipI, tDGet, sDPut, tLam, tCallA, tCallV, tDef, ipCatT, rRange1, rIndexD, rInD, rIxD, rLen, rAll, rSum, rListOf, rSlTN, tTupN, tLstN, rSlLN, rCatN, cxK, cxP, cxW, tSeq, tIfS, tTest, tB, tOp, tUn, tC, tAnd, tOr, tNot, tAndV, tOrV, tNotV, tIf, tNext, tBreak, tCont, tDrop, tRet, tRetN, gName, gNil, gCons, gTup, tAsg, tPar, tAug, rI, rI0, rU, rEq, rNe, tChain, tNil, tCons, tTup, tLst, tCall, tCB, tNoPart, tPart, tSl, rSlT, rSlL, rIxL, rIxT, rIn, tBM, tyV, rAppend, rExtend, rCat, rEqD, iList, iTup, iRng1, iRng2, tYes, tDisp, tPairs, rd_v0, rd_vS, rd_comp, rd_for, rd_ite_t, rd_ite_f, List.set_cons_zero, List.set_cons_succ, List.nil_append, List.cons_append, List.append_nil, V.int.injEq, V.bl.injEq, V.ref.injEq, V.ty.injEq, List.cons.injEq, and_true, true_and, exists_eq_left, exists_eq_left', exists_and_left, exists_eq, exists_const, if_true, if_false, ite_true, ite_false, rd_ii, rd_bb, Option.some.injEq, exists_eq_right, exists_eq_right', and_assoc, reduceCtorEq, false_and, and_false, false_or, or_false, exists_false]
      refine ⟨by decide, fun p3 H3 n3 => ⟨by omega, by omega, ?_⟩⟩
      rw [show ((n : Nat) : Int).toNat = n from rfl]
      have ne3 : p ≠ p3 := ne_of_none ep2 n3.nil
      have ne4 : p2 ≠ p3 := ne_of_none e2 n3.nil
      refine fb_range (fun k σ H4 => Same H H4 ∧ TupS H3 H4 ∧ (∃ v0 v8, σ = [some (.int v0), some (nV n), some (nV wd), some (.ref p), some (.int (0 + (i : Int))), some (.ref p2), some (.int (0 + (j : Int))), some (.ref p3), v8, none, none]) ∧ H4 p = some (.lst rs) ∧ H4 p2 = some (.lst rs2) ∧
        ∃ ln : List Nat, H4 p3 = some (.lst (ln.map nV)) ∧ ln.length = k ∧ ∀ r ∈ ln, r < n) ⟨g2.trans n3.g, TupS.refl _, ⟨_, _, rfl⟩, n3.g _ _ ep2, n3.g _ _ e2, [], n3.at', rfl, fun _ h => (nomatch h)⟩ ?_ ?_
      · rintro k σ H4 hk ⟨g3, ts3, ⟨v0, v8, rfl⟩, ep3, ep32, ln, e3, lk, hr3⟩
        simp only [exists_eq', rEqI, rNeI, rInDc, rLenD, rLenT, rMaxL, rIndex, rCatTN, rCatTE, tDNewN, tDNewTN, rNeM, rRange2, rListRng, rRepN, rPopAt, rSetL, gSub, ipI, tDGet, sDPut, tLam, tCallA, tCallV, tDef, ipCatT, rRange1, rIndexD, rInD, rIxD, rLen, rAll, rSum, rListOf, rSlTN, tTupN, tLstN, rSlLN, rCatN, cxK, cxP, cxW, tSeq, tIfS, tTest, tB, tOp, tUn, tC, tAnd, tOr, tNot, tAndV, tOrV, tNotV, tIf, tNext, tBreak, tCont, tDrop, tRet, tRetN, gName, gNil, gCons, gTup, tAsg, tPar, tAug, rI, rI0, rU, rEq, rNe, tChain, tNil, tCons, tTup, tLst, tCall, tCB, tNoPart, tPart, tSl, rSlT, rSlL, rIxL, rIxT, rIn, tBM, tyV, rAppend, rExtend, rCat, rEqD, iList, iTup, iRng1, iRng2, tYes, tDisp, tPairs, rd_v0, rd_vS, rd_comp, rd_for, rd_ite_t, rd_ite_f, List.set_cons_zero, List.set_cons_succ, List.nil_append, List.cons_append, List.append_nil, V.int.injEq, V.bl.injEq, V.ref.injEq, V.ty.injEq, List.cons.injEq, and_true, true_and, exists_eq_left, exists_eq_left', exists_and_left, exists_eq, exists_const, if_true, if_false, ite_true, ite_false, rd_ii, rd_bb, Option.some.injEq, exists_eq_right, exists_eq_right', and_assoc, reduceCtorEq, false_and, and_false, false_or, or_false, exists_false]
        refine ⟨.inr ⟨by decide, by decide⟩, .inl ⟨by decide, by decide⟩, .inl ⟨by decide, by decide⟩, by decide, .inl ⟨_, .of e3⟩, ⟨by decide, by decide⟩, by omega, _, e3, by rw [List.length_map]; exact small1000 (by omega), ?_⟩
        generalize (v0 * 48271 + 31 * (0 + (i : Int)) + 7 * (0 + (j : Int)) + (0 + (k : Int)) + 1) % 2147483629 / 64 = r
        have r0 := Int.emod_nonneg r (show (n : Int) ≠ 0 by omega)
        have r1 := Int.emod_lt_of_pos r (show (0 : Int) < (n : Int) by omega)
        refine ⟨g3.wr (g2.free n3.nil) _, ts3.trans (TupS.wr e3 _), by rw [upd_ne ne3]; exact ep3, by rw [upd_ne ne4]; exact ep32, ln ++ [(r % (n : Int)).toNat], ?_, by rw [List.length_append, List.length_singleton, lk], fun x hx => ?_⟩
        · rw [upd_same, List.map_append]
          have er : r % (n : Int) = (((r % (n : Int)).toNat : Nat) : Int) := by omega
          rw [er]
          rfl
        · rcases List.mem_append.mp hx with h | h
          · exact hr3 x h
          · rw [List.mem_singleton.mp h]; omega
      · rintro σ H4 ⟨g3, ts3, ⟨v0, v8, rfl⟩, ep3, ep32, ln, e3, lk, hr3⟩
        simp only [exists_eq', rEqI, rNeI, rInDc, rLenD, rLenT, rMaxL, rIndex, rCatTN, rCatTE, tDNewN, tDNewTN, rNeM, rRange2, rListRng, rRepN, rPopAt, rSetL, gSub, ipI, tDGet, sDPut, tLam, tCallA, tCallV, tDef, ipCatT, rRange1, rIndexD, rInD, rIxD, rLen, rAll, rSum, rListOf, rSlTN, tTupN, tLstN, rSlLN, rCatN, cxK, cxP, cxW, tSeq, tIfS, tTest, tB, tOp, tUn, tC, tAnd, tOr, tNot, tAndV, tOrV, tNotV, tIf, tNext, tBreak, tCont, tDrop, tRet, tRetN, gName, gNil, gCons, gTup, tAsg, tPar, tAug, rI, rI0, rU, rEq, rNe, tChain, tNil, tCons, tTup, tLst, tCall, tCB, tNoPart, tPart, tSl, rSlT, rSlL, rIxL, rIxT, rIn, tBM, tyV, rAppend, rExtend, rCat, rEqD, iList, iTup, iRng1, iRng2, tYes, tDisp, tPairs, rd_v0, rd_vS, rd_comp, rd_for, rd_ite_t, rd_ite_f, List.set_cons_zero, List.set_cons_succ, List.nil_append, List.cons_append, List.append_nil, V.int.injEq, V.bl.injEq, V.ref.injEq, V.ty.injEq, List.cons.injEq, and_true, true_and, exists_eq_left, exists_eq_left', exists_and_left, exists_eq, exists_const, if_true, if_false, ite_true, ite_false, rd_ii, rd_bb, Option.some.injEq, exists_eq_right, exists_eq_right', and_assoc, reduceCtorEq, false_and, and_false, false_or, or_false, exists_false]
        refine ⟨.inl ⟨_, .of ep32⟩, _, .inl ⟨.of e3, fun t H5 n5 => ⟨_, n5.g _ _ ep32, ?_, ?_⟩⟩⟩
        · have := SS.Paired.len pr2
          exact small1000 (by omega)
        have tsA : TupS H'' (upd H5 p2 (.lst (rs2 ++ [.ref t]))) := (n3.g.tups.trans ts3).trans (n5.g.tups.trans (TupS.wr (n5.g _ _ ep32) _))
        refine ⟨(g3.trans n5.g).wr (g.free n2.nil) _, ts.trans tsA, by rw [upd_ne ne2]; exact n5.g _ _ ep3, rs2 ++ [.ref t], upd_same, lines ++ [ln], SM.Paired.snoc (L2.Paired.mapP pr2 fun _ _ z => z.ts tsA) ⟨t, rfl, TupS.wr (n5.g _ _ ep32) _ _ _ n5.at'⟩, by rw [List.length_append, List.length_singleton, le], fun l hl => ?_⟩
        rcases List.mem_append.mp hl with h | h
        · exact hr2 l h
        · rw [List.mem_singleton.mp h]
          exact ⟨lk, hr3⟩
    · rintro σ H'' ⟨g2, ts, ⟨v0, v6, v7, v8, rfl⟩, ep2, rs2, lines, e2, pr2, le, hr2⟩
      simp only [exists_eq', rEqI, rNeI, rInDc, rLenD, rLenT, rMaxL, rIndex, rCatTN, rCatTE, tDNewN, tDNewTN, rNeM, rRange2, rListRng, rRepN, rPopAt, rSetL, gSub, ipI, tDGet, sDPut, tLam, tCallA, tCallV, tDef, ipCatT, rRange1, rIndexD, rInD, rIxD, rLen, rAll, rSum, rListOf, rSlTN, tTupN, tLstN, rSlLN, rCatN, cxK, cxP, cxW, tSeq, tIfS, tTest, tB, tOp, tUn, tC, tAnd, tOr, tNot, tAndV, tOrV, tNotV, tIf, tNext, tBreak, tCont, tDrop, tRet, tRetN, gName, gNil, gCons, gTup, tAsg, tPar, tAug, rI, rI0, rU, rEq, rNe, tChain, tNil, tCons, tTup, tLst, tCall, tCB, tNoPart, tPart, tSl, rSlT, rSlL, rIxL, rIxT, rIn, tBM, tyV, rAppend, rExtend, rCat, rEqD, iList, iTup, iRng1, iRng2, tYes, tDisp, tPairs, rd_v0, rd_vS, rd_comp, rd_for, rd_ite_t, rd_ite_f, List.set_cons_zero, List.set_cons_succ, List.nil_append, List.cons_append, List.append_nil, V.int.injEq, V.bl.injEq, V.ref.injEq, V.ty.injEq, List.cons.injEq, and_true, true_and, exists_eq_left, exists_eq_left', exists_and_left, exists_eq, exists_const, if_true, if_false, ite_true, ite_false, rd_ii, rd_bb, Option.some.injEq, exists_eq_right, exists_eq_right', and_assoc, reduceCtorEq, false_and, and_false, false_or, or_false, exists_false]
      refine ⟨.inl ⟨_, .of ep2⟩, _, .inl ⟨.of e2, fun t H5 n5 => ⟨_, n5.g _ _ ep2, ?_, ?_⟩⟩⟩
      · have := SS.Paired.len pr
        exact small1000 (by omega)
      have tsA : TupS H' (upd H5 p (.lst (rs ++ [.ref t]))) := (n2.g.tups.trans ts).trans (n5.g.tups.trans (TupS.wr (n5.g _ _ ep2) _))
      have tsB : TupS H'' (upd H5 p (.lst (rs ++ [.ref t]))) := n5.g.tups.trans (TupS.wr (n5.g _ _ ep2) _)
      refine ⟨(g2.trans n5.g).wr n1.nil _, rs ++ [.ref t], upd_same, tabs ++ [lines], SM.Paired.snoc (L2.Paired.mapP pr fun _ _ z => z.ts tsA) ⟨t, rs2, rfl, TupS.wr (n5.g _ _ ep2) _ _ _ n5.at', L2.Paired.mapP pr2 fun _ _ z => z.ts tsB⟩, by rw [List.length_append, List.length_singleton, ll], fun l hl => ?_⟩
      rcases List.mem_append.mp hl with h | h
      · exact hg l h
      · rw [List.mem_singleton.mp h]
        exact ⟨le, hr2⟩
  · rintro σ H' ⟨g, ⟨v0, v4, v5, v6, v7, v8, rfl⟩, rs, tabs, ep, pr, ll, hg⟩
    simp only [exists_eq', rEqI, rNeI, rInDc, rLenD, rLenT, rMaxL, rIndex, rCatTN, rCatTE, tDNewN, tDNewTN, rNeM, rRange2, rListRng, rRepN, rPopAt, rSetL, gSub, ipI, tDGet, sDPut, tLam, tCallA, tCallV, tDef, ipCatT, rRange1, rIndexD, rInD, rIxD, rLen, rAll, rSum, rListOf, rSlTN, tTupN, tLstN, rSlLN, rCatN, cxK, cxP, cxW, tSeq, tIfS, tTest, tB, tOp, tUn, tC, tAnd, tOr, tNot, tAndV, tOrV, tNotV, tIf, tNext, tBreak, tCont, tDrop, tRet, tRetN, gName, gNil, gCons, gTup, tAsg, tPar, tAug, rI, rI0, rU, rEq, rNe, tChain, tNil, tCons, tTup, tLst, tCall, tCB, tNoPart, tPart, tSl, rSlT, rSlL, rIxL, rIxT, rIn, tBM, tyV, rAppend, rExtend, rCat, rEqD, iList, iTup, iRng1, iRng2, tYes, tDisp, tPairs, rd_v0, rd_vS, rd_comp, rd_for, rd_ite_t, rd_ite_f, List.set_cons_zero, List.set_cons_succ, List.nil_append, List.cons_append, List.append_nil, V.int.injEq, V.bl.injEq, V.ref.injEq, V.ty.injEq, List.cons.injEq, and_true, true_and, exists_eq_left, exists_eq_left', exists_and_left, exists_eq, exists_const, if_true, if_false, ite_true, ite_false, rd_ii, rd_bb, Option.some.injEq, exists_eq_right, exists_eq_right', and_assoc, reduceCtorEq, false_and, and_false, false_or, or_false, exists_false]
    refine ⟨by decide, fun p2 H2 n2 => ⟨by omega, by omega, ?_⟩⟩
    rw [show ((n : Nat) : Int).toNat = n from rfl]
    have ne2 : p ≠ p2 := ne_of_none ep n2.nil
    refine fb_range (fun j σ H'' => Same H H'' ∧ TupS H2 H'' ∧ (∃ v0 v10, σ = [some (.int v0), some (nV n), some (nV wd), some (.ref p), v4, v5, v6, v7, v8, some (.ref p2), v10]) ∧ H'' p = some (.lst rs) ∧
      ∃ bs : List Bool, H'' p2 = some (.lst (bs.map V.bl)) ∧ bs.length = j) ⟨g.trans n2.g, TupS.refl _, ⟨_, _, rfl⟩, n2.g _ _ ep, [], n2.at', rfl⟩ ?_ ?_
    · rintro j σ H'' hj ⟨g2, ts, ⟨v0, v10, rfl⟩, ep2, bs, e2, le⟩
      simp only [exists_eq', rEqI, rNeI, rInDc, rLenD, rLenT, rMaxL, rIndex, rCatTN, rCatTE, tDNewN, tDNewTN, rNeM, rRange2, rListRng, rRepN, rPopAt, rSetL, gSub, ipI, tDGet, sDPut, tLam, tCallA, tCallV, tDef, ipCatT, rRange1, rIndexD, rInD, rIxD, rLen, rAll, rSum, rListOf, rSlTN, tTupN, tLstN, rSlLN, rCatN, cxK, cxP, cxW, tSeq, tIfS, tTest, tB, tOp, tUn, tC, tAnd, tOr, tNot, tAndV, tOrV, tNotV, tIf, tNext, tBreak, tCont, tDrop, tRet, tRetN, gName, gNil, gCons, gTup, tAsg, tPar, tAug, rI, rI0, rU, rEq, rNe, tChain, tNil, tCons, tTup, tLst, tCall, tCB, tNoPart, tPart, tSl, rSlT, rSlL, rIxL, rIxT, rIn, tBM, tyV, rAppend, rExtend, rCat, rEqD, iList, iTup, iRng1, iRng2, tYes, tDisp, tPairs, rd_v0, rd_vS, rd_comp, rd_for, rd_ite_t, rd_ite_f, List.set_cons_zero, List.set_cons_succ, List.nil_append, List.cons_append, List.append_nil, V.int.injEq, V.bl.injEq, V.ref.injEq, V.ty.injEq, List.cons.injEq, and_true, true_and, exists_eq_left, exists_eq_left', exists_and_left, exists_eq, exists_const, if_true, if_false, ite_true, ite_false, rd_ii, rd_bb, Option.some.injEq, exists_eq_right, exists_eq_right', and_assoc, reduceCtorEq, false_and, and_false, false_or, or_false, exists_false]
      refine ⟨.inr ⟨by decide, by decide⟩, by decide, .inl ⟨_, .of e2⟩, ⟨by decide, by decide⟩, by decide, _, e2, by rw [List.length_map]; exact small1000 (by omega), ?_⟩
      exact ⟨g2.wr (g.free n2.nil) _, ts.trans (TupS.wr e2 _), by rw [upd_ne ne2]; exact ep2, bs ++ [_], by rw [upd_same, List.map_append]; rfl, by rw [List.length_append, List.length_singleton, le]⟩
    · rintro σ H'' ⟨g2, ts, ⟨v0, v10, rfl⟩, ep2, bs, e2, le⟩
      simp only [exists_eq', rEqI, rNeI, rInDc, rLenD, rLenT, rMaxL, rIndex, rCatTN, rCatTE, tDNewN, tDNewTN, rNeM, rRange2, rListRng, rRepN, rPopAt, rSetL, gSub, ipI, tDGet, sDPut, tLam, tCallA, tCallV, tDef, ipCatT, rRange1, rIndexD, rInD, rIxD, rLen, rAll, rSum, rListOf, rSlTN, tTupN, tLstN, rSlLN, rCatN, cxK, cxP, cxW, tSeq, tIfS, tTest, tB, tOp, tUn, tC, tAnd, tOr, tNot, tAndV, tOrV, tNotV, tIf, tNext, tBreak, tCont, tDrop, tRet, tRetN, gName, gNil, gCons, gTup, tAsg, tPar, tAug, rI, rI0, rU, rEq, rNe, tChain, tNil, tCons, tTup, tLst, tCall, tCB, tNoPart, tPart, tSl, rSlT, rSlL, rIxL, rIxT, rIn, tBM, tyV, rAppend, rExtend, rCat, rEqD, iList, iTup, iRng1, iRng2, tYes, tDisp, tPairs, rd_v0, rd_vS, rd_comp, rd_for, rd_ite_t, rd_ite_f, List.set_cons_zero, List.set_cons_succ, List.nil_append, List.cons_append, List.append_nil, V.int.injEq, V.bl.injEq, V.ref.injEq, V.ty.injEq, List.cons.injEq, and_true, true_and, exists_eq_left, exists_eq_left', exists_and_left, exists_eq, exists_const, if_true, if_false, ite_true, ite_false, rd_ii, rd_bb, Option.some.injEq, exists_eq_right, exists_eq_right', and_assoc, reduceCtorEq, false_and, and_false, false_or, or_false, exists_false]
      refine ⟨_, .inl ⟨.of ep2, fun t1 H4 n4 => ⟨_, .inl ⟨.of (n4.g _ _ e2), fun t2 H5 n5 => ⟨small_line (by simp), fun t3 H6 n6 => ?_⟩⟩⟩⟩⟩
      have gA : Same H'' H6 := n4.g.trans (n5.g.trans n6.g)
      refine q t3 ⟨wd, tabs, bs⟩ H6 (g2.trans gA) ⟨t1, t2, rs, n6.at', (n5.g.trans n6.g) _ _ n4.at', L2.Paired.mapP pr fun _ _ z => z.ts ((n2.g.tups.trans ts).trans gA.tups), n6.g _ _ n5.at'⟩ ⟨?_, ?_, ?_, ?_, ?_, ?_, ?_⟩ rfl le
      · exact hw
      · show 0 < bs.length; omega
      · show bs.length ≤ 30; omega
      · exact ll
      · intro t ht; show t.length = bs.length; rw [le]; exact (hg t ht).1
      · intro t ht l hl; show l.length = bs.length; rw [le]; exact ((hg t ht).2 l hl).1
      · intro t ht l hl r hr; show r < bs.length; rw [le]; exact ((hg t ht).2 l hl).2 r hr
abbrev s_law_coming : Stmt := top 18
theorem sc_law_coming : FnScope ["_law_machine_here", "_law_found", "_law_at", "_law_pairs", "_law_one", "_law_other", "_law_table", "_law_room"] ["_law_machine_here"] (defScope s_law_coming) := ⟨rfl, rfl, rfl, by decide +kernel, rfl, by decide +kernel, by decide +kernel⟩
theorem ok_comingL (T : Txt mg) (d : Dfn K mg "_law_coming" s_law_coming ["_law_machine_here"]) : Cal P w K mg base 1 "_law_coming" ["_law_machine_here"] sp_comingL := by
  refine d.cal sc_law_coming (fun vs H Q E h => ?_) (fun f cdv A outer s H vs Q E hr h => ?_)
  · obtain ⟨a, m, rfl, _⟩ := h
    rfl
  obtain ⟨a, m, rfl, ⟨b, c, ts, ea, eb, pr, ec⟩, ok, q⟩ := h
  have hu := hu_at hr 8 (by decide)
  have h30 : m.n ≤ 30 := ok.few
  have htl : ts.length = 2 ^ m.w := by rw [SS.Paired.len pr, ok.len]
  have hps : 1 ≤ 2 ^ m.w ∧ 2 ^ m.w ≤ 16 := pow_small (by have := ok.wid; omega)
  refine ⟨_, (pss_cons (ps_set (i := 1) sc_law_coming.nd rfl (Or.inl rfl) (pe_lstN (pa_c pe_int pa_nil))) (pss_cons (ps_set (i := 2) sc_law_coming.nd rfl (Or.inr rfl) pe_int) (pss_cons (ps_while PassesOwn.never (pt_cmpR op_lt (pv 2) (pe_cB (call_len_seqK K) (by rfl) T.b_len boot_len (pa_c (pv 1) pa_nil)) (nomark _)) (pss_cons (ps_set (i := 3) sc_law_coming.nd rfl (Or.inl rfl) (pe_op op_catN (pe_lcomp ["_law_k"] [(2, "_law_at")] (CompOk.of rfl (by rfl) (by rfl)) (by rfl) (pi_range1 (by rfl) T.b_range (pa_c (pv 2) pa_nil)) (fun _ _ _ _ _ => (pg_name (i := 0) (show List.Nodup (["_law_k", "_law_at"] : List Str) by decide +kernel) (by rfl) (Or.inl (by rfl)))) (fun _ _ _ _ _ => pf_nil) (fun _ _ _ _ _ => (pe_tupN (pa_c (pv 0) (pa_c (pv 1) pa_nil))))) (pe_lcomp ["_law_k"] [(2, "_law_at")] (CompOk.of rfl (by rfl) (by rfl)) (by rfl) (pi_range1 (by rfl) T.b_range (pa_c (pe_op op_add (pv 2) pe_int) pa_nil)) (fun _ _ _ _ _ => (pg_name (i := 0) (show List.Nodup (["_law_k", "_law_at"] : List Str) by decide +kernel) (by rfl) (Or.inl (by rfl)))) (fun _ _ _ _ _ => pf_nil) (fun _ _ _ _ _ => (pe_tupN (pa_c (pv 1) (pa_c (pv 0) pa_nil))))))) (pss_cons (ps_for PassesOwn.never rfl (pi_listK K (pv 3)) (pg_tupK K (n := 2) rfl (pgs_cons (pg_name (i := 4) sc_law_coming.nd (by rfl) (Or.inl (by rfl))) (pgs_cons (pg_name (i := 5) sc_law_coming.nd (by rfl) (Or.inl (by rfl))) pgs_nil))) (pss_one (ps_for PassesOwn.never rfl (pi_tupK K (pe_ix (ix_tupK K) (pv 0) pe_int (fun _ _ => rfl))) (pg_name (i := 6) sc_law_coming.nd (by rfl) (Or.inl (by rfl))) (pss_cons (ps_set (i := 7) sc_law_coming.nd rfl (Or.inl rfl) (pe_ix (ix_tupK K) (pe_ix (ix_tupK K) (pv 6) (pe_ix (ix_listK K) (pv 1) (pv 4) (fun _ _ => rfl)) (fun _ _ => rfl)) (pe_ix (ix_listK K) (pv 1) (pv 5) (fun _ _ => rfl)) (fun _ _ => rfl))) (pss_one (ps_if (pt_cmpR (op_notIn_seqK K) (pv 7) (pv 1) (by with_unfolding_all rfl)) (pss_one (ps_expr (pe_bmK K PySem.F.plainAttrs_list PySem.F.slot_list_append PySem.F.type_list_append mt_append (pv 1) (pa_c (pv 7) pa_nil)))) pss_nil)))))) (pss_one (ps_set (i := 2) sc_law_coming.nd rfl (Or.inr rfl) (pe_op op_add (pv 2) pe_int)))))) (pss_one (ps_ret (pv 1)))))), ?_⟩
  refine rd_st [some (.ref a), none, none, none, none, none, none, none] rfl ?_
  simp only [exists_eq', rEqI, rNeI, rInDc, rLenD, rLenT, rMaxL, rIndex, rCatTN, rCatTE, tDNewN, tDNewTN, rNeM, rRange2, rListRng, rRepN, rPopAt, rSetL, gSub, ipI, tDGet, sDPut, tLam, tCallA, tCallV, tDef, ipCatT, rRange1, rIndexD, rInD, rIxD, rLen, rAll, rSum, rListOf, rSlTN, tTupN, tLstN, rSlLN, rCatN, cxK, cxP, cxW, tSeq, tIfS, tTest, tB, tOp, tUn, tC, tAnd, tOr, tNot, tAndV, tOrV, tNotV, tIf, tNext, tBreak, tCont, tDrop, tRet, tRetN, gName, gNil, gCons, gTup, tAsg, tPar, tAug, rI, rI0, rU, rEq, rNe, tChain, tNil, tCons, tTup, tLst, tCall, tCB, tNoPart, tPart, tSl, rSlT, rSlL, rIxL, rIxT, rIn, tBM, tyV, rAppend, rExtend, rCat, rEqD, iList, iTup, iRng1, iRng2, tYes, tDisp, tPairs, rd_v0, rd_vS, rd_comp, rd_for, rd_ite_t, rd_ite_f, List.set_cons_zero, List.set_cons_succ, List.nil_append, List.cons_append, List.append_nil, V.int.injEq, V.bl.injEq, V.ref.injEq, V.ty.injEq, List.cons.injEq, and_true, true_and, exists_eq_left, exists_eq_left', exists_and_left, exists_eq, exists_const, if_true, if_false, ite_true, ite_false, rd_ii, rd_bb, Option.some.injEq, exists_eq_right, exists_eq_right', and_assoc, reduceCtorEq, false_and, and_false, false_or, or_false, exists_false]
  refine ⟨by decide, fun p H1 n1 => ?_⟩
  refine ⟨fun mm σ H' => ∃ (k : Nat) (fs : List Nat) (v3 v4 v5 v6 v7 : Option V), mm = 100 - k ∧ Same H H' ∧ σ = [some (.ref a), some (.ref p), some (nV k), v3, v4, v5, v6, v7] ∧ H' p = some (.lst (fs.map nV)) ∧ TFnd m fs (alls k) ∧ k ≤ fs.length,
    ⟨100, 0, [0], none, none, none, none, none, rfl, n1.g, rfl, n1.at', TFnd.start ok.pos, by decide⟩, ?_⟩
  rintro mm σ H' ⟨k, fs, v3, v4, v5, v6, v7, rfl, g, rfl, ep, F, hk⟩
  have hfl : fs.length ≤ m.n := nodup_le F.nd F.rm
  simp only [exists_eq', rEqI, rNeI, rInDc, rLenD, rLenT, rMaxL, rIndex, rCatTN, rCatTE, tDNewN, tDNewTN, rNeM, rRange2, rListRng, rRepN, rPopAt, rSetL, gSub, ipI, tDGet, sDPut, tLam, tCallA, tCallV, tDef, ipCatT, rRange1, rIndexD, rInD, rIxD, rLen, rAll, rSum, rListOf, rSlTN, tTupN, tLstN, rSlLN, rCatN, cxK, cxP, cxW, tSeq, tIfS, tTest, tB, tOp, tUn, tC, tAnd, tOr, tNot, tAndV, tOrV, tNotV, tIf, tNext, tBreak, tCont, tDrop, tRet, tRetN, gName, gNil, gCons, gTup, tAsg, tPar, tAug, rI, rI0, rU, rEq, rNe, tChain, tNil, tCons, tTup, tLst, tCall, tCB, tNoPart, tPart, tSl, rSlT, rSlL, rIxL, rIxT, rIn, tBM, tyV, rAppend, rExtend, rCat, rEqD, iList, iTup, iRng1, iRng2, tYes, tDisp, tPairs, rd_v0, rd_vS, rd_comp, rd_for, rd_ite_t, rd_ite_f, List.set_cons_zero, List.set_cons_succ, List.nil_append, List.cons_append, List.append_nil, V.int.injEq, V.bl.injEq, V.ref.injEq, V.ty.injEq, List.cons.injEq, and_true, true_and, exists_eq_left, exists_eq_left', exists_and_left, exists_eq, exists_const, if_true, if_false, ite_true, ite_false, rd_ii, rd_bb, Option.some.injEq, exists_eq_right, exists_eq_right', and_assoc, reduceCtorEq, false_and, and_false, false_or, or_false, exists_false]
  refine ⟨_, .inl (.of ep), ?_⟩
  rw [List.length_map]
  by_cases hlt : k < fs.length
  · rw [decide_eq_true (by omega)]
    refine iteT ⟨fun σ' H'' => ∃ m', m' < 100 - k ∧ _, fun σ' H'' z => z, ?_⟩
    refine ⟨by omega, by omega, ?_⟩
    rw [show ((k : Nat) : Int).toNat = k from rfl]
    refine cg_by (n := k) (fun σ => ∃ v, σ = [v, some (nV k)]) (fun j y H => Line H y [j, k]) (by omega) ⟨_, rfl⟩ (fun i H' hi gg => hi) (fun H' gg => Nat.le_refl _) ?_ ?_
    · rintro D i ys σ H1 x H1' hi gg hD hD' hl hy ⟨v, rfl⟩ ⟨rfl, rfl⟩
      simp only [exists_eq', rEqI, rNeI, rInDc, rLenD, rLenT, rMaxL, rIndex, rCatTN, rCatTE, tDNewN, tDNewTN, rNeM, rRange2, rListRng, rRepN, rPopAt, rSetL, gSub, ipI, tDGet, sDPut, tLam, tCallA, tCallV, tDef, ipCatT, rRange1, rIndexD, rInD, rIxD, rLen, rAll, rSum, rListOf, rSlTN, tTupN, tLstN, rSlLN, rCatN, cxK, cxP, cxW, tSeq, tIfS, tTest, tB, tOp, tUn, tC, tAnd, tOr, tNot, tAndV, tOrV, tNotV, tIf, tNext, tBreak, tCont, tDrop, tRet, tRetN, gName, gNil, gCons, gTup, tAsg, tPar, tAug, rI, rI0, rU, rEq, rNe, tChain, tNil, tCons, tTup, tLst, tCall, tCB, tNoPart, tPart, tSl, rSlT, rSlL, rIxL, rIxT, rIn, tBM, tyV, rAppend, rExtend, rCat, rEqD, iList, iTup, iRng1, iRng2, tYes, tDisp, tPairs, rd_v0, rd_vS, rd_comp, rd_for, rd_ite_t, rd_ite_f, List.set_cons_zero, List.set_cons_succ, List.nil_append, List.cons_append, List.append_nil, V.int.injEq, V.bl.injEq, V.ref.injEq, V.ty.injEq, List.cons.injEq, and_true, true_and, exists_eq_left, exists_eq_left', exists_and_left, exists_eq, exists_const, if_true, if_false, ite_true, ite_false, rd_ii, rd_bb, Option.some.injEq, exists_eq_right, exists_eq_right', and_assoc, reduceCtorEq, false_and, and_false, false_or, or_false, exists_false]
      refine ⟨small_line (by simp), fun t H3 n3 => cg_step (fun j y H H' ts z => z.ts ts) (by omega) hi hD (n3.g _ _ hD') hl hy n3.g.tups (gg.trans n3.g) ⟨_, rfl⟩ ⟨t, rfl, ?_⟩⟩
      rw [n3.at', Int.zero_add]; rfl
    intro D1 ys1 H1 hD1 g1 eD1 hl1 hy1
    refine ⟨by omega, by omega, ?_⟩
    rw [show ((k : Int) + 1).toNat = k + 1 by omega]
    refine cg_by (n := k + 1) (fun σ => ∃ v, σ = [v, some (nV k)]) (fun j y H => Line H y [k, j]) (by omega) ⟨_, rfl⟩ (fun i H' hi gg => hi) (fun H' gg => Nat.le_refl _) ?_ ?_
    · rintro D i ys σ H2 x H2' hi gg hD hD' hl hy ⟨v, rfl⟩ ⟨rfl, rfl⟩
      simp only [exists_eq', rEqI, rNeI, rInDc, rLenD, rLenT, rMaxL, rIndex, rCatTN, rCatTE, tDNewN, tDNewTN, rNeM, rRange2, rListRng, rRepN, rPopAt, rSetL, gSub, ipI, tDGet, sDPut, tLam, tCallA, tCallV, tDef, ipCatT, rRange1, rIndexD, rInD, rIxD, rLen, rAll, rSum, rListOf, rSlTN, tTupN, tLstN, rSlLN, rCatN, cxK, cxP, cxW, tSeq, tIfS, tTest, tB, tOp, tUn, tC, tAnd, tOr, tNot, tAndV, tOrV, tNotV, tIf, tNext, tBreak, tCont, tDrop, tRet, tRetN, gName, gNil, gCons, gTup, tAsg, tPar, tAug, rI, rI0, rU, rEq, rNe, tChain, tNil, tCons, tTup, tLst, tCall, tCB, tNoPart, tPart, tSl, rSlT, rSlL, rIxL, rIxT, rIn, tBM, tyV, rAppend, rExtend, rCat, rEqD, iList, iTup, iRng1, iRng2, tYes, tDisp, tPairs, rd_v0, rd_vS, rd_comp, rd_for, rd_ite_t, rd_ite_f, List.set_cons_zero, List.set_cons_succ, List.nil_append, List.cons_append, List.append_nil, V.int.injEq, V.bl.injEq, V.ref.injEq, V.ty.injEq, List.cons.injEq, and_true, true_and, exists_eq_left, exists_eq_left', exists_and_left, exists_eq, exists_const, if_true, if_false, ite_true, ite_false, rd_ii, rd_bb, Option.some.injEq, exists_eq_right, exists_eq_right', and_assoc, reduceCtorEq, false_and, and_false, false_or, or_false, exists_false]
      refine ⟨small_line (by simp), fun t H3 n3 => cg_step (fun j y H H' ts z => z.ts ts) (by omega) hi hD (n3.g _ _ hD') hl hy n3.g.tups (gg.trans n3.g) ⟨_, rfl⟩ ⟨t, rfl, ?_⟩⟩
      rw [n3.at', Int.zero_add]; rfl
    intro D2 ys2 H2 hD2 g2 eD2 hl2 hy2
    refine ⟨D1, rfl, D2, rfl, ys1, g2 _ _ eD1, ys2, eD2, small_line (by omega), fun D H3 n3 => ?_⟩
    have pr1 := ups_paired hl1 hl2 (fun j y e => (hy1 j y e).ts (g2.trans n3.g).tups) (fun j y e => (hy2 j y e).ts n3.g.tups)
    generalize ys1 ++ ys2 = rs at n3 pr1
    have g03 : Same H' H3 := g1.trans (g2.trans n3.g)
    have hul := ups_len k
    have hrl := SS.Paired.len pr1
    rw [List.length_map] at hrl
    have npD : p ≠ D := ne_of_none ((g1.trans g2) _ _ ep) n3.nil
    refine ⟨⟨_, .of n3.at'⟩, ?_⟩
    refine fb_list (K := K) (a := D) (xs := rs) (fun j σ H'' => Same H H'' ∧ TupS H3 H'' ∧ (∃ v4 v5 v6 v7, σ = [some (.ref a), some (.ref p), some (nV k), some (.ref D), v4, v5, v6, v7]) ∧ H'' D = some (.lst rs) ∧ ∃ (fs : List Nat), H'' p = some (.lst (fs.map nV)) ∧ TFnd m fs (alls k ++ (ups k).take j) ∧ k < fs.length)
      ⟨g.trans g03, TupS.refl _, ⟨_, _, _, _, rfl⟩, n3.at', fs, g03 _ _ ep, by rw [List.take_zero, List.append_nil]; exact F, hlt⟩ (fun j σ H'' _ z => .of z.2.2.2.1) ?_ ?_
    · rintro j y σ H'' hy ⟨g4, ts4, ⟨w4, w5, w6, w7, rfl⟩, eD4, fs2, ef2, F2, hk2⟩
      obtain ⟨ll, el, tp, rfl, etp⟩ := SS.Paired.at pr1 hy
      rw [List.getElem?_map] at el
      obtain ⟨p', eup, rfl⟩ := Option.map_eq_some_iff.mp el
      obtain ⟨i, i'⟩ := p'
      have hjl := (List.getElem?_eq_some_iff.mp eup).1
      have hmem := ups_mem.mp (List.mem_of_getElem? eup)
      have hi : i < fs2.length := by have := hmem.1; show i < fs2.length; omega
      have hi' : i' < fs2.length := by have := hmem.2.1; omega
      have hri := F2.rm _ (ix_mem hi)
      have hri' := F2.rm _ (ix_mem hi')
      have F' := F2.step ok hi hi'
      have hfl' : (news fs2 (m.com (ix fs2 i) (ix fs2 i'))).length ≤ m.n := nodup_le F'.nd F'.rm
      have hcl : (m.com (ix fs2 i) (ix fs2 i')).length = 2 ^ m.w := com_len
      have hfl2 : fs2.length ≤ m.n := nodup_le F2.nd F2.rm
      obtain ⟨tl, etl⟩ := news_pre (m.com (ix fs2 i) (ix fs2 i')) fs2
      simp only [exists_eq', rEqI, rNeI, rInDc, rLenD, rLenT, rMaxL, rIndex, rCatTN, rCatTE, tDNewN, tDNewTN, rNeM, rRange2, rListRng, rRepN, rPopAt, rSetL, gSub, ipI, tDGet, sDPut, tLam, tCallA, tCallV, tDef, ipCatT, rRange1, rIndexD, rInD, rIxD, rLen, rAll, rSum, rListOf, rSlTN, tTupN, tLstN, rSlLN, rCatN, cxK, cxP, cxW, tSeq, tIfS, tTest, tB, tOp, tUn, tC, tAnd, tOr, tNot, tAndV, tOrV, tNotV, tIf, tNext, tBreak, tCont, tDrop, tRet, tRetN, gName, gNil, gCons, gTup, tAsg, tPar, tAug, rI, rI0, rU, rEq, rNe, tChain, tNil, tCons, tTup, tLst, tCall, tCB, tNoPart, tPart, tSl, rSlT, rSlL, rIxL, rIxT, rIn, tBM, tyV, rAppend, rExtend, rCat, rEqD, iList, iTup, iRng1, iRng2, tYes, tDisp, tPairs, rd_v0, rd_vS, rd_comp, rd_for, rd_ite_t, rd_ite_f, List.set_cons_zero, List.set_cons_succ, List.nil_append, List.cons_append, List.append_nil, V.int.injEq, V.bl.injEq, V.ref.injEq, V.ty.injEq, List.cons.injEq, and_true, true_and, exists_eq_left, exists_eq_left', exists_and_left, exists_eq, exists_const, if_true, if_false, ite_true, ite_false, rd_ii, rd_bb, Option.some.injEq, exists_eq_right, exists_eq_right', and_assoc, reduceCtorEq, false_and, and_false, false_or, or_false, exists_false]
      refine ⟨_, .of (ts4 _ _ etp), rfl, _, _, rfl, _, _, rfl, rfl, _, .of (g4 _ _ ea), _, atI_nat (j := 1) rfl, b, rfl, ⟨_, .of (g4 _ _ eb)⟩, ?_⟩
      refine fb_tup (K := K) (a := b) (xs := ts) (fun j2 σ Ha => Same H Ha ∧ TupS H3 Ha ∧ (∃ v6 v7, σ = [some (.ref a), some (.ref p), some (nV k), some (.ref D), some (nV i), some (nV i'), v6, v7]) ∧ Ha D = some (.lst rs) ∧ Ha p = some (.lst ((news fs2 ((m.com (ix fs2 i) (ix fs2 i')).take j2)).map nV)))
        ⟨g4, ts4, ⟨_, _, rfl⟩, eD4, ef2⟩ (fun j2 σ Ha _ z => .of (z.1 _ _ eb)) ?_ ?_
      · rintro j2 y σ Ha hy2 ⟨ga, tsa, ⟨v6', v7', rfl⟩, eDa, efa⟩
        have hj2 := (List.getElem?_eq_some_iff.mp hy2).1
        obtain ⟨u1, u2, rs3, ln3, k1, k2, k3, k4, k5⟩ := RepT.row pr ok (l := j2) (by omega) hri hri'
        rw [k1] at hy2
        cases hy2
        have eu : (m.com (ix fs2 i) (ix fs2 i'))[j2]? = some (m.go j2 (ix fs2 i) (ix fs2 i')) := by rw [Tm.com, List.getElem?_map, List.getElem?_range (by omega)]; rfl
        have hnl := news_len ((m.com (ix fs2 i) (ix fs2 i')).take j2) fs2
        rw [List.length_take] at hnl
        simp only [exists_eq', rEqI, rNeI, rInDc, rLenD, rLenT, rMaxL, rIndex, rCatTN, rCatTE, tDNewN, tDNewTN, rNeM, rRange2, rListRng, rRepN, rPopAt, rSetL, gSub, ipI, tDGet, sDPut, tLam, tCallA, tCallV, tDef, ipCatT, rRange1, rIndexD, rInD, rIxD, rLen, rAll, rSum, rListOf, rSlTN, tTupN, tLstN, rSlLN, rCatN, cxK, cxP, cxW, tSeq, tIfS, tTest, tB, tOp, tUn, tC, tAnd, tOr, tNot, tAndV, tOrV, tNotV, tIf, tNext, tBreak, tCont, tDrop, tRet, tRetN, gName, gNil, gCons, gTup, tAsg, tPar, tAug, rI, rI0, rU, rEq, rNe, tChain, tNil, tCons, tTup, tLst, tCall, tCB, tNoPart, tPart, tSl, rSlT, rSlL, rIxL, rIxT, rIn, tBM, tyV, rAppend, rExtend, rCat, rEqD, iList, iTup, iRng1, iRng2, tYes, tDisp, tPairs, rd_v0, rd_vS, rd_comp, rd_for, rd_ite_t, rd_ite_f, List.set_cons_zero, List.set_cons_succ, List.nil_append, List.cons_append, List.append_nil, V.int.injEq, V.bl.injEq, V.ref.injEq, V.ty.injEq, List.cons.injEq, and_true, true_and, exists_eq_left, exists_eq_left', exists_and_left, exists_eq, exists_const, if_true, if_false, ite_true, ite_false, rd_ii, rd_bb, Option.some.injEq, exists_eq_right, exists_eq_right', and_assoc, reduceCtorEq, false_and, and_false, false_or, or_false, exists_false]
        obtain ⟨tl2, etl2⟩ := news_pre ((m.com (ix fs2 i) (ix fs2 i')).take j2) fs2
        have ati : ∀ x, x < fs2.length → ((news fs2 ((m.com (ix fs2 i) (ix fs2 i')).take j2)).map nV)[x]? = some (nV (ix fs2 x)) := fun x hx => by rw [etl2, List.getElem?_map, List.getElem?_append_left hx, ix_at hx]; rfl
        have fl : ((news fs2 ((m.com (ix fs2 i) (ix fs2 i')).take j2)).map nV).all flatV = true := by rw [List.all_map]; exact List.all_eq_true.mpr fun _ _ => rfl
        refine ⟨_, .of efa, _, atI_nat (ati i hi), _, _, rfl, .of (ga _ _ k2), _, atI_nat k3, _, .of efa, _, atI_nat (ati i' hi'), u2, rfl, _, _, rfl, .of (ga _ _ k4), _, atI_nat k5, _, .inl (.of efa), rfl, fl, ?_⟩
        rw [inV_nats, news_takeA eu]
        by_cases hin : m.go j2 (ix fs2 i) (ix fs2 i') ∈ news fs2 ((m.com (ix fs2 i) (ix fs2 i')).take j2)
        · rw [decide_eq_true hin, nxt_in hin]
          exact iteF ⟨ga, tsa, eDa, efa⟩
        · rw [decide_eq_false hin, nxt_out hin]
          exact iteT ⟨.inl ⟨_, .of efa⟩, _, efa, by rw [List.length_map]; exact small1000 (by omega), ga.wr n1.nil _, tsa.trans (TupS.wr efa _), by rw [upd_ne (Ne.symm npD)]; exact eDa, by rw [upd_same, List.map_append]; rfl⟩
      · rintro σ Ha ⟨ga, tsa, ⟨v6', v7', rfl⟩, eDa, efa⟩
        rw [List.take_of_length_le (by omega)] at efa
        refine ⟨ga, tsa, ⟨_, _, _, _, rfl⟩, eDa, _, efa, ?_, by rw [etl, List.length_append]; omega⟩
        rw [List.take_add_one, eup, ← List.append_assoc]
        exact F'
    · rintro σ H'' ⟨g4, ts4, ⟨w4, w5, w6, w7, rfl⟩, eD4, fs2, ef2, F2, hk2⟩
      simp only [exists_eq', rEqI, rNeI, rInDc, rLenD, rLenT, rMaxL, rIndex, rCatTN, rCatTE, tDNewN, tDNewTN, rNeM, rRange2, rListRng, rRepN, rPopAt, rSetL, gSub, ipI, tDGet, sDPut, tLam, tCallA, tCallV, tDef, ipCatT, rRange1, rIndexD, rInD, rIxD, rLen, rAll, rSum, rListOf, rSlTN, tTupN, tLstN, rSlLN, rCatN, cxK, cxP, cxW, tSeq, tIfS, tTest, tB, tOp, tUn, tC, tAnd, tOr, tNot, tAndV, tOrV, tNotV, tIf, tNext, tBreak, tCont, tDrop, tRet, tRetN, gName, gNil, gCons, gTup, tAsg, tPar, tAug, rI, rI0, rU, rEq, rNe, tChain, tNil, tCons, tTup, tLst, tCall, tCB, tNoPart, tPart, tSl, rSlT, rSlL, rIxL, rIxT, rIn, tBM, tyV, rAppend, rExtend, rCat, rEqD, iList, iTup, iRng1, iRng2, tYes, tDisp, tPairs, rd_v0, rd_vS, rd_comp, rd_for, rd_ite_t, rd_ite_f, List.set_cons_zero, List.set_cons_succ, List.nil_append, List.cons_append, List.append_nil, V.int.injEq, V.bl.injEq, V.ref.injEq, V.ty.injEq, List.cons.injEq, and_true, true_and, exists_eq_left, exists_eq_left', exists_and_left, exists_eq, exists_const, if_true, if_false, ite_true, ite_false, rd_ii, rd_bb, Option.some.injEq, exists_eq_right, exists_eq_right', and_assoc, reduceCtorEq, false_and, and_false, false_or, or_false, exists_false]
      rw [List.take_of_length_le (by omega), ← alls_succ] at F2
      exact ⟨100 - (k + 1), by omega, k + 1, rfl, g4, by omega, fs2, ef2, F2, hk2⟩
  · rw [decide_eq_false (by omega)]
    have : k = fs.length := by omega
    subst this
    exact iteF (q p fs H' n1.nil g ep F)
end
end K46

set_option Elab.async false
set_option linter.all false
set_option maxRecDepth 100000
set_option maxHeartbeats 4000000
namespace K46
open PySem PySem.Spec PyProof.Rows L2 SS SM
seal PE PT PW PA PS PSs
section
variable {P : Program} {w : World} {K : PySem.W.Frag} {mg : Str → Option Value} {base : Heap}
abbrev s_law_alone : Stmt := top 19
theorem sc_law_alone : FnScope ["_law_machine_here", "_law_rooms", "_law_kinds", "_law_turn", "_law_marks", "_law_room", "_law_mark", "_law_table"] ["_law_machine_here"] (defScope s_law_alone) := ⟨rfl, rfl, rfl, by decide +kernel, rfl, by decide +kernel, by decide +kernel⟩
theorem ok_alone (T : Txt mg) (d : Dfn K mg "_law_alone" s_law_alone ["_law_machine_here"]) : Cal P w K mg base 1 "_law_alone" ["_law_machine_here"] sp_alone := by
  refine d.cal sc_law_alone (fun vs H Q E h => ?_) (fun f cdv A outer s H vs Q E hr h => ?_)
  · obtain ⟨a, m, rfl, _⟩ := h
    rfl
  obtain ⟨a, m, rfl, ⟨b, c, ts, ea, eb, pr, ec⟩, ok, mi, q⟩ := h
  have hu := hu_at hr 8 (by decide)
  have h30 : m.ends.length ≤ 30 := ok.few
  have hpos := ok.pos
  have htl : ts.length = 2 ^ m.w := by rw [SS.Paired.len pr, ok.len]
  have hps : 1 ≤ 2 ^ m.w ∧ 2 ^ m.w ≤ 16 := pow_small (by have := ok.wid; omega)
  have at1 : atI [nV m.w, V.ref b, V.ref c] 1 = some (V.ref b) := atI_nat (j := 1) rfl
  have at2 : atI [nV m.w, V.ref b, V.ref c] 2 = some (V.ref c) := atI_nat (j := 2) rfl
  refine ⟨_, (pss_cons (ps_set (i := 1) sc_law_alone.nd rfl (Or.inl rfl) (pe_cTy (call_list_rng rfl) (by rfl) T.b_list boot_list (pa_c (pe_cTy call_range1V (by rfl) T.b_range boot_range (pa_c (pe_cB (call_len_seqK K) (by rfl) T.b_len boot_len (pa_c (pe_ix (ix_tupK K) (pv 0) pe_int (fun _ _ => rfl)) pa_nil)) pa_nil)) pa_nil))) (pss_cons (ps_set (i := 2) sc_law_alone.nd rfl (Or.inr rfl) (pe_lcomp ["_law_end"] [] (CompOk.of rfl (by rfl) (by rfl)) (by rfl) (pi_tupK K (pe_ix (ix_tupK K) (pv 0) pe_int (fun _ _ => rfl))) (fun _ _ _ _ _ => (pg_name (i := 0) (show List.Nodup (["_law_end"] : List Str) by decide +kernel) (by rfl) (Or.inl (by rfl)))) (fun _ _ _ _ _ => pf_nil) (fun _ _ _ _ _ => (pe_cTy call_int1 (by rfl) T.b_int boot_int (pa_c (pv 0) pa_nil))))) (pss_cons (ps_for PassesOwn.never rfl (pi_range1 (by rfl) T.b_range (pa_c (pe_cB (call_len_seqK K) (by rfl) T.b_len boot_len (pa_c (pe_ix (ix_tupK K) (pv 0) pe_int (fun _ _ => rfl)) pa_nil)) pa_nil)) (pg_name (i := 3) sc_law_alone.nd (by rfl) (Or.inl (by rfl))) (pss_cons (ps_set (i := 4) sc_law_alone.nd rfl (Or.inr rfl) (pe_lstN pa_nil)) (pss_cons (ps_for PassesOwn.never rfl (pi_listK K (pv 1)) (pg_name (i := 5) sc_law_alone.nd (by rfl) (Or.inr (by rfl))) (pss_cons (ps_set (i := 6) sc_law_alone.nd rfl (Or.inl rfl) (pe_lstN (pa_c (pe_ix (ix_listK K) (pv 2) (pv 5) (fun _ _ => rfl)) pa_nil))) (pss_cons (ps_for PassesOwn.never rfl (pi_tupK K (pe_ix (ix_tupK K) (pv 0) pe_int (fun _ _ => rfl))) (pg_name (i := 7) sc_law_alone.nd (by rfl) (Or.inr (by rfl))) (pss_cons (ps_set (i := 6) sc_law_alone.nd rfl (Or.inl rfl) (pe_op op_catN (pv 6) (pe_lcomp ["_law_other"] [(2, "_law_kinds"), (7, "_law_table"), (5, "_law_room")] (CompOk.of rfl (by rfl) (by rfl)) (by rfl) (pi_listK K (pv 1)) (fun _ _ _ _ _ => (pg_name (i := 0) (show List.Nodup (["_law_other", "_law_kinds", "_law_table", "_law_room"] : List Str) by decide +kernel) (by rfl) (Or.inl (by rfl)))) (fun _ _ _ _ _ => pf_nil) (fun _ _ _ _ _ => (pe_ix (ix_listK K) (pv 1) (pe_ix (ix_tupK K) (pe_ix (ix_tupK K) (pv 2) (pv 3) (fun _ _ => rfl)) (pv 0) (fun _ _ => rfl)) (fun _ _ => rfl)))))) (pss_one (ps_set (i := 6) sc_law_alone.nd rfl (Or.inl rfl) (pe_op op_catN (pv 6) (pe_lcomp ["_law_other"] [(2, "_law_kinds"), (5, "_law_room"), (7, "_law_table")] (CompOk.of rfl (by rfl) (by rfl)) (by rfl) (pi_listK K (pv 1)) (fun _ _ _ _ _ => (pg_name (i := 0) (show List.Nodup (["_law_other", "_law_kinds", "_law_room", "_law_table"] : List Str) by decide +kernel) (by rfl) (Or.inl (by rfl)))) (fun _ _ _ _ _ => pf_nil) (fun _ _ _ _ _ => (pe_ix (ix_listK K) (pv 1) (pe_ix (ix_tupK K) (pe_ix (ix_tupK K) (pv 3) (pv 0) (fun _ _ => rfl)) (pv 2) (fun _ _ => rfl)) (fun _ _ => rfl))))))))) (pss_one (ps_expr (pe_bmK K PySem.F.plainAttrs_list PySem.F.slot_list_append PySem.F.type_list_append mt_append (pv 4) (pa_c (pe_cTy call_tuple_ofN (by rfl) T.b_tuple boot_tuple (pa_c (pv 6) pa_nil)) pa_nil))))))) (pss_one (ps_set (i := 2) sc_law_alone.nd rfl (Or.inr rfl) (pe_lcomp ["_law_mark"] [(4, "_law_marks")] (CompOk.of rfl (by rfl) (by rfl)) (by rfl) (pi_listK K (pv 4)) (fun _ _ _ _ _ => (pg_name (i := 0) (show List.Nodup (["_law_mark", "_law_marks"] : List Str) by decide +kernel) (by rfl) (Or.inl (by rfl)))) (fun _ _ _ _ _ => pf_nil) (fun _ _ _ _ _ => (pe_bmK K PySem.F.plainAttrs_list PySem.F.slot_list_index PySem.F.type_list_index (mt_indexDK K hu) (pv 1) (pa_c (pv 0) pa_nil))))))))) (pss_one (ps_ret (pe_cmpR (op_eqIK K hu) (pv 2) (pv 1) (nomark _))))))), ?_⟩
  refine rd_st [some (.ref a), none, none, none, none, none, none, none] rfl ?_
  simp only [exists_eq', rEqI, rNeI, rInDc, rLenD, rLenT, rMaxL, rIndex, rCatTN, rCatTE, tDNewN, tDNewTN, rNeM, rRange2, rListRng, rRepN, rPopAt, rSetL, gSub, ipI, tDGet, sDPut, tLam, tCallA, tCallV, tDef, ipCatT, rRange1, rIndexD, rInD, rIxD, rLen, rAll, rSum, rListOf, rSlTN, tTupN, tLstN, rSlLN, rCatN, cxK, cxP, cxW, tSeq, tIfS, tTest, tB, tOp, tUn, tC, tAnd, tOr, tNot, tAndV, tOrV, tNotV, tIf, tNext, tBreak, tCont, tDrop, tRet, tRetN, gName, gNil, gCons, gTup, tAsg, tPar, tAug, rI, rI0, rU, rEq, rNe, tChain, tNil, tCons, tTup, tLst, tCall, tCB, tNoPart, tPart, tSl, rSlT, rSlL, rIxL, rIxT, rIn, tBM, tyV, rAppend, rExtend, rCat, rEqD, iList, iTup, iRng1, iRng2, tYes, tDisp, tPairs, rd_v0, rd_vS, rd_comp, rd_for, rd_ite_t, rd_ite_f, List.set_cons_zero, List.set_cons_succ, List.nil_append, List.cons_append, List.append_nil, V.int.injEq, V.bl.injEq, V.ref.injEq, V.ty.injEq, List.cons.injEq, and_true, true_and, exists_eq_left, exists_eq_left', exists_and_left, exists_eq, exists_const, if_true, if_false, ite_true, ite_false, rd_ii, rd_bb, Option.some.injEq, exists_eq_right, exists_eq_right', and_assoc, reduceCtorEq, false_and, and_false, false_or, or_false, exists_false]
  refine ⟨_, .of ea, _, at2, c, rfl, _, .inr (.of ec), ?_⟩
  rw [List.length_map]
  refine fun p1 H1 n1 => ⟨_, _, n1.at', by omega, by omega, by omega, fun l H2 n2 => ?_⟩
  have el2 : H2 l = some (.lst ((List.range m.ends.length).map nV)) := by
    rw [n2.at', show (((m.ends.length : Nat) : Int) - 0).toNat = m.ends.length by omega]
    refine congrArg (fun z => some (HO.lst z)) (List.map_congr_left fun k _ => ?_)
    show V.int _ = V.int _
    rw [Int.zero_add]
  have g02 := n1.g.trans n2.g
  let fb : V → V := fun | .bl k => .int (if k = true then 1 else 0) | v => v
  refine ⟨_, .of (g02 _ _ ea), _, at2, c, rfl, ⟨_, .of (g02 _ _ ec)⟩, cm_tup (K := K) (a := c) (xs := m.ends.map V.bl) (fun σ => ∃ v, σ = [v]) fb (by rw [List.length_map]; omega) (.of (g02 _ _ ec)) ⟨_, rfl⟩ ?_ ?_⟩
  · rintro D i σ H' x hi hm hx g hD hD' ⟨v, rfl⟩
    obtain ⟨z, mz, rfl⟩ := List.mem_map.mp hm
    simp only [exists_eq', rEqI, rNeI, rInDc, rLenD, rLenT, rMaxL, rIndex, rCatTN, rCatTE, tDNewN, tDNewTN, rNeM, rRange2, rListRng, rRepN, rPopAt, rSetL, gSub, ipI, tDGet, sDPut, tLam, tCallA, tCallV, tDef, ipCatT, rRange1, rIndexD, rInD, rIxD, rLen, rAll, rSum, rListOf, rSlTN, tTupN, tLstN, rSlLN, rCatN, cxK, cxP, cxW, tSeq, tIfS, tTest, tB, tOp, tUn, tC, tAnd, tOr, tNot, tAndV, tOrV, tNotV, tIf, tNext, tBreak, tCont, tDrop, tRet, tRetN, gName, gNil, gCons, gTup, tAsg, tPar, tAug, rI, rI0, rU, rEq, rNe, tChain, tNil, tCons, tTup, tLst, tCall, tCB, tNoPart, tPart, tSl, rSlT, rSlL, rIxL, rIxT, rIn, tBM, tyV, rAppend, rExtend, rCat, rEqD, iList, iTup, iRng1, iRng2, tYes, tDisp, tPairs, rd_v0, rd_vS, rd_comp, rd_for, rd_ite_t, rd_ite_f, List.set_cons_zero, List.set_cons_succ, List.nil_append, List.cons_append, List.append_nil, V.int.injEq, V.bl.injEq, V.ref.injEq, V.ty.injEq, List.cons.injEq, and_true, true_and, exists_eq_left, exists_eq_left', exists_and_left, exists_eq, exists_const, if_true, if_false, ite_true, ite_false, rd_ii, rd_bb, Option.some.injEq, exists_eq_right, exists_eq_right', and_assoc, reduceCtorEq, false_and, and_false, false_or, or_false, exists_false]
    exact cm_step (by rw [List.length_map]; omega) hx hD hD' g ⟨_, rfl⟩ rfl
  intro D0 H5 hD0 g5 e5
  have e5' : H5 D0 = some (.lst ((m.ends.map fun b => if b then 1 else 0).map nV)) := by
    rw [e5, List.map_map, List.map_map]
    refine congrArg (fun z => some (HO.lst z)) (List.map_congr_left fun b _ => ?_)
    cases b <;> rfl
  have g05 := g02.trans g5
  refine ⟨_, .of (g05 _ _ ea), _, at2, c, rfl, _, .inr (.of (g05 _ _ ec)), by rw [List.length_map]; omega, by rw [List.length_map]; omega, ?_⟩
  rw [List.length_map, show ((m.ends.length : Nat) : Int).toNat = m.ends.length from rfl]
  refine fb_range (fun i σ H' => Same H2 H' ∧ (∃ D v3 v4 v5 v6 v7, σ = [some (.ref a), some (.ref l), some (.ref D), v3, v4, v5, v6, v7] ∧ ∃ ns : List Nat, H' D = some (.lst (ns.map nV)) ∧ Aln m i ns))
    ⟨g5, D0, none, none, none, none, none, rfl, _, e5', Aln.start⟩ ?_ ?_
  · rintro i σ H' hi ⟨g, D, v3, v4, v5, v6, v7, rfl, ns, eD, al⟩
    simp only [exists_eq', rEqI, rNeI, rInDc, rLenD, rLenT, rMaxL, rIndex, rCatTN, rCatTE, tDNewN, tDNewTN, rNeM, rRange2, rListRng, rRepN, rPopAt, rSetL, gSub, ipI, tDGet, sDPut, tLam, tCallA, tCallV, tDef, ipCatT, rRange1, rIndexD, rInD, rIxD, rLen, rAll, rSum, rListOf, rSlTN, tTupN, tLstN, rSlLN, rCatN, cxK, cxP, cxW, tSeq, tIfS, tTest, tB, tOp, tUn, tC, tAnd, tOr, tNot, tAndV, tOrV, tNotV, tIf, tNext, tBreak, tCont, tDrop, tRet, tRetN, gName, gNil, gCons, gTup, tAsg, tPar, tAug, rI, rI0, rU, rEq, rNe, tChain, tNil, tCons, tTup, tLst, tCall, tCB, tNoPart, tPart, tSl, rSlT, rSlL, rIxL, rIxT, rIn, tBM, tyV, rAppend, rExtend, rCat, rEqD, iList, iTup, iRng1, iRng2, tYes, tDisp, tPairs, rd_v0, rd_vS, rd_comp, rd_for, rd_ite_t, rd_ite_f, List.set_cons_zero, List.set_cons_succ, List.nil_append, List.cons_append, List.append_nil, V.int.injEq, V.bl.injEq, V.ref.injEq, V.ty.injEq, List.cons.injEq, and_true, true_and, exists_eq_left, exists_eq_left', exists_and_left, exists_eq, exists_const, if_true, if_false, ite_true, ite_false, rd_ii, rd_bb, Option.some.injEq, exists_eq_right, exists_eq_right', and_assoc, reduceCtorEq, false_and, and_false, false_or, or_false, exists_false]
    refine ⟨by decide, fun q1 H6 n6 => ⟨⟨_, .of (n6.g _ _ (g _ _ el2))⟩, ?_⟩⟩
    refine fb_list (K := K) (a := l) (xs := (List.range m.ends.length).map nV) (fun r σ H'' => Same H' H'' ∧ TupS H6 H'' ∧ (∃ v5 v6 v7, σ = [some (.ref a), some (.ref l), some (.ref D), some (.int (0 + (i : Int))), some (.ref q1), v5, v6, v7]) ∧ ∃ rs, H'' q1 = some (.lst rs) ∧ Paired (Line H'') rs ((List.range r).map (tmark m ns)))
      ⟨n6.g, TupS.refl _, ⟨_, _, _, rfl⟩, [], n6.at', .nil⟩ (fun r σ H'' _ z => .of (z.1 _ _ (g _ _ el2))) ?_ ?_
    · rintro r y σ H'' hy ⟨g7, ts7, ⟨w5, w6, w7, rfl⟩, rs, eq1, pq⟩
      rw [List.getElem?_map] at hy
      obtain ⟨r', er, rfl⟩ := Option.map_eq_some_iff.mp hy
      have hr' := (List.getElem?_eq_some_iff.mp er).1
      rw [List.length_range] at hr'
      rw [List.getElem?_range hr'] at er
      cases er
      have g07 : Same H H'' := g02.trans (g.trans g7)
      simp only [exists_eq', rEqI, rNeI, rInDc, rLenD, rLenT, rMaxL, rIndex, rCatTN, rCatTE, tDNewN, tDNewTN, rNeM, rRange2, rListRng, rRepN, rPopAt, rSetL, gSub, ipI, tDGet, sDPut, tLam, tCallA, tCallV, tDef, ipCatT, rRange1, rIndexD, rInD, rIxD, rLen, rAll, rSum, rListOf, rSlTN, tTupN, tLstN, rSlLN, rCatN, cxK, cxP, cxW, tSeq, tIfS, tTest, tB, tOp, tUn, tC, tAnd, tOr, tNot, tAndV, tOrV, tNotV, tIf, tNext, tBreak, tCont, tDrop, tRet, tRetN, gName, gNil, gCons, gTup, tAsg, tPar, tAug, rI, rI0, rU, rEq, rNe, tChain, tNil, tCons, tTup, tLst, tCall, tCB, tNoPart, tPart, tSl, rSlT, rSlL, rIxL, rIxT, rIn, tBM, tyV, rAppend, rExtend, rCat, rEqD, iList, iTup, iRng1, iRng2, tYes, tDisp, tPairs, rd_v0, rd_vS, rd_comp, rd_for, rd_ite_t, rd_ite_f, List.set_cons_zero, List.set_cons_succ, List.nil_append, List.cons_append, List.append_nil, V.int.injEq, V.bl.injEq, V.ref.injEq, V.ty.injEq, List.cons.injEq, and_true, true_and, exists_eq_left, exists_eq_left', exists_and_left, exists_eq, exists_const, if_true, if_false, ite_true, ite_false, rd_ii, rd_bb, Option.some.injEq, exists_eq_right, exists_eq_right', and_assoc, reduceCtorEq, false_and, and_false, false_or, or_false, exists_false]
      have nsr : ∀ x, x < m.ends.length → (ns.map nV)[x]? = some (nV (ix ns x)) := fun x hx => by rw [List.getElem?_map, ix_at (show x < ns.length by rw [al.len]; exact hx)]; rfl
      refine ⟨_, .of (g7 _ _ eD), _, atI_nat (nsr r hr'), small_line (by simp), fun pm H8 n8 => ⟨_, .of (n8.g _ _ (g07 _ _ ea)), _, at1, b, rfl, ⟨_, .of (n8.g _ _ (g07 _ _ eb))⟩, ?_⟩⟩
      refine fb_tup (K := K) (a := b) (xs := ts) (fun j σ H9 => Same H'' H9 ∧ ∃ (pm : Addr) (v7 : Option V), σ = [some (.ref a), some (.ref l), some (.ref D), some (.int (0 + (i : Int))), some (.ref q1), some (nV r), some (.ref pm), v7] ∧ H9 pm = some (.lst ((tmg m ns r j).map nV)))
        ⟨n8.g, pm, _, rfl, n8.at'⟩ (fun j σ H9 _ z => .of (z.1 _ _ (g07 _ _ eb))) ?_ ?_
      · rintro j y σ H9 hy ⟨g9, pm, v7', rfl, epm⟩
        have hj := (List.getElem?_eq_some_iff.mp hy).1
        have hj2 : j < 2 ^ m.w := by omega
        have g09 := g07.trans g9
        have el9 := g9 _ _ (g7 _ _ (g _ _ el2))
        have eD9 := g9 _ _ (g7 _ _ eD)
        have hjm : j ≤ 15 := by omega
        have hml : (tmg m ns r j).length ≤ 1 + 15 * 60 := by
          have : (tmg m ns r j).length = 1 + j * (m.n + m.n) := by
            unfold tmg
            rw [List.length_cons, flat_len _ (m.n + m.n) (fun l => by simp), Nat.add_comm]
          have h60 : m.n + m.n ≤ 60 := by have : m.n ≤ 30 := ok.few; omega
          have := Nat.mul_le_mul hjm h60
          omega
        obtain ⟨u, -, rsu, -, k1, k2, -, -, -⟩ := RepT.row pr ok hj2 hr' hr'
        rw [k1] at hy
        cases hy
        let fo : V → V := fun | .int z => nV (ix ns (m.go j r z.toNat)) | v => v
        let fo2 : V → V := fun | .int z => nV (ix ns (m.go j z.toNat r)) | v => v
        simp only [exists_eq', rEqI, rNeI, rInDc, rLenD, rLenT, rMaxL, rIndex, rCatTN, rCatTE, tDNewN, tDNewTN, rNeM, rRange2, rListRng, rRepN, rPopAt, rSetL, gSub, ipI, tDGet, sDPut, tLam, tCallA, tCallV, tDef, ipCatT, rRange1, rIndexD, rInD, rIxD, rLen, rAll, rSum, rListOf, rSlTN, tTupN, tLstN, rSlLN, rCatN, cxK, cxP, cxW, tSeq, tIfS, tTest, tB, tOp, tUn, tC, tAnd, tOr, tNot, tAndV, tOrV, tNotV, tIf, tNext, tBreak, tCont, tDrop, tRet, tRetN, gName, gNil, gCons, gTup, tAsg, tPar, tAug, rI, rI0, rU, rEq, rNe, tChain, tNil, tCons, tTup, tLst, tCall, tCB, tNoPart, tPart, tSl, rSlT, rSlL, rIxL, rIxT, rIn, tBM, tyV, rAppend, rExtend, rCat, rEqD, iList, iTup, iRng1, iRng2, tYes, tDisp, tPairs, rd_v0, rd_vS, rd_comp, rd_for, rd_ite_t, rd_ite_f, List.set_cons_zero, List.set_cons_succ, List.nil_append, List.cons_append, List.append_nil, V.int.injEq, V.bl.injEq, V.ref.injEq, V.ty.injEq, List.cons.injEq, and_true, true_and, exists_eq_left, exists_eq_left', exists_and_left, exists_eq, exists_const, if_true, if_false, ite_true, ite_false, rd_ii, rd_bb, Option.some.injEq, exists_eq_right, exists_eq_right', and_assoc, reduceCtorEq, false_and, and_false, false_or, or_false, exists_false]
        refine ⟨⟨_, .of el9⟩, cm_list (K := K) (a := l) (xs := (List.range m.ends.length).map nV) (fun σ => ∃ v, σ = [v, some (.ref D), some (.ref u), some (nV r)]) fo (by rw [List.length_map, List.length_range]; omega) (.of el9) ⟨_, rfl⟩ ?_ ?_⟩
        · rintro D' i' σ H' x hi hm hx g hD hD' ⟨v, rfl⟩
          obtain ⟨o, mo, rfl⟩ := List.mem_map.mp hm
          have ho : o < m.ends.length := List.mem_range.mp mo
          obtain ⟨u', u2, rsu', ln, k1', k2', k3, k4, k5⟩ := RepT.row pr ok hj2 hr' ho
          rw [k1] at k1'
          cases k1'
          have hgo := ok.go_lt hj2 hr' ho
          simp only [exists_eq', rEqI, rNeI, rInDc, rLenD, rLenT, rMaxL, rIndex, rCatTN, rCatTE, tDNewN, tDNewTN, rNeM, rRange2, rListRng, rRepN, rPopAt, rSetL, gSub, ipI, tDGet, sDPut, tLam, tCallA, tCallV, tDef, ipCatT, rRange1, rIndexD, rInD, rIxD, rLen, rAll, rSum, rListOf, rSlTN, tTupN, tLstN, rSlLN, rCatN, cxK, cxP, cxW, tSeq, tIfS, tTest, tB, tOp, tUn, tC, tAnd, tOr, tNot, tAndV, tOrV, tNotV, tIf, tNext, tBreak, tCont, tDrop, tRet, tRetN, gName, gNil, gCons, gTup, tAsg, tPar, tAug, rI, rI0, rU, rEq, rNe, tChain, tNil, tCons, tTup, tLst, tCall, tCB, tNoPart, tPart, tSl, rSlT, rSlL, rIxL, rIxT, rIn, tBM, tyV, rAppend, rExtend, rCat, rEqD, iList, iTup, iRng1, iRng2, tYes, tDisp, tPairs, rd_v0, rd_vS, rd_comp, rd_for, rd_ite_t, rd_ite_f, List.set_cons_zero, List.set_cons_succ, List.nil_append, List.cons_append, List.append_nil, V.int.injEq, V.bl.injEq, V.ref.injEq, V.ty.injEq, List.cons.injEq, and_true, true_and, exists_eq_left, exists_eq_left', exists_and_left, exists_eq, exists_const, if_true, if_false, ite_true, ite_false, rd_ii, rd_bb, Option.some.injEq, exists_eq_right, exists_eq_right', and_assoc, reduceCtorEq, false_and, and_false, false_or, or_false, exists_false]
          refine ⟨_, .of (g _ _ (g09 _ _ k2')), _, atI_nat k3, u2, rfl, _, .of (g _ _ (g09 _ _ k4)), _, atI_nat k5, _, _, rfl, .of (g _ _ eD9), _, atI_nat (nsr _ hgo), cm_step (by rw [List.length_map, List.length_range]; omega) hx hD hD' g ⟨_, rfl⟩ rfl⟩
        intro D2 H10 hD2 g10 e10
        have e10' : H10 D2 = some (.lst (((List.range m.n).map fun o => ix ns (m.go j r o)).map nV)) := by
          rw [e10, List.map_map, List.map_map]; rfl
        refine ⟨D2, rfl, _, g10 _ _ epm, _, e10', small_line (by simp only [List.length_map, List.length_range]; have : m.n ≤ 30 := ok.few; omega), fun pm2 H11 n11 => ?_⟩
        have g911 := g10.trans n11.g
        refine ⟨⟨_, .of (g911 _ _ el9)⟩, cm_list (K := K) (a := l) (xs := (List.range m.ends.length).map nV) (fun σ => ∃ v, σ = [v, some (.ref D), some (nV r), some (.ref u)]) fo2 (by rw [List.length_map, List.length_range]; omega) (.of (g911 _ _ el9)) ⟨_, rfl⟩ ?_ ?_⟩
        · rintro D' i' σ H' x hi hm hx g hD hD' ⟨v, rfl⟩
          obtain ⟨o, mo, rfl⟩ := List.mem_map.mp hm
          have ho : o < m.ends.length := List.mem_range.mp mo
          obtain ⟨u', u2, rsu', ln, k1', k2', k3, k4, k5⟩ := RepT.row pr ok hj2 ho hr'
          rw [k1] at k1'
          cases k1'
          have hgo := ok.go_lt hj2 ho hr'
          have g' := g911.trans g
          simp only [exists_eq', rEqI, rNeI, rInDc, rLenD, rLenT, rMaxL, rIndex, rCatTN, rCatTE, tDNewN, tDNewTN, rNeM, rRange2, rListRng, rRepN, rPopAt, rSetL, gSub, ipI, tDGet, sDPut, tLam, tCallA, tCallV, tDef, ipCatT, rRange1, rIndexD, rInD, rIxD, rLen, rAll, rSum, rListOf, rSlTN, tTupN, tLstN, rSlLN, rCatN, cxK, cxP, cxW, tSeq, tIfS, tTest, tB, tOp, tUn, tC, tAnd, tOr, tNot, tAndV, tOrV, tNotV, tIf, tNext, tBreak, tCont, tDrop, tRet, tRetN, gName, gNil, gCons, gTup, tAsg, tPar, tAug, rI, rI0, rU, rEq, rNe, tChain, tNil, tCons, tTup, tLst, tCall, tCB, tNoPart, tPart, tSl, rSlT, rSlL, rIxL, rIxT, rIn, tBM, tyV, rAppend, rExtend, rCat, rEqD, iList, iTup, iRng1, iRng2, tYes, tDisp, tPairs, rd_v0, rd_vS, rd_comp, rd_for, rd_ite_t, rd_ite_f, List.set_cons_zero, List.set_cons_succ, List.nil_append, List.cons_append, List.append_nil, V.int.injEq, V.bl.injEq, V.ref.injEq, V.ty.injEq, List.cons.injEq, and_true, true_and, exists_eq_left, exists_eq_left', exists_and_left, exists_eq, exists_const, if_true, if_false, ite_true, ite_false, rd_ii, rd_bb, Option.some.injEq, exists_eq_right, exists_eq_right', and_assoc, reduceCtorEq, false_and, and_false, false_or, or_false, exists_false]
          refine ⟨_, .of (g' _ _ (g09 _ _ k2')), _, atI_nat k3, u2, rfl, _, .of (g' _ _ (g09 _ _ k4)), _, atI_nat k5, _, _, rfl, .of (g' _ _ eD9), _, atI_nat (nsr _ hgo), cm_step (by rw [List.length_map, List.length_range]; omega) hx hD hD' g ⟨_, rfl⟩ rfl⟩
        intro D3 H12 hD3 g12 e12
        have e12' : H12 D3 = some (.lst (((List.range m.n).map fun o => ix ns (m.go j o r)).map nV)) := by
          rw [e12, List.map_map, List.map_map]; rfl
        refine ⟨D3, rfl, _, g12 _ _ n11.at', _, e12', small_line (by simp only [List.length_map, List.length_range, List.length_append]; have : m.n ≤ 30 := ok.few; omega), fun pm3 H13 n13 => ?_⟩
        refine ⟨g9.trans (g911.trans (g12.trans n13.g)), ?_⟩
        rw [n13.at', tmg_succ, List.map_append, List.map_append, List.append_assoc]
      · rintro σ H9 ⟨g9, pm, v7', rfl, epm⟩
        simp only [exists_eq', rEqI, rNeI, rInDc, rLenD, rLenT, rMaxL, rIndex, rCatTN, rCatTE, tDNewN, tDNewTN, rNeM, rRange2, rListRng, rRepN, rPopAt, rSetL, gSub, ipI, tDGet, sDPut, tLam, tCallA, tCallV, tDef, ipCatT, rRange1, rIndexD, rInD, rIxD, rLen, rAll, rSum, rListOf, rSlTN, tTupN, tLstN, rSlLN, rCatN, cxK, cxP, cxW, tSeq, tIfS, tTest, tB, tOp, tUn, tC, tAnd, tOr, tNot, tAndV, tOrV, tNotV, tIf, tNext, tBreak, tCont, tDrop, tRet, tRetN, gName, gNil, gCons, gTup, tAsg, tPar, tAug, rI, rI0, rU, rEq, rNe, tChain, tNil, tCons, tTup, tLst, tCall, tCB, tNoPart, tPart, tSl, rSlT, rSlL, rIxL, rIxT, rIn, tBM, tyV, rAppend, rExtend, rCat, rEqD, iList, iTup, iRng1, iRng2, tYes, tDisp, tPairs, rd_v0, rd_vS, rd_comp, rd_for, rd_ite_t, rd_ite_f, List.set_cons_zero, List.set_cons_succ, List.nil_append, List.cons_append, List.append_nil, V.int.injEq, V.bl.injEq, V.ref.injEq, V.ty.injEq, List.cons.injEq, and_true, true_and, exists_eq_left, exists_eq_left', exists_and_left, exists_eq, exists_const, if_true, if_false, ite_true, ite_false, rd_ii, rd_bb, Option.some.injEq, exists_eq_right, exists_eq_right', and_assoc, reduceCtorEq, false_and, and_false, false_or, or_false, exists_false]
        rw [htl, ← tmark_go ok hr'] at epm
        refine ⟨.inl ⟨_, .of (g9 _ _ eq1)⟩, _, .inl ⟨.of epm, fun tp H10 n10 => ?_⟩⟩
        have g910 := g9.trans n10.g
        have eq10 := g910 _ _ eq1
        have hrl := SS.Paired.len pq
        rw [List.length_map, List.length_range] at hrl
        have tsA : TupS H'' (upd H10 q1 (.lst (rs ++ [.ref tp]))) := g910.tups.trans (TupS.wr eq10 _)
        refine ⟨_, eq10, small1000 (by omega), (g7.trans g910).wr n6.nil _, ts7.trans tsA, rs ++ [.ref tp], upd_same, ?_⟩
        rw [List.range_succ, List.map_append]
        exact SM.Paired.snoc (L2.Paired.mapP pq fun _ _ z => z.ts tsA) ⟨tp, rfl, TupS.wr eq10 _ _ _ n10.at'⟩
    · rintro σ H'' ⟨g7, ts7, ⟨w5, w6, w7, rfl⟩, rs, eq1, pq⟩
      rw [List.length_map, List.length_range] at pq
      simp only [exists_eq', rEqI, rNeI, rInDc, rLenD, rLenT, rMaxL, rIndex, rCatTN, rCatTE, tDNewN, tDNewTN, rNeM, rRange2, rListRng, rRepN, rPopAt, rSetL, gSub, ipI, tDGet, sDPut, tLam, tCallA, tCallV, tDef, ipCatT, rRange1, rIndexD, rInD, rIxD, rLen, rAll, rSum, rListOf, rSlTN, tTupN, tLstN, rSlLN, rCatN, cxK, cxP, cxW, tSeq, tIfS, tTest, tB, tOp, tUn, tC, tAnd, tOr, tNot, tAndV, tOrV, tNotV, tIf, tNext, tBreak, tCont, tDrop, tRet, tRetN, gName, gNil, gCons, gTup, tAsg, tPar, tAug, rI, rI0, rU, rEq, rNe, tChain, tNil, tCons, tTup, tLst, tCall, tCB, tNoPart, tPart, tSl, rSlT, rSlL, rIxL, rIxT, rIn, tBM, tyV, rAppend, rExtend, rCat, rEqD, iList, iTup, iRng1, iRng2, tYes, tDisp, tPairs, rd_v0, rd_vS, rd_comp, rd_for, rd_ite_t, rd_ite_f, List.set_cons_zero, List.set_cons_succ, List.nil_append, List.cons_append, List.append_nil, V.int.injEq, V.bl.injEq, V.ref.injEq, V.ty.injEq, List.cons.injEq, and_true, true_and, exists_eq_left, exists_eq_left', exists_and_left, exists_eq, exists_const, if_true, if_false, ite_true, ite_false, rd_ii, rd_bb, Option.some.injEq, exists_eq_right, exists_eq_right', and_assoc, reduceCtorEq, false_and, and_false, false_or, or_false, exists_false]
      have hrl := SS.Paired.len pq
      rw [List.length_map, List.length_range] at hrl
      obtain ⟨as, rfl, pa⟩ := line_refs pq
      rw [List.length_map] at hrl
      refine ⟨⟨_, .of eq1⟩, cg_by (n := m.ends.length) (fun σ => ∃ v, σ = [v, some (.ref q1)]) (fun k y H => y = nV ((marksA m ns).idxOf (tmark m ns k))) (by omega) ⟨_, rfl⟩ (fun k H2 hk gg => ⟨_, (as.map V.ref)[k]'(by rw [List.length_map]; omega), .of (gg _ _ eq1), List.getElem?_eq_getElem _⟩) (fun H2 gg => ⟨_, .of (gg _ _ eq1), by rw [List.length_map]; omega⟩) ?_ ?_⟩
      · rintro D' k ys σ Ha x Ha' hk gg hD hD' hl hy ⟨v, rfl⟩ ⟨rfl, yx⟩
        have ex := yx _ (.of (gg _ _ eq1))
        simp only [exists_eq', rEqI, rNeI, rInDc, rLenD, rLenT, rMaxL, rIndex, rCatTN, rCatTE, tDNewN, tDNewTN, rNeM, rRange2, rListRng, rRepN, rPopAt, rSetL, gSub, ipI, tDGet, sDPut, tLam, tCallA, tCallV, tDef, ipCatT, rRange1, rIndexD, rInD, rIxD, rLen, rAll, rSum, rListOf, rSlTN, tTupN, tLstN, rSlLN, rCatN, cxK, cxP, cxW, tSeq, tIfS, tTest, tB, tOp, tUn, tC, tAnd, tOr, tNot, tAndV, tOrV, tNotV, tIf, tNext, tBreak, tCont, tDrop, tRet, tRetN, gName, gNil, gCons, gTup, tAsg, tPar, tAug, rI, rI0, rU, rEq, rNe, tChain, tNil, tCons, tTup, tLst, tCall, tCB, tNoPart, tPart, tSl, rSlT, rSlL, rIxL, rIxT, rIn, tBM, tyV, rAppend, rExtend, rCat, rEqD, iList, iTup, iRng1, iRng2, tYes, tDisp, tPairs, rd_v0, rd_vS, rd_comp, rd_for, rd_ite_t, rd_ite_f, List.set_cons_zero, List.set_cons_succ, List.nil_append, List.cons_append, List.append_nil, V.int.injEq, V.bl.injEq, V.ref.injEq, V.ty.injEq, List.cons.injEq, and_true, true_and, exists_eq_left, exists_eq_left', exists_and_left, exists_eq, exists_const, if_true, if_false, ite_true, ite_false, rd_ii, rd_bb, Option.some.injEq, exists_eq_right, exists_eq_right', and_assoc, reduceCtorEq, false_and, and_false, false_or, or_false, exists_false]
        rw [List.getElem?_map] at ex
        obtain ⟨ak, eak, rfl⟩ := Option.map_eq_some_iff.mp ex
        have mk : (marksA m ns)[k]? = some (tmark m ns k) := marksA_at hk
        obtain ⟨lk, elk, hak⟩ := SS.Paired.at pa eak
        have elk' : lk = tmark m ns k := by
          have : (marksA m ns)[k]? = some lk := elk
          rw [mk] at this
          exact (Option.some.inj this).symm
        subst elk'
        obtain ⟨hle, hat⟩ := idx_fst mk
        obtain ⟨aj, eaj, haj⟩ := Paired.at2 pa hat
        classical
        refine ⟨.inl ⟨_, .of (gg _ _ eq1)⟩, as, .of (gg _ _ eq1), (fun b => decide (H'' b = some (.tup ((tmark m ns k).map nV)))), fun X b hb => ?_, _, aj, eaj, decide_eq_true haj, fun j' b hj' hb => ?_, by omega, cg_step (fun j y H H' ts z => z) (by omega) hk hD hD' hl hy (TupS.refl _) gg ⟨_, rfl⟩ rfl⟩
        · obtain ⟨jb, hjb, rfl⟩ := List.getElem_of_mem hb
          obtain ⟨lb, elb, hlb⟩ := SS.Paired.at pa (List.getElem?_eq_getElem hjb)
          have z := eq_line (X := X) (k := 6) (gg _ _ hlb) (gg _ _ hak)
          show EqOk X 7 _ _ _ (decide (H'' as[jb] = some (.tup ((tmark m ns k).map nV))))
          rw [show decide (H'' as[jb] = some (.tup ((tmark m ns k).map nV))) = decide (lb = tmark m ns k) from decide_eq_decide.mpr ⟨fun e => map_nV_inj _ _ (HO.tup.inj (Option.some.inj (hlb.symm.trans e))), fun e => by rw [hlb, e]⟩]
          exact z
        · obtain ⟨lb, elb, hlb⟩ := SS.Paired.at pa hb
          refine decide_eq_false fun e => ?_
          have e2 : lb = tmark m ns k := map_nV_inj _ _ (HO.tup.inj (Option.some.inj (hlb.symm.trans e)))
          rw [e2] at elb
          have := (idx_fst (show (marksA m ns)[j']? = some (tmark m ns k) from elb)).1
          omega
      intro D' ys H8 hD' g8 eD8 hl8 hy8
      have eY : ys = (nxA m ns).map nV := by
        refine List.ext_getElem? fun j => ?_
        rw [List.getElem?_map, nxA, List.getElem?_map]
        by_cases hj : j < m.ends.length
        · rw [marksA_at hj, List.getElem?_eq_getElem (by omega), hy8 j _ (List.getElem?_eq_getElem (show j < ys.length by omega))]
          rfl
        · rw [List.getElem?_eq_none (by omega), List.getElem?_eq_none (by simp only [marksA, List.length_map, List.length_range]; show m.ends.length ≤ j; omega)]; rfl
      rw [eY] at eD8
      exact ⟨g.trans (g7.trans g8), D', rfl, _, eD8, al.next ok mi⟩
  · rintro σ H' ⟨g, D, v3, v4, v5, v6, v7, rfl, ns, eD, al⟩
    have en : ns = List.range m.ends.length := al.done ok
    simp only [exists_eq', rEqI, rNeI, rInDc, rLenD, rLenT, rMaxL, rIndex, rCatTN, rCatTE, tDNewN, tDNewTN, rNeM, rRange2, rListRng, rRepN, rPopAt, rSetL, gSub, ipI, tDGet, sDPut, tLam, tCallA, tCallV, tDef, ipCatT, rRange1, rIndexD, rInD, rIxD, rLen, rAll, rSum, rListOf, rSlTN, tTupN, tLstN, rSlLN, rCatN, cxK, cxP, cxW, tSeq, tIfS, tTest, tB, tOp, tUn, tC, tAnd, tOr, tNot, tAndV, tOrV, tNotV, tIf, tNext, tBreak, tCont, tDrop, tRet, tRetN, gName, gNil, gCons, gTup, tAsg, tPar, tAug, rI, rI0, rU, rEq, rNe, tChain, tNil, tCons, tTup, tLst, tCall, tCB, tNoPart, tPart, tSl, rSlT, rSlL, rIxL, rIxT, rIn, tBM, tyV, rAppend, rExtend, rCat, rEqD, iList, iTup, iRng1, iRng2, tYes, tDisp, tPairs, rd_v0, rd_vS, rd_comp, rd_for, rd_ite_t, rd_ite_f, List.set_cons_zero, List.set_cons_succ, List.nil_append, List.cons_append, List.append_nil, V.int.injEq, V.bl.injEq, V.ref.injEq, V.ty.injEq, List.cons.injEq, and_true, true_and, exists_eq_left, exists_eq_left', exists_and_left, exists_eq, exists_const, if_true, if_false, ite_true, ite_false, rd_ii, rd_bb, Option.some.injEq, exists_eq_right, exists_eq_right', and_assoc, reduceCtorEq, false_and, and_false, false_or, or_false, exists_false]
    have eI : ∀ xs : List Nat, xs.map nV = (xs.map fun (k : Nat) => (k : Int)).map V.int := fun xs => by rw [List.map_map]; rfl
    refine ⟨(List.range m.ends.length).map fun (k : Nat) => (k : Int), .of (by rw [eD, en, eI]), (List.range m.ends.length).map fun (k : Nat) => (k : Int), .of (by rw [g _ _ el2, eI]), ?_⟩
    rw [decide_eq_true rfl]
    exact q H' (g02.trans g)
end
end K46

set_option Elab.async false
set_option linter.all false
set_option maxRecDepth 100000
set_option maxHeartbeats 4000000
namespace K46
open PySem PySem.Spec PyProof.Rows L2 SS SM
seal PE PT PW PA PS PSs
section
variable {P : Program} {w : World} {K : PySem.W.Frag} {mg : Str → Option Value} {base : Heap}
abbrev s_law_order : Stmt := top 20
theorem sc_law_order : FnScope ["_law_rooms", "_law_number", "_law_left", "_law_found"] ["_law_rooms", "_law_number"] (defScope s_law_order) := ⟨rfl, rfl, rfl, by decide +kernel, rfl, by decide +kernel, by decide +kernel⟩
theorem ok_order (T : Txt mg) (d : Dfn K mg "_law_order" s_law_order ["_law_rooms", "_law_number"]) : Cal P w K mg base 1 "_law_order" ["_law_rooms", "_law_number"] sp_order := by
  refine d.cal sc_law_order (fun vs H Q E h => ?_) (fun f cdv A outer s H vs Q E hr h => ?_)
  · obtain ⟨n, st, rfl, _⟩ := h
    rfl
  obtain ⟨n, st, rfl, h1, h14, q⟩ := h
  refine ⟨_, (pss_cons (ps_set (i := 2) sc_law_order.nd rfl (Or.inl rfl) (pe_cTy (call_list_rng rfl) (by rfl) T.b_list boot_list (pa_c (pe_cTy call_range2V (by rfl) T.b_range boot_range (pa_c pe_int (pa_c (pe_op op_mul pe_int (pv 0)) pa_nil))) pa_nil))) (pss_cons (ps_set (i := 3) sc_law_order.nd rfl (Or.inl rfl) (pe_lstN (pa_c pe_int pa_nil))) (pss_cons (ps_while PassesOwn.never (pt_cmpR op_gt (pe_cB (call_len_seqK K) (by rfl) T.b_len boot_len (pa_c (pv 2) pa_nil)) pe_int (nomark _)) (pss_cons (ps_set (i := 1) sc_law_order.nd rfl (Or.inl rfl) (pe_op op_mod (pe_op op_add (pe_op op_mul (pv 1) pe_int) pe_int) pe_int)) (pss_one (ps_expr (pe_bmK K PySem.F.plainAttrs_list PySem.F.slot_list_append PySem.F.type_list_append mt_append (pv 3) (pa_c (pe_bmK K PySem.F.plainAttrs_list PySem.F.slot_list_pop PySem.F.type_list_pop mt_popAt (pv 2) (pa_c (pe_op op_mod (pe_op op_fdiv (pv 1) pe_int) (pe_cB (call_len_seqK K) (by rfl) T.b_len boot_len (pa_c (pv 2) pa_nil))) pa_nil)) pa_nil)))))) (pss_one (ps_ret (pv 3)))))), ?_⟩
  refine rd_st [some (nV n), some (.int st), none, none] rfl ?_
  simp only [exists_eq', rEqI, rNeI, rInDc, rLenD, rLenT, rMaxL, rIndex, rCatTN, rCatTE, tDNewN, tDNewTN, rNeM, rRange2, rListRng, rRepN, rPopAt, rSetL, gSub, ipI, tDGet, sDPut, tLam, tCallA, tCallV, tDef, ipCatT, rRange1, rIndexD, rInD, rIxD, rLen, rAll, rSum, rListOf, rSlTN, tTupN, tLstN, rSlLN, rCatN, cxK, cxP, cxW, tSeq, tIfS, tTest, tB, tOp, tUn, tC, tAnd, tOr, tNot, tAndV, tOrV, tNotV, tIf, tNext, tBreak, tCont, tDrop, tRet, tRetN, gName, gNil, gCons, gTup, tAsg, tPar, tAug, rI, rI0, rU, rEq, rNe, tChain, tNil, tCons, tTup, tLst, tCall, tCB, tNoPart, tPart, tSl, rSlT, rSlL, rIxL, rIxT, rIn, tBM, tyV, rAppend, rExtend, rCat, rEqD, iList, iTup, iRng1, iRng2, tYes, tDisp, tPairs, rd_v0, rd_vS, rd_comp, rd_for, rd_ite_t, rd_ite_f, List.set_cons_zero, List.set_cons_succ, List.nil_append, List.cons_append, List.append_nil, V.int.injEq, V.bl.injEq, V.ref.injEq, V.ty.injEq, List.cons.injEq, and_true, true_and, exists_eq_left, exists_eq_left', exists_and_left, exists_eq, exists_const, if_true, if_false, ite_true, ite_false, rd_ii, rd_bb, Option.some.injEq, exists_eq_right, exists_eq_right', and_assoc, reduceCtorEq, false_and, and_false, false_or, or_false, exists_false]
  refine ⟨.inl ⟨by decide, by decide⟩, fun r H2 n2 => ⟨_, _, n2.at', by omega, by omega, by omega, fun l H3 n3 => ⟨by decide, fun p H1 n1 => ?_⟩⟩⟩
  have el3 : H3 l = some (.lst (((List.range (2 * n - 1)).map fun k => 1 + k).map nV)) := by
    rw [n3.at', List.map_map, show (2 * ((n : Nat) : Int) - 1).toNat = 2 * n - 1 by omega]
    refine congrArg (fun z => some (HO.lst z)) (List.map_congr_left fun k _ => ?_)
    show V.int _ = V.int _
    congr 1
  have hl0 : H l = none := n2.g.free n3.nil
  have hp0 : H p = none := (n2.g.trans n3.g).free n1.nil
  have npl : p ≠ l := fun e => by have := n1.nil; rw [e, el3] at this; cases this
  refine ⟨fun mm σ H' => ∃ (ps lf : List Nat) (x : Int), mm = lf.length ∧ Same H H' ∧ σ = [some (nV n), some (.int x), some (.ref l), some (.ref p)] ∧ H' p = some (.lst (ps.map nV)) ∧ H' l = some (.lst (lf.map nV)) ∧ (ps ++ lf).Nodup ∧ (∀ x ∈ ps ++ lf, x < 2 * n) ∧ ps.length + lf.length = 2 * n ∧ ix ps 0 = 0 ∧ 0 < ps.length,
    ⟨_, [0], (List.range (2 * n - 1)).map (fun k => 1 + k), st, rfl, n2.g.trans (n3.g.trans n1.g), rfl, n1.at', n1.g _ _ el3, ?_, ?_, ?_, rfl, by decide⟩, ?_⟩
  · refine List.nodup_append.mpr ⟨by simp, SM.nodup_map_on (fun a _ b _ e => by omega) List.nodup_range, fun a ha b hb => ?_⟩
    obtain ⟨k, _, rfl⟩ := List.mem_map.mp hb
    rw [List.mem_singleton.mp ha]
    omega
  · intro x hx
    rcases List.mem_append.mp hx with h | h
    · rw [List.mem_singleton.mp h]; omega
    · obtain ⟨k, hk, rfl⟩ := List.mem_map.mp h
      have := List.mem_range.mp hk
      omega
  · rw [List.length_singleton, List.length_map, List.length_range]; omega
  rintro mm σ H' ⟨ps, lf, x, rfl, g, rfl, ep, el, nd, lt, len, hz, hp⟩
  simp only [exists_eq', rEqI, rNeI, rInDc, rLenD, rLenT, rMaxL, rIndex, rCatTN, rCatTE, tDNewN, tDNewTN, rNeM, rRange2, rListRng, rRepN, rPopAt, rSetL, gSub, ipI, tDGet, sDPut, tLam, tCallA, tCallV, tDef, ipCatT, rRange1, rIndexD, rInD, rIxD, rLen, rAll, rSum, rListOf, rSlTN, tTupN, tLstN, rSlLN, rCatN, cxK, cxP, cxW, tSeq, tIfS, tTest, tB, tOp, tUn, tC, tAnd, tOr, tNot, tAndV, tOrV, tNotV, tIf, tNext, tBreak, tCont, tDrop, tRet, tRetN, gName, gNil, gCons, gTup, tAsg, tPar, tAug, rI, rI0, rU, rEq, rNe, tChain, tNil, tCons, tTup, tLst, tCall, tCB, tNoPart, tPart, tSl, rSlT, rSlL, rIxL, rIxT, rIn, tBM, tyV, rAppend, rExtend, rCat, rEqD, iList, iTup, iRng1, iRng2, tYes, tDisp, tPairs, rd_v0, rd_vS, rd_comp, rd_for, rd_ite_t, rd_ite_f, List.set_cons_zero, List.set_cons_succ, List.nil_append, List.cons_append, List.append_nil, V.int.injEq, V.bl.injEq, V.ref.injEq, V.ty.injEq, List.cons.injEq, and_true, true_and, exists_eq_left, exists_eq_left', exists_and_left, exists_eq, exists_const, if_true, if_false, ite_true, ite_false, rd_ii, rd_bb, Option.some.injEq, exists_eq_right, exists_eq_right', and_assoc, reduceCtorEq, false_and, and_false, false_or, or_false, exists_false]
  refine ⟨_, .inl (.of el), ?_⟩
  rw [List.length_map]
  by_cases hl : lf.length = 0
  · rw [decide_eq_false (show ¬ ((0 : Int) < (lf.length : Int)) by omega)]
    have e : lf = [] := List.length_eq_zero_iff.mp hl
    subst e
    rw [List.append_nil] at nd lt
    exact iteF (q p ps H' hp0 g ep ⟨by rw [List.length_nil] at len; omega, nd, lt, hz⟩)
  · rw [decide_eq_true (show ((0 : Int) < (lf.length : Int)) by omega)]
    refine iteT ⟨fun σ' H'' => ∃ m', m' < lf.length ∧ _, fun σ' H'' z => z, ?_⟩
    have m0 := Int.emod_nonneg ((x * 48271 + 5) % 2147483647 / 16) (show (lf.length : Int) ≠ 0 by omega)
    have m1 := Int.emod_lt_of_pos ((x * 48271 + 5) % 2147483647 / 16) (show (0 : Int) < (lf.length : Int) by omega)
    have hll : ((lf.map nV).length : Int) = (lf.length : Int) := by rw [List.length_map]
    refine ⟨.inr ⟨by decide, by decide⟩, by decide, .inl ⟨_, .of ep⟩, .inl ⟨_, .of el⟩, ⟨by decide, by decide⟩, _, .inl (.of el), by omega, _, el, ?_⟩
    rw [hll]
    generalize (x * 48271 + 5) % 2147483647 / 16 % (lf.length : Int) = a1 at m0 m1
    have hk : a1.toNat < lf.length := by omega
    have ek : (lf.map nV)[a1.toNat]? = some (nV lf[a1.toNat]) := by rw [List.getElem?_map, List.getElem?_eq_getElem hk]; rfl
    have ee : (lf.map nV).eraseIdx a1.toNat = (lf.take a1.toNat ++ lf.drop (a1.toNat + 1)).map nV := by rw [List.eraseIdx_eq_take_drop_succ, List.map_append, List.map_take, List.map_drop]
    have es : lf = lf.take a1.toNat ++ lf[a1.toNat] :: lf.drop (a1.toNat + 1) := by rw [← List.drop_eq_getElem_cons hk, List.take_append_drop]
    have el2 : (lf.take a1.toNat ++ lf.drop (a1.toNat + 1)).length + 1 = lf.length := by rw [List.length_append, List.length_take, List.length_drop]; omega
    have nd2 : ((ps ++ [lf[a1.toNat]]) ++ (lf.take a1.toNat ++ lf.drop (a1.toNat + 1))).Nodup := nodup_move (by rw [← es]; exact nd)
    refine ⟨by omega, by omega, a1.toNat, by rw [List.length_map]; exact seqIndex_of m0 (by omega), _, ek, _, by rw [upd_ne npl]; exact ep, by rw [List.length_map]; exact small1000 (by omega), ?_⟩
    rw [ee]
    refine ⟨_, ?_, ps ++ [lf[a1.toNat]], lf.take a1.toNat ++ lf.drop (a1.toNat + 1), rfl, (g.wr hl0 _).wr hp0 _, _, rfl, ?_, ?_, nd2, fun x hx => lt x ?_, ?_, ?_, ?_⟩
    · omega
    · rw [upd_same, List.map_append]; rfl
    · rw [upd_ne (Ne.symm npl), upd_same]
    · rw [List.mem_append, List.mem_append, List.mem_append, List.mem_singleton] at hx
      rcases hx with (h | h) | h | h
      · exact List.mem_append_left _ h
      · rw [h]; exact List.mem_append_right _ (List.getElem_mem hk)
      · exact List.mem_append_right _ (List.mem_of_mem_take h)
      · exact List.mem_append_right _ (List.mem_of_mem_drop h)
    · rw [List.length_append, List.length_singleton]; omega
    · rw [ix_app hp]; exact hz
    · rw [List.length_append]; omega
abbrev s_law_twice : Stmt := top 21
theorem sc_law_twice : FnScope ["_law_machine_here", "_law_number", "_law_more", "_law_width", "_law_ways", "_law_ends", "_law_rooms", "_law_order_here", "_law_place", "_law_k", "_law_found", "_law_table", "_law_rows", "_law_one", "_law_row", "_law_other", "_law_room", "_law_marks"] ["_law_machine_here", "_law_number", "_law_more"] (defScope s_law_twice) := ⟨rfl, rfl, rfl, by decide +kernel, rfl, by decide +kernel, by decide +kernel⟩
theorem ok_twice (T : Txt mg) (d : Dfn K mg "_law_twice" s_law_twice ["_law_machine_here", "_law_number", "_law_more"]) (C_law_order : Cal P w K mg base 1 "_law_order" ["_law_rooms", "_law_number"] sp_order) : Cal P w K mg base 2 "_law_twice" ["_law_machine_here", "_law_number", "_law_more"] sp_twice := by
  refine d.cal sc_law_twice (fun vs H Q E h => ?_) (fun f cdv A outer s H vs Q E hr h => ?_)
  · obtain ⟨a, m, x, mo, rfl, _⟩ := h
    rfl
  obtain ⟨a, m, x, mo, rfl, ⟨b, c, ts, ea, eb, pr, ec⟩, ok, h10, hmo, q⟩ := h
  have hu := hu_at hr 8 (by decide)
  have hpos := ok.pos
  have htl : ts.length = 2 ^ m.w := by rw [SS.Paired.len pr, ok.len]
  have hps : 1 ≤ 2 ^ m.w ∧ 2 ^ m.w ≤ 16 := pow_small (by have := ok.wid; omega)
  refine ⟨_, (pss_cons (ps_asg (pv 0) (pg_tupK K (n := 3) rfl (pgs_cons (pg_name (i := 3) sc_law_twice.nd (by rfl) (Or.inl (by rfl))) (pgs_cons (pg_name (i := 4) sc_law_twice.nd (by rfl) (Or.inl (by rfl))) (pgs_cons (pg_name (i := 5) sc_law_twice.nd (by rfl) (Or.inr (by rfl))) pgs_nil))))) (pss_cons (ps_set (i := 6) sc_law_twice.nd rfl (Or.inr rfl) (pe_cB (call_len_seqK K) (by rfl) T.b_len boot_len (pa_c (pv 5) pa_nil))) (pss_cons (ps_set (i := 7) sc_law_twice.nd rfl (Or.inl rfl) (pe_callC C_law_order hr (by omega) (by rfl) (pa_c (pv 6) (pa_c (pv 1) pa_nil)))) (pss_cons (ps_set (i := 8) sc_law_twice.nd rfl (Or.inl rfl) pe_dnewN) (pss_cons (ps_for PassesOwn.never rfl (pi_range1 (by rfl) T.b_range (pa_c (pe_op op_mul pe_int (pv 6)) pa_nil)) (pg_name (i := 9) sc_law_twice.nd (by rfl) (Or.inl (by rfl))) (pss_one (ps_dputH hu (pv 8) (pe_ix (ix_listK K) (pv 7) (pv 9) (fun _ _ => rfl)) (pv 9) rfl))) (pss_cons (ps_set (i := 10) sc_law_twice.nd rfl (Or.inl rfl) (pe_lstN pa_nil)) (pss_cons (ps_for PassesOwn.never rfl (pi_tupK K (pv 4)) (pg_name (i := 11) sc_law_twice.nd (by rfl) (Or.inl (by rfl))) (pss_cons (ps_set (i := 12) sc_law_twice.nd rfl (Or.inl rfl) (pe_lstN pa_nil)) (pss_cons (ps_for PassesOwn.never rfl (pi_listK K (pe_op op_catN (pv 7) (pe_op op_repN (pe_lstN (pa_c pe_int pa_nil)) (pv 2)))) (pg_name (i := 13) sc_law_twice.nd (by rfl) (Or.inl (by rfl))) (pss_cons (ps_set (i := 14) sc_law_twice.nd rfl (Or.inl rfl) (pe_lstN pa_nil)) (pss_cons (ps_for PassesOwn.never rfl (pi_listK K (pe_op op_catN (pv 7) (pe_op op_repN (pe_lstN (pa_c pe_int pa_nil)) (pv 2)))) (pg_name (i := 15) sc_law_twice.nd (by rfl) (Or.inl (by rfl))) (pss_cons (ps_set (i := 1) sc_law_twice.nd rfl (Or.inl rfl) (pe_op op_mod (pe_op op_add (pe_op op_mul (pv 1) pe_int) pe_int) pe_int)) (pss_cons (ps_set (i := 16) sc_law_twice.nd rfl (Or.inl rfl) (pe_ix (ix_tupK K) (pe_ix (ix_tupK K) (pv 11) (pe_op op_mod (pv 13) (pv 6)) (fun _ _ => rfl)) (pe_op op_mod (pv 15) (pv 6)) (fun _ _ => rfl))) (pss_one (ps_expr (pe_bmK K PySem.F.plainAttrs_list PySem.F.slot_list_append PySem.F.type_list_append mt_append (pv 14) (pa_c (pe_dgetH hu (pv 8) (pe_op op_add (pv 16) (pe_op op_mul (pv 6) (pe_op op_mod (pe_op op_fdiv (pv 1) pe_int) pe_int))) (fun _ _ => rfl)) pa_nil))))))) (pss_one (ps_expr (pe_bmK K PySem.F.plainAttrs_list PySem.F.slot_list_append PySem.F.type_list_append mt_append (pv 12) (pa_c (pe_cTy call_tuple_ofN (by rfl) T.b_tuple boot_tuple (pa_c (pv 14) pa_nil)) pa_nil))))))) (pss_one (ps_expr (pe_bmK K PySem.F.plainAttrs_list PySem.F.slot_list_append PySem.F.type_list_append mt_append (pv 10) (pa_c (pe_cTy call_tuple_ofN (by rfl) T.b_tuple boot_tuple (pa_c (pv 12) pa_nil)) pa_nil))))))) (pss_cons (ps_set (i := 17) sc_law_twice.nd rfl (Or.inl rfl) (pe_op op_catN (pe_lcomp ["_law_room"] [(5, "_law_ends"), (6, "_law_rooms")] (CompOk.of rfl (by rfl) (by rfl)) (by rfl) (pi_listK K (pv 7)) (fun _ _ _ _ _ => (pg_name (i := 0) (show List.Nodup (["_law_room", "_law_ends", "_law_rooms"] : List Str) by decide +kernel) (by rfl) (Or.inl (by rfl)))) (fun _ _ _ _ _ => pf_nil) (fun _ _ _ _ _ => (pe_ix (ix_tupK K) (pv 1) (pe_op op_mod (pv 0) (pv 2)) (fun _ _ => rfl)))) (pe_op op_repN (pe_lstN (pa_c (pe_cmpR op_eq (pe_op op_mod (pv 1) pe_int) pe_int (nomark _)) pa_nil)) (pv 2)))) (pss_one (ps_ret (pe_tupN (pa_c (pv 3) (pa_c (pe_cTy call_tuple_ofN (by rfl) T.b_tuple boot_tuple (pa_c (pv 10) pa_nil)) (pa_c (pe_cTy call_tuple_ofN (by rfl) T.b_tuple boot_tuple (pa_c (pv 17) pa_nil)) pa_nil)))))))))))))), ?_⟩
  refine rd_st [some (.ref a), some (.int x), some (nV mo), none, none, none, none, none, none, none, none, none, none, none, none, none, none, none] rfl ?_
  simp only [exists_eq', rEqI, rNeI, rInDc, rLenD, rLenT, rMaxL, rIndex, rCatTN, rCatTE, tDNewN, tDNewTN, rNeM, rRange2, rListRng, rRepN, rPopAt, rSetL, gSub, ipI, tDGet, sDPut, tLam, tCallA, tCallV, tDef, ipCatT, rRange1, rIndexD, rInD, rIxD, rLen, rAll, rSum, rListOf, rSlTN, tTupN, tLstN, rSlLN, rCatN, cxK, cxP, cxW, tSeq, tIfS, tTest, tB, tOp, tUn, tC, tAnd, tOr, tNot, tAndV, tOrV, tNotV, tIf, tNext, tBreak, tCont, tDrop, tRet, tRetN, gName, gNil, gCons, gTup, tAsg, tPar, tAug, rI, rI0, rU, rEq, rNe, tChain, tNil, tCons, tTup, tLst, tCall, tCB, tNoPart, tPart, tSl, rSlT, rSlL, rIxL, rIxT, rIn, tBM, tyV, rAppend, rExtend, rCat, rEqD, iList, iTup, iRng1, iRng2, tYes, tDisp, tPairs, rd_v0, rd_vS, rd_comp, rd_for, rd_ite_t, rd_ite_f, List.set_cons_zero, List.set_cons_succ, List.nil_append, List.cons_append, List.append_nil, V.int.injEq, V.bl.injEq, V.ref.injEq, V.ty.injEq, List.cons.injEq, and_true, true_and, exists_eq_left, exists_eq_left', exists_and_left, exists_eq, exists_const, if_true, if_false, ite_true, ite_false, rd_ii, rd_bb, Option.some.injEq, exists_eq_right, exists_eq_right', and_assoc, reduceCtorEq, false_and, and_false, false_or, or_false, exists_false]
  refine ⟨_, .of ea, rfl, _, _, rfl, _, _, rfl, _, _, rfl, rfl, c, rfl, _, .inr (.of ec), ?_⟩
  rw [List.length_map]
  generalize hN : m.ends.length = N at hpos
  have hN' : m.n = N := hN
  refine ⟨N, x, rfl, hpos, by omega, fun D ps H1 hD g1 eD pl => ?_⟩
  rw [← hN'] at pl
  refine fun pd H2 n2 => ⟨.inl ⟨by decide, by decide⟩, by omega, by omega, ?_⟩
  rw [show (2 * ((N : Nat) : Int)).toNat = 2 * N by omega]
  have eD2 := n2.g _ _ eD
  have hpd : H pd = none := g1.free n2.nil
  have npd : D ≠ pd := ne_of_none eD n2.nil
  refine fb_range (fun i σ H' => Same H H' ∧ (∃ v9, σ = [some (.ref a), some (.int x), some (nV mo), some (nV m.w), some (.ref b), some (.ref c), some (.int ((N : Nat) : Int)), some (.ref D), some (.ref pd), v9, none, none, none, none, none, none, none, none]) ∧ H' D = some (.lst (ps.map nV)) ∧ H' pd = some (.dK (tabF keyI 0 (ps.take i))))
    ⟨g1.trans n2.g, ⟨_, rfl⟩, eD2, n2.at'⟩ ?_ ?_
  · rintro i σ H' hi ⟨g, ⟨v9, rfl⟩, eD', ed'⟩
    simp only [exists_eq', rEqI, rNeI, rInDc, rLenD, rLenT, rMaxL, rIndex, rCatTN, rCatTE, tDNewN, tDNewTN, rNeM, rRange2, rListRng, rRepN, rPopAt, rSetL, gSub, ipI, tDGet, sDPut, tLam, tCallA, tCallV, tDef, ipCatT, rRange1, rIndexD, rInD, rIxD, rLen, rAll, rSum, rListOf, rSlTN, tTupN, tLstN, rSlLN, rCatN, cxK, cxP, cxW, tSeq, tIfS, tTest, tB, tOp, tUn, tC, tAnd, tOr, tNot, tAndV, tOrV, tNotV, tIf, tNext, tBreak, tCont, tDrop, tRet, tRetN, gName, gNil, gCons, gTup, tAsg, tPar, tAug, rI, rI0, rU, rEq, rNe, tChain, tNil, tCons, tTup, tLst, tCall, tCB, tNoPart, tPart, tSl, rSlT, rSlL, rIxL, rIxT, rIn, tBM, tyV, rAppend, rExtend, rCat, rEqD, iList, iTup, iRng1, iRng2, tYes, tDisp, tPairs, rd_v0, rd_vS, rd_comp, rd_for, rd_ite_t, rd_ite_f, List.set_cons_zero, List.set_cons_succ, List.nil_append, List.cons_append, List.append_nil, V.int.injEq, V.bl.injEq, V.ref.injEq, V.ty.injEq, List.cons.injEq, and_true, true_and, exists_eq_left, exists_eq_left', exists_and_left, exists_eq, exists_const, if_true, if_false, ite_true, ite_false, rd_ii, rd_bb, Option.some.injEq, exists_eq_right, exists_eq_right', and_assoc, reduceCtorEq, false_and, and_false, false_or, or_false, exists_false]
    have hil : i < ps.length := by rw [pl.len, hN']; exact hi
    have hfr : ps[i] ∉ ps.take i := fun z => by
      obtain ⟨j, hj, ej⟩ := List.getElem_of_mem z
      rw [List.length_take] at hj
      rw [List.getElem_take] at ej
      have := (List.getElem_inj pl.nd).mp ej
      omega
    refine ⟨_, .of eD', _, by rw [Int.zero_add]; exact atI_nat (by rw [List.getElem?_map, List.getElem?_eq_getElem hil]; rfl), _, DPut.n (n := ((ps[i] : Nat) : Int)) ed' (by rw [tabF_len, List.length_take]; exact small1000 (by have := pl.len; omega)), g.wr hpd _, by rw [upd_ne npd]; exact eD', ?_⟩
    rw [upd_same, Int.zero_add, List.take_add_one, List.getElem?_eq_getElem hil]
    have z := tabF_put keyI_inj hfr
    rw [tabF_len, List.length_take, Nat.min_eq_left (by omega)] at z
    exact congrArg (fun z => some (HO.dK z)) z
  · rintro σ H' ⟨g, ⟨v9, rfl⟩, eD', ed'⟩
    simp only [exists_eq', rEqI, rNeI, rInDc, rLenD, rLenT, rMaxL, rIndex, rCatTN, rCatTE, tDNewN, tDNewTN, rNeM, rRange2, rListRng, rRepN, rPopAt, rSetL, gSub, ipI, tDGet, sDPut, tLam, tCallA, tCallV, tDef, ipCatT, rRange1, rIndexD, rInD, rIxD, rLen, rAll, rSum, rListOf, rSlTN, tTupN, tLstN, rSlLN, rCatN, cxK, cxP, cxW, tSeq, tIfS, tTest, tB, tOp, tUn, tC, tAnd, tOr, tNot, tAndV, tOrV, tNotV, tIf, tNext, tBreak, tCont, tDrop, tRet, tRetN, gName, gNil, gCons, gTup, tAsg, tPar, tAug, rI, rI0, rU, rEq, rNe, tChain, tNil, tCons, tTup, tLst, tCall, tCB, tNoPart, tPart, tSl, rSlT, rSlL, rIxL, rIxT, rIn, tBM, tyV, rAppend, rExtend, rCat, rEqD, iList, iTup, iRng1, iRng2, tYes, tDisp, tPairs, rd_v0, rd_vS, rd_comp, rd_for, rd_ite_t, rd_ite_f, List.set_cons_zero, List.set_cons_succ, List.nil_append, List.cons_append, List.append_nil, V.int.injEq, V.bl.injEq, V.ref.injEq, V.ty.injEq, List.cons.injEq, and_true, true_and, exists_eq_left, exists_eq_left', exists_and_left, exists_eq, exists_const, if_true, if_false, ite_true, ite_false, rd_ii, rd_bb, Option.some.injEq, exists_eq_right, exists_eq_right', and_assoc, reduceCtorEq, false_and, and_false, false_or, or_false, exists_false]
    rw [List.take_of_length_le (by rw [pl.len, hN']; exact Nat.le_refl _)] at ed'
    refine ⟨by decide, fun pf H3 n3 => ⟨⟨_, .of (n3.g _ _ (g _ _ eb))⟩, ?_⟩⟩
    let os : List Nat := ps ++ List.replicate mo 0
    have hos : os.length = 2 * N + mo := by show (ps ++ List.replicate mo 0).length = _; rw [List.length_append, List.length_replicate, pl.len, hN']
    have eos : ps.map nV ++ (List.replicate ((mo : Nat) : Int).toNat [V.int 0]).flatten = os.map nV := by
      show _ = (ps ++ List.replicate mo 0).map nV
      rw [List.map_append, List.map_replicate, show ((mo : Nat) : Int).toNat = mo from rfl]
      congr 1
      generalize mo = z
      induction z with
      | zero => rfl
      | succ z ih => rw [List.replicate_succ, List.replicate_succ, List.flatten_cons, ih]; rfl
    have npf : D ≠ pf := ne_of_none eD' n3.nil
    have npf2 : pd ≠ pf := ne_of_none ed' n3.nil
    have g03 := g.trans n3.g
    have hpf : H pf = none := g.free n3.nil
    have look : ∀ (H5 : Hp) (v : Nat), H5 pd = some (.dK (tabF keyI 0 ps)) → v < 2 * N → DGet H5 pd (.int (v : Int)) (some (nV (nOf ps v))) ∧ nOf ps v < 2 * N ∧ ix ps (nOf ps v) = v := fun H5 v e hv => by
      have hm : v ∈ ps := nodup_all pl.nd pl.lt pl.len v (by rw [hN']; exact hv)
      have h1 := idx_is hm
      refine ⟨?_, by have := h1.1; rw [pl.len, hN'] at this; exact this, h1.2⟩
      have := DGet.n (n := (v : Int)) e
      rw [show valV (tabF keyI 0 ps) (.inl (v : Int)) = _ from tabF_in keyI_inj hm] at this
      exact this
    refine fb_tup (K := K) (a := b) (xs := ts) (fun l σ H4 => Same H H4 ∧ (∃ x v11 v12 v13 v14 v15 v16, σ = [some (.ref a), some (.int x), some (nV mo), some (nV m.w), some (.ref b), some (.ref c), some (.int ((N : Nat) : Int)), some (.ref D), some (.ref pd), v9, some (.ref pf), v11, v12, v13, v14, v15, v16, none]) ∧ H4 D = some (.lst (ps.map nV)) ∧ H4 pd = some (.dK (tabF keyI 0 ps)) ∧ ∃ rsf tabs, H4 pf = some (.lst rsf) ∧ Paired (Tab H4) rsf tabs ∧ tabs.length = l ∧
      ∀ (l' : Nat) t, tabs[l']? = some t → t.length = os.length ∧ ∀ (i : Nat) r, t[i]? = some r → r.length = os.length ∧ ∀ (j x : Nat), r[j]? = some x → x < 2 * N ∧ ix ps x % N = m.go l' (ix os i % N) (ix os j % N))
      ⟨g03, ⟨x, _, _, _, _, _, _, rfl⟩, n3.g _ _ eD', n3.g _ _ ed', [], [], n3.at', .nil, rfl, fun l' t e => by simp at e⟩ (fun l σ H4 _ z => .of (z.1 _ _ eb)) ?_ ?_
    · rintro l y σ H4 hy ⟨g4, ⟨x', v11, v12, v13, v14, v15, v16, rfl⟩, eD4, ed4, rsf, tabs, ef4, pf4, hl4, ht4⟩
      have hl := (List.getElem?_eq_some_iff.mp hy).1
      have hl2 : l < 2 ^ m.w := by omega
      obtain ⟨u, -, rsu, -, k1, k2, -, -, -⟩ := RepT.row pr ok hl2 (show 0 < m.n by rw [hN']; exact hpos) (show 0 < m.n by rw [hN']; exact hpos)
      rw [k1] at hy
      cases hy
      simp only [exists_eq', rEqI, rNeI, rInDc, rLenD, rLenT, rMaxL, rIndex, rCatTN, rCatTE, tDNewN, tDNewTN, rNeM, rRange2, rListRng, rRepN, rPopAt, rSetL, gSub, ipI, tDGet, sDPut, tLam, tCallA, tCallV, tDef, ipCatT, rRange1, rIndexD, rInD, rIxD, rLen, rAll, rSum, rListOf, rSlTN, tTupN, tLstN, rSlLN, rCatN, cxK, cxP, cxW, tSeq, tIfS, tTest, tB, tOp, tUn, tC, tAnd, tOr, tNot, tAndV, tOrV, tNotV, tIf, tNext, tBreak, tCont, tDrop, tRet, tRetN, gName, gNil, gCons, gTup, tAsg, tPar, tAug, rI, rI0, rU, rEq, rNe, tChain, tNil, tCons, tTup, tLst, tCall, tCB, tNoPart, tPart, tSl, rSlT, rSlL, rIxL, rIxT, rIn, tBM, tyV, rAppend, rExtend, rCat, rEqD, iList, iTup, iRng1, iRng2, tYes, tDisp, tPairs, rd_v0, rd_vS, rd_comp, rd_for, rd_ite_t, rd_ite_f, List.set_cons_zero, List.set_cons_succ, List.nil_append, List.cons_append, List.append_nil, V.int.injEq, V.bl.injEq, V.ref.injEq, V.ty.injEq, List.cons.injEq, and_true, true_and, exists_eq_left, exists_eq_left', exists_and_left, exists_eq, exists_const, if_true, if_false, ite_true, ite_false, rd_ii, rd_bb, Option.some.injEq, exists_eq_right, exists_eq_right', and_assoc, reduceCtorEq, false_and, and_false, false_or, or_false, exists_false]
      refine ⟨by decide, fun pr1 H5 n5 => ⟨small_line (by simp), fun pz H6 n6 => ⟨_, n6.at', by omega, by omega, small_line (by simp; omega), fun pz2 H7 n7 => ⟨_, (n5.g.trans (n6.g.trans n7.g)) _ _ eD4, _, n7.at', small_line (by rw [← List.length_append, eos, List.length_map]; omega), fun pl1 H8 n8 => ⟨⟨_, .of n8.at'⟩, ?_⟩⟩⟩⟩⟩
      rw [eos] at n8
      have g48 : Same H4 H8 := n5.g.trans (n6.g.trans (n7.g.trans n8.g))
      have e18 : H8 pr1 = some (.lst []) := (n6.g.trans (n7.g.trans n8.g)) _ _ n5.at'
      have hpr1 : H pr1 = none := g4.free n5.nil
      have nD1 : D ≠ pr1 := ne_of_none eD4 n5.nil
      have nd1 : pd ≠ pr1 := ne_of_none ed4 n5.nil
      have nf1 : pf ≠ pr1 := ne_of_none ef4 n5.nil
      have n18 : pr1 ≠ pl1 := ne_of_none ((n6.g.trans n7.g) _ _ n5.at') n8.nil
      refine fb_list (K := K) (a := pl1) (xs := os.map nV) (fun i σ H9 => Same H H9 ∧ TupS H8 H9 ∧ H9 pl1 = some (.lst (os.map nV)) ∧ (∃ x v13 v14 v15 v16, σ = [some (.ref a), some (.int x), some (nV mo), some (nV m.w), some (.ref b), some (.ref c), some (.int ((N : Nat) : Int)), some (.ref D), some (.ref pd), v9, some (.ref pf), some (.ref u), some (.ref pr1), v13, v14, v15, v16, none]) ∧ H9 D = some (.lst (ps.map nV)) ∧ H9 pd = some (.dK (tabF keyI 0 ps)) ∧ H9 pf = some (.lst rsf) ∧
        ∃ rs2 lines, H9 pr1 = some (.lst rs2) ∧ Paired (Line H9) rs2 lines ∧ lines.length = i ∧ ∀ (i : Nat) r, lines[i]? = some r → r.length = os.length ∧ ∀ (j x : Nat), r[j]? = some x → x < 2 * N ∧ ix ps x % N = m.go l (ix os i % N) (ix os j % N))
        ⟨g4.trans g48, TupS.refl _, n8.at', ⟨x', _, _, _, _, rfl⟩, g48 _ _ eD4, g48 _ _ ed4, g48 _ _ ef4, [], [], e18, .nil, rfl, fun i r e => by simp at e⟩ (fun i σ H9 _ z => .of z.2.2.1) ?_ ?_
      · rintro i y σ H9 hy ⟨g9, ts9, el9, ⟨x9, w13, w14, w15, w16, rfl⟩, eD9, ed9, ef9, rs2, lines, e19, pr9, hl9, hr9⟩
        rw [List.getElem?_map] at hy
        obtain ⟨o, eo, rfl⟩ := Option.map_eq_some_iff.mp hy
        have hio := (List.getElem?_eq_some_iff.mp eo).1
        have eo' : ix os i = o := ix_of eo
        have hoN : o % N < m.n := by rw [hN']; exact Nat.mod_lt _ hpos
        simp only [exists_eq', rEqI, rNeI, rInDc, rLenD, rLenT, rMaxL, rIndex, rCatTN, rCatTE, tDNewN, tDNewTN, rNeM, rRange2, rListRng, rRepN, rPopAt, rSetL, gSub, ipI, tDGet, sDPut, tLam, tCallA, tCallV, tDef, ipCatT, rRange1, rIndexD, rInD, rIxD, rLen, rAll, rSum, rListOf, rSlTN, tTupN, tLstN, rSlLN, rCatN, cxK, cxP, cxW, tSeq, tIfS, tTest, tB, tOp, tUn, tC, tAnd, tOr, tNot, tAndV, tOrV, tNotV, tIf, tNext, tBreak, tCont, tDrop, tRet, tRetN, gName, gNil, gCons, gTup, tAsg, tPar, tAug, rI, rI0, rU, rEq, rNe, tChain, tNil, tCons, tTup, tLst, tCall, tCB, tNoPart, tPart, tSl, rSlT, rSlL, rIxL, rIxT, rIn, tBM, tyV, rAppend, rExtend, rCat, rEqD, iList, iTup, iRng1, iRng2, tYes, tDisp, tPairs, rd_v0, rd_vS, rd_comp, rd_for, rd_ite_t, rd_ite_f, List.set_cons_zero, List.set_cons_succ, List.nil_append, List.cons_append, List.append_nil, V.int.injEq, V.bl.injEq, V.ref.injEq, V.ty.injEq, List.cons.injEq, and_true, true_and, exists_eq_left, exists_eq_left', exists_and_left, exists_eq, exists_const, if_true, if_false, ite_true, ite_false, rd_ii, rd_bb, Option.some.injEq, exists_eq_right, exists_eq_right', and_assoc, reduceCtorEq, false_and, and_false, false_or, or_false, exists_false]
        refine ⟨by decide, fun p14 H10 n10 => ⟨small_line (by simp), fun qz H11 n11 => ⟨_, n11.at', by omega, by omega, small_line (by simp; omega), fun qz2 H12 n12 => ⟨_, (n10.g.trans (n11.g.trans n12.g)) _ _ eD9, _, n12.at', small_line (by rw [← List.length_append, eos, List.length_map]; omega), fun pl2 H13 n13 => ⟨⟨_, .of n13.at'⟩, ?_⟩⟩⟩⟩⟩
        rw [eos] at n13
        have g913 : Same H9 H13 := n10.g.trans (n11.g.trans (n12.g.trans n13.g))
        have e14 : H13 p14 = some (.lst []) := (n11.g.trans (n12.g.trans n13.g)) _ _ n10.at'
        have hp14 : H p14 = none := g9.free n10.nil
        have nD14 : D ≠ p14 := ne_of_none eD9 n10.nil
        have nd14 : pd ≠ p14 := ne_of_none ed9 n10.nil
        have nf14 : pf ≠ p14 := ne_of_none ef9 n10.nil
        have n114 : pr1 ≠ p14 := ne_of_none e19 n10.nil
        have nl14 : pl1 ≠ p14 := ne_of_none el9 n10.nil
        have n2l : p14 ≠ pl2 := ne_of_none ((n11.g.trans n12.g) _ _ n10.at') n13.nil
        refine fb_list (K := K) (a := pl2) (xs := os.map nV) (fun j σ Ha => Same H Ha ∧ TupS H13 Ha ∧ Ha pl2 = some (.lst (os.map nV)) ∧ Ha pl1 = some (.lst (os.map nV)) ∧ (∃ x v15 v16, σ = [some (.ref a), some (.int x), some (nV mo), some (nV m.w), some (.ref b), some (.ref c), some (.int ((N : Nat) : Int)), some (.ref D), some (.ref pd), v9, some (.ref pf), some (.ref u), some (.ref pr1), some (nV o), some (.ref p14), v15, v16, none]) ∧ Ha D = some (.lst (ps.map nV)) ∧ Ha pd = some (.dK (tabF keyI 0 ps)) ∧ Ha pf = some (.lst rsf) ∧ Ha pr1 = some (.lst rs2) ∧
          ∃ ln : List Nat, Ha p14 = some (.lst (ln.map nV)) ∧ ln.length = j ∧ ∀ (j x : Nat), ln[j]? = some x → x < 2 * N ∧ ix ps x % N = m.go l (ix os i % N) (ix os j % N))
          ⟨g9.trans g913, TupS.refl _, n13.at', g913 _ _ el9, ⟨x9, _, _, rfl⟩, g913 _ _ eD9, g913 _ _ ed9, g913 _ _ ef9, g913 _ _ e19, [], e14, rfl, fun j x e => by simp at e⟩ (fun j σ Ha _ z => .of z.2.2.1) ?_ ?_
        · rintro j y σ Ha hy ⟨ga, tsa, el2a, el1a, ⟨xa, w15, w16, rfl⟩, eDa, eda, efa, e1a, ln, e14a, hlna, hra⟩
          rw [List.getElem?_map] at hy
          obtain ⟨o2, eo2, rfl⟩ := Option.map_eq_some_iff.mp hy
          have hjo := (List.getElem?_eq_some_iff.mp eo2).1
          have eo2' : ix os j = o2 := ix_of eo2
          have hoN2 : o2 % N < m.n := by rw [hN']; exact Nat.mod_lt _ hpos
          obtain ⟨u', u2, rsu', ln', k1', k2', k3, k4, k5⟩ := RepT.row pr ok hl2 hoN hoN2
          rw [k1] at k1'
          cases k1'
          have hgo : m.go l (o % N) (o2 % N) < N := by have := ok.go_lt hl2 hoN hoN2; omega
          simp only [exists_eq', rEqI, rNeI, rInDc, rLenD, rLenT, rMaxL, rIndex, rCatTN, rCatTE, tDNewN, tDNewTN, rNeM, rRange2, rListRng, rRepN, rPopAt, rSetL, gSub, ipI, tDGet, sDPut, tLam, tCallA, tCallV, tDef, ipCatT, rRange1, rIndexD, rInD, rIxD, rLen, rAll, rSum, rListOf, rSlTN, tTupN, tLstN, rSlLN, rCatN, cxK, cxP, cxW, tSeq, tIfS, tTest, tB, tOp, tUn, tC, tAnd, tOr, tNot, tAndV, tOrV, tNotV, tIf, tNext, tBreak, tCont, tDrop, tRet, tRetN, gName, gNil, gCons, gTup, tAsg, tPar, tAug, rI, rI0, rU, rEq, rNe, tChain, tNil, tCons, tTup, tLst, tCall, tCB, tNoPart, tPart, tSl, rSlT, rSlL, rIxL, rIxT, rIn, tBM, tyV, rAppend, rExtend, rCat, rEqD, iList, iTup, iRng1, iRng2, tYes, tDisp, tPairs, rd_v0, rd_vS, rd_comp, rd_for, rd_ite_t, rd_ite_f, List.set_cons_zero, List.set_cons_succ, List.nil_append, List.cons_append, List.append_nil, V.int.injEq, V.bl.injEq, V.ref.injEq, V.ty.injEq, List.cons.injEq, and_true, true_and, exists_eq_left, exists_eq_left', exists_and_left, exists_eq, exists_const, if_true, if_false, ite_true, ite_false, rd_ii, rd_bb, Option.some.injEq, exists_eq_right, exists_eq_right', and_assoc, reduceCtorEq, false_and, and_false, false_or, or_false, exists_false]
          have b0 := Int.emod_nonneg ((xa * 69621 + 3) % 2147483629 / 32) (show (2 : Int) ≠ 0 by decide)
          have b1 := Int.emod_lt_of_pos ((xa * 69621 + 3) % 2147483629 / 32) (show (0 : Int) < 2 by decide)
          generalize (xa * 69621 + 3) % 2147483629 / 32 % 2 = bt at b0 b1
          obtain ⟨bn, rfl⟩ : ∃ bn : Nat, bt = (bn : Int) := ⟨bt.toNat, by omega⟩
          have hbn : bn = 0 ∨ bn = 1 := by omega
          have hv : m.go l (o % N) (o2 % N) + N * bn < 2 * N := by rcases hbn with rfl | rfl <;> omega
          have hvm : (m.go l (o % N) (o2 % N) + N * bn) % N = m.go l (o % N) (o2 % N) := by rw [Nat.add_mul_mod_self_left, Nat.mod_eq_of_lt hgo]
          have ev : ((m.go l (o % N) (o2 % N) : Nat) : Int) + ((N : Nat) : Int) * ((bn : Nat) : Int) = ((m.go l (o % N) (o2 % N) + N * bn : Nat) : Int) := by rw [Int.natCast_add, Int.natCast_mul]
          obtain ⟨lk1, lk2, lk3⟩ := look Ha _ eda hv
          refine ⟨.inr ⟨by decide, by decide⟩, by decide, by omega, _, .of (ga _ _ k2'), _, (by rw [← Int.natCast_emod]; exact atI_nat k3), by omega, u2, rfl, _, .of (ga _ _ k4), _, (by rw [← Int.natCast_emod]; exact atI_nat k5), .inl ⟨_, .of e14a⟩, ⟨by decide, by decide⟩, by decide, .inl ⟨by omega, by omega⟩, _, rfl, _, (by rw [ev]; exact lk1), _, e14a, by rw [List.length_map]; exact small1000 (by omega), ?_⟩
          refine ⟨ga.wr hp14 _, tsa.trans (TupS.wr e14a _), by rw [upd_ne (Ne.symm n2l)]; exact el2a, by rw [upd_ne nl14]; exact el1a, by rw [upd_ne nD14]; exact eDa, by rw [upd_ne nd14]; exact eda, by rw [upd_ne nf14]; exact efa, by rw [upd_ne n114]; exact e1a, ln ++ [nOf ps (m.go l (o % N) (o2 % N) + N * bn)], by rw [upd_same, List.map_append]; rfl, by rw [List.length_append, List.length_singleton, hlna], fun j' x hx => ?_⟩
          rcases snoc_at hx with z | ⟨rfl, rfl⟩
          · exact hra j' x z
          · refine ⟨lk2, ?_⟩
            rw [lk3, hvm, eo', hlna, eo2']
        · rintro σ Ha ⟨ga, tsa, el2a, el1a, ⟨xa, w15, w16, rfl⟩, eDa, eda, efa, e1a, ln, e14a, hlna, hra⟩
          rw [List.length_map] at hlna
          simp only [exists_eq', rEqI, rNeI, rInDc, rLenD, rLenT, rMaxL, rIndex, rCatTN, rCatTE, tDNewN, tDNewTN, rNeM, rRange2, rListRng, rRepN, rPopAt, rSetL, gSub, ipI, tDGet, sDPut, tLam, tCallA, tCallV, tDef, ipCatT, rRange1, rIndexD, rInD, rIxD, rLen, rAll, rSum, rListOf, rSlTN, tTupN, tLstN, rSlLN, rCatN, cxK, cxP, cxW, tSeq, tIfS, tTest, tB, tOp, tUn, tC, tAnd, tOr, tNot, tAndV, tOrV, tNotV, tIf, tNext, tBreak, tCont, tDrop, tRet, tRetN, gName, gNil, gCons, gTup, tAsg, tPar, tAug, rI, rI0, rU, rEq, rNe, tChain, tNil, tCons, tTup, tLst, tCall, tCB, tNoPart, tPart, tSl, rSlT, rSlL, rIxL, rIxT, rIn, tBM, tyV, rAppend, rExtend, rCat, rEqD, iList, iTup, iRng1, iRng2, tYes, tDisp, tPairs, rd_v0, rd_vS, rd_comp, rd_for, rd_ite_t, rd_ite_f, List.set_cons_zero, List.set_cons_succ, List.nil_append, List.cons_append, List.append_nil, V.int.injEq, V.bl.injEq, V.ref.injEq, V.ty.injEq, List.cons.injEq, and_true, true_and, exists_eq_left, exists_eq_left', exists_and_left, exists_eq, exists_const, if_true, if_false, ite_true, ite_false, rd_ii, rd_bb, Option.some.injEq, exists_eq_right, exists_eq_right', and_assoc, reduceCtorEq, false_and, and_false, false_or, or_false, exists_false]
          refine ⟨.inl ⟨_, .of e1a⟩, _, .inl ⟨.of e14a, fun pt Hb nb => ?_⟩⟩
          have e1b := nb.g _ _ e1a
          have hrl9 := SS.Paired.len pr9
          have tsA : TupS H9 (upd Hb pr1 (.lst (rs2 ++ [.ref pt]))) := g913.tups.trans (tsa.trans (nb.g.tups.trans (TupS.wr e1b _)))
          refine ⟨_, e1b, small1000 (by omega), (ga.trans nb.g).wr hpr1 _, ts9.trans tsA, by rw [upd_ne (Ne.symm n18)]; exact nb.g _ _ el1a, by rw [upd_ne nD1]; exact nb.g _ _ eDa, by rw [upd_ne nd1]; exact nb.g _ _ eda, by rw [upd_ne nf1]; exact nb.g _ _ efa, rs2 ++ [.ref pt], upd_same, lines ++ [ln], SM.Paired.snoc (L2.Paired.mapP pr9 fun _ _ z => z.ts tsA) ⟨pt, rfl, TupS.wr e1b _ _ _ nb.at'⟩, by rw [List.length_append, List.length_singleton, hl9], fun i' r hr => ?_⟩
          rcases snoc_at hr with z | ⟨rfl, rfl⟩
          · exact hr9 i' r z
          · rw [hl9]
            exact ⟨hlna, hra⟩
      · rintro σ H9 ⟨g9, ts9, el9, ⟨x9, w13, w14, w15, w16, rfl⟩, eD9, ed9, ef9, rs2, lines, e19, pr9, hl9, hr9⟩
        rw [List.length_map] at hl9
        simp only [exists_eq', rEqI, rNeI, rInDc, rLenD, rLenT, rMaxL, rIndex, rCatTN, rCatTE, tDNewN, tDNewTN, rNeM, rRange2, rListRng, rRepN, rPopAt, rSetL, gSub, ipI, tDGet, sDPut, tLam, tCallA, tCallV, tDef, ipCatT, rRange1, rIndexD, rInD, rIxD, rLen, rAll, rSum, rListOf, rSlTN, tTupN, tLstN, rSlLN, rCatN, cxK, cxP, cxW, tSeq, tIfS, tTest, tB, tOp, tUn, tC, tAnd, tOr, tNot, tAndV, tOrV, tNotV, tIf, tNext, tBreak, tCont, tDrop, tRet, tRetN, gName, gNil, gCons, gTup, tAsg, tPar, tAug, rI, rI0, rU, rEq, rNe, tChain, tNil, tCons, tTup, tLst, tCall, tCB, tNoPart, tPart, tSl, rSlT, rSlL, rIxL, rIxT, rIn, tBM, tyV, rAppend, rExtend, rCat, rEqD, iList, iTup, iRng1, iRng2, tYes, tDisp, tPairs, rd_v0, rd_vS, rd_comp, rd_for, rd_ite_t, rd_ite_f, List.set_cons_zero, List.set_cons_succ, List.nil_append, List.cons_append, List.append_nil, V.int.injEq, V.bl.injEq, V.ref.injEq, V.ty.injEq, List.cons.injEq, and_true, true_and, exists_eq_left, exists_eq_left', exists_and_left, exists_eq, exists_const, if_true, if_false, ite_true, ite_false, rd_ii, rd_bb, Option.some.injEq, exists_eq_right, exists_eq_right', and_assoc, reduceCtorEq, false_and, and_false, false_or, or_false, exists_false]
        refine ⟨.inl ⟨_, .of ef9⟩, _, .inl ⟨.of e19, fun pt Hb nb => ?_⟩⟩
        have efb := nb.g _ _ ef9
        have hrl4 := SS.Paired.len pf4
        have tsB : TupS H9 (upd Hb pf (.lst (rsf ++ [.ref pt]))) := nb.g.tups.trans (TupS.wr efb _)
        have tsA : TupS H4 (upd Hb pf (.lst (rsf ++ [.ref pt]))) := g48.tups.trans (ts9.trans tsB)
        refine ⟨_, efb, small1000 (by omega), (g9.trans nb.g).wr hpf _, by rw [upd_ne npf]; exact nb.g _ _ eD9, by rw [upd_ne npf2]; exact nb.g _ _ ed9, rsf ++ [.ref pt], upd_same, tabs ++ [lines], SM.Paired.snoc (L2.Paired.mapP pf4 fun _ _ z => z.ts tsA) ⟨pt, _, rfl, TupS.wr efb _ _ _ nb.at', L2.Paired.mapP pr9 fun _ _ z => z.ts tsB⟩, by rw [List.length_append, List.length_singleton, hl4], fun l' t ht => ?_⟩
        rcases snoc_at ht with z | ⟨rfl, rfl⟩
        · exact ht4 l' t z
        · rw [hl4]
          exact ⟨hl9, hr9⟩
    · rintro σ H4 ⟨g4, ⟨x', v11, v12, v13, v14, v15, v16, rfl⟩, eD4, ed4, rsf, tabs, ef4, pf4, hl4, ht4⟩
      simp only [exists_eq', rEqI, rNeI, rInDc, rLenD, rLenT, rMaxL, rIndex, rCatTN, rCatTE, tDNewN, tDNewTN, rNeM, rRange2, rListRng, rRepN, rPopAt, rSetL, gSub, ipI, tDGet, sDPut, tLam, tCallA, tCallV, tDef, ipCatT, rRange1, rIndexD, rInD, rIxD, rLen, rAll, rSum, rListOf, rSlTN, tTupN, tLstN, rSlLN, rCatN, cxK, cxP, cxW, tSeq, tIfS, tTest, tB, tOp, tUn, tC, tAnd, tOr, tNot, tAndV, tOrV, tNotV, tIf, tNext, tBreak, tCont, tDrop, tRet, tRetN, gName, gNil, gCons, gTup, tAsg, tPar, tAug, rI, rI0, rU, rEq, rNe, tChain, tNil, tCons, tTup, tLst, tCall, tCB, tNoPart, tPart, tSl, rSlT, rSlL, rIxL, rIxT, rIn, tBM, tyV, rAppend, rExtend, rCat, rEqD, iList, iTup, iRng1, iRng2, tYes, tDisp, tPairs, rd_v0, rd_vS, rd_comp, rd_for, rd_ite_t, rd_ite_f, List.set_cons_zero, List.set_cons_succ, List.nil_append, List.cons_append, List.append_nil, V.int.injEq, V.bl.injEq, V.ref.injEq, V.ty.injEq, List.cons.injEq, and_true, true_and, exists_eq_left, exists_eq_left', exists_and_left, exists_eq, exists_const, if_true, if_false, ite_true, ite_false, rd_ii, rd_bb, Option.some.injEq, exists_eq_right, exists_eq_right', and_assoc, reduceCtorEq, false_and, and_false, false_or, or_false, exists_false]
      let fe : V → V := fun | .int z => .bl (m.fin (z.toNat % N)) | v => v
      refine ⟨⟨_, .of eD4⟩, cm_list (K := K) (a := D) (xs := ps.map nV) (fun σ => ∃ v, σ = [v, some (.ref c), some (.int ((N : Nat) : Int))]) fe (by rw [List.length_map, pl.len]; omega) (.of eD4) ⟨_, rfl⟩ ?_ ?_⟩
      · rintro D' i' σ H' x hi hm hx g hD hD' ⟨v, rfl⟩
        obtain ⟨o, mo, rfl⟩ := List.mem_map.mp hm
        have hoN : o % N < m.ends.length := by rw [hN]; exact Nat.mod_lt _ hpos
        simp only [exists_eq', rEqI, rNeI, rInDc, rLenD, rLenT, rMaxL, rIndex, rCatTN, rCatTE, tDNewN, tDNewTN, rNeM, rRange2, rListRng, rRepN, rPopAt, rSetL, gSub, ipI, tDGet, sDPut, tLam, tCallA, tCallV, tDef, ipCatT, rRange1, rIndexD, rInD, rIxD, rLen, rAll, rSum, rListOf, rSlTN, tTupN, tLstN, rSlLN, rCatN, cxK, cxP, cxW, tSeq, tIfS, tTest, tB, tOp, tUn, tC, tAnd, tOr, tNot, tAndV, tOrV, tNotV, tIf, tNext, tBreak, tCont, tDrop, tRet, tRetN, gName, gNil, gCons, gTup, tAsg, tPar, tAug, rI, rI0, rU, rEq, rNe, tChain, tNil, tCons, tTup, tLst, tCall, tCB, tNoPart, tPart, tSl, rSlT, rSlL, rIxL, rIxT, rIn, tBM, tyV, rAppend, rExtend, rCat, rEqD, iList, iTup, iRng1, iRng2, tYes, tDisp, tPairs, rd_v0, rd_vS, rd_comp, rd_for, rd_ite_t, rd_ite_f, List.set_cons_zero, List.set_cons_succ, List.nil_append, List.cons_append, List.append_nil, V.int.injEq, V.bl.injEq, V.ref.injEq, V.ty.injEq, List.cons.injEq, and_true, true_and, exists_eq_left, exists_eq_left', exists_and_left, exists_eq, exists_const, if_true, if_false, ite_true, ite_false, rd_ii, rd_bb, Option.some.injEq, exists_eq_right, exists_eq_right', and_assoc, reduceCtorEq, false_and, and_false, false_or, or_false, exists_false]
        refine ⟨by omega, _, .of (g _ _ (g4 _ _ ec)), _, ?_, cm_step (by rw [List.length_map, pl.len]; omega) hx hD hD' g ⟨_, rfl⟩ rfl⟩
        rw [← Int.natCast_emod]
        exact atI_nat (by rw [List.getElem?_map, Tm.fin_at hoN]; rfl)
      intro Dm H5 hDm g5 e5
      have e5' : H5 Dm = some (.lst ((ps.map fun o => m.fin (o % N)).map V.bl)) := by rw [e5, List.map_map, List.map_map]; rfl
      have ebs : (ps.map fun o => m.fin (o % N)).map V.bl ++ (List.replicate ((mo : Nat) : Int).toNat [V.bl (decide (x' % 2 = 0))]).flatten = ((ps.map fun o => m.fin (o % N)) ++ List.replicate mo (decide (x' % 2 = 0))).map V.bl := by
        rw [List.map_append, List.map_replicate, show ((mo : Nat) : Int).toNat = mo from rfl]
        congr 1
        generalize mo = z
        induction z with
        | zero => rfl
        | succ z ih => rw [List.replicate_succ, List.replicate_succ, List.flatten_cons, ih]; rfl
      refine ⟨by decide, small_line (by simp), fun pz H6 n6 => ⟨_, n6.at', by omega, by omega, small_line (by simp; omega), fun pz2 H7 n7 => ⟨Dm, rfl, _, (n6.g.trans n7.g) _ _ e5', _, n7.at', ?_, fun pk H8 n8 => ?_⟩⟩⟩
      · rw [← List.length_append, ebs, List.length_map, List.length_append, List.length_map, List.length_replicate, pl.len]
        exact small_line (by omega)
      rw [ebs] at n8
      have g48 : Same H4 H8 := g5.trans (n6.g.trans (n7.g.trans n8.g))
      refine ⟨_, .inl ⟨.of (g48 _ _ ef4), fun pt H9 n9 => ⟨_, .inl ⟨.of (n9.g _ _ n8.at'), fun pt2 H10 n10 => ⟨small_line (by simp), fun pp H11 n11 => ?_⟩⟩⟩⟩⟩
      have g411 : Same H4 H11 := g48.trans (n9.g.trans (n10.g.trans n11.g))
      have tw : Twc m ps os.length tabs ((ps.map fun o => m.fin (o % N)) ++ List.replicate mo (decide (x' % 2 = 0))) := by
        refine Twc.of (by rw [hl4, htl]) (by rw [List.length_append, List.length_map, List.length_replicate, pl.len, hos, hN']) (fun i hi => ix_app (by rw [pl.len]; exact hi)) (by rw [hN']; exact ht4) fun i hi => ?_
        rw [List.getElem?_append_left (by rw [List.length_map, pl.len]; exact hi), List.getElem?_map, ix_at (by rw [pl.len]; exact hi), hN']
        rfl
      exact q pp ⟨m.w, tabs, _⟩ _ H11 (g4.trans g411) ⟨pt, pt2, rsf, n11.at', (n10.g.trans n11.g) _ _ n9.at', L2.Paired.mapP pf4 fun _ _ z => z.ts g411.tups, n11.g _ _ n10.at'⟩ (tw.ok ok (by rw [hos, hN']; omega) (by rw [hos]; omega)) (tw.bis ok pl (by rw [hos, hN']; omega) (by rw [hos]; omega))
end
end K46

set_option Elab.async false
set_option linter.all false
set_option maxRecDepth 100000
set_option maxHeartbeats 4000000
namespace K46
open PySem PySem.Spec PyProof.Rows L2 SS SM
abbrev sp_law := sp_lawT
seal PE PT PW PA PS PSs
theorem lk_skip {ts : List (Addr × List (Pos × Str))} {a b : Addr} {q : List (Pos × Str)} (h : b ≠ a) : ((a, q) :: ts).lookup b = ts.lookup b := by rw [List.lookup_cons, show (b == a) = false from beq_eq_false_iff_ne.mpr h]
theorem lk_hit {ts : List (Addr × List (Pos × Str))} {a : Addr} {q : List (Pos × Str)} : ((a, q) :: ts).lookup a = some q := by simp [List.lookup]
section
variable {P : Program} {w : World} {K : PySem.W.Frag} {mg : Str → Option Value} {base : Heap}
abbrev s_law : Stmt := top 22
theorem sc_law : FnScope ["_law_script", "_law_number", "_law_width", "_law_rooms", "_law_seed", "_law_machine_here", "_law_found", "_law_k", "_law_cell"] ["_law_script"] (defScope s_law) := ⟨rfl, rfl, rfl, by decide +kernel, rfl, by decide +kernel, by decide +kernel⟩
theorem ok_law {f Pt Pr : Addr} {fd : FuncData} (T : Txt mg) (n1 : Pr ≠ Pt) (F : Fun K "law" "law" s_law f fd) (C_law_cell_at : Cal P w K mg base 1 "_law_cell_at" ["_law_script", "_law_k"] (sp_cell K)) (C_law_machine : Cal P w K mg base 1 "_law_machine" ["_law_number", "_law_rooms", "_law_width"] sp_machT)
    (C_law_alone : Cal P w K mg base 1 "_law_alone" ["_law_machine_here"] sp_alone) (C_law_coming : Cal P w K mg base 1 "_law_coming" ["_law_machine_here"] sp_comingL) (C_law_twice : Cal P w K mg base 2 "_law_twice" ["_law_machine_here", "_law_number", "_law_more"] sp_twice)
    (C_tree_reduced : Cal P w K mg base 7 "tree_reduced" ["machine"] (sp_tred Pt qs_tree_least Pr qs_tree_reduced)) : FnOk P w K mg base CX0 8 f fd ["_law_script"] (sp_law K [(Pt, qs_tree_least), (Pr, qs_tree_reduced)]) := by
  refine F.ok sc_law (fun vs H Q E h => ?_) (fun cdv A outer s H vs Q E hr h => ?_)
  · obtain ⟨a, ns, rfl, _⟩ := h
    rfl
  obtain ⟨a, ns, rfl, hS, h63, hO, q⟩ := h
  have tl : TabOk H Pt qs_tree_least := hO.tab lk_hit
  have tr : TabOk H Pr qs_tree_reduced := hO.tab (by rw [lk_skip n1]; exact lk_hit)
  have hu := hu_at hr 8 (by decide)
  refine ⟨_, (pss_cons (ps_set (i := 1) sc_law.nd rfl (Or.inr rfl) (pe_op op_mod (pe_callC C_law_cell_at hr (by omega) (by rfl) (pa_c (pv 0) (pa_c pe_int pa_nil))) (pe_op op_pow pe_int pe_int))) (pss_cons (ps_set (i := 2) sc_law.nd rfl (Or.inl rfl) (pe_op op_mod (pv 1) pe_int)) (pss_cons (ps_set (i := 3) sc_law.nd rfl (Or.inl rfl) (pe_op op_add pe_int (pe_op op_mod (pe_callC C_law_cell_at hr (by omega) (by rfl) (pa_c (pv 0) (pa_c pe_int pa_nil))) (pe_ix (ix_listK K) (pe_lstN (pa_c pe_int (pa_c pe_int (pa_c pe_int pa_nil)))) (pv 2) (fun _ _ => rfl))))) (pss_cons (ps_set (i := 4) sc_law.nd rfl (Or.inl rfl) (pe_op op_mod (pe_op op_add (pe_op op_mul (pe_cB (call_sum_intK K rfl) (by rfl) T.b_sum boot_sum (pa_c (pe_slice (sl_listNK K) (pv 0) (po_some pe_int) po_none) pa_nil)) pe_int) (pe_op op_fdiv (pv 1) pe_int)) pe_int)) (pss_cons (ps_set (i := 5) sc_law.nd rfl (Or.inl rfl) (pe_callC C_law_machine hr (by omega) (by rfl) (pa_c (pv 4) (pa_c (pv 3) (pa_c (pv 2) pa_nil))))) (pss_cut (ps_if (pt_cmpR op_eq (pe_op op_mod (pe_op op_fdiv (pv 1) pe_int) pe_int) pe_int (nomark _)) (pss_one (ps_set (i := 5) sc_law.nd rfl (Or.inl rfl) (pe_tupN (pa_c (pv 2) (pa_c (pe_ix (ix_tupK K) (pv 5) pe_int (fun _ _ => rfl)) (pa_c (pe_cTy call_tuple_ofN (by rfl) T.b_tuple boot_tuple (pa_c (pe_lcomp ["_law_end"] [(1, "_law_number")] (CompOk.of rfl (by rfl) (by rfl)) (by rfl) (pi_tupK K (pe_ix (ix_tupK K) (pv 5) pe_int (fun _ _ => rfl))) (fun _ _ _ _ _ => (pg_name (i := 0) (show List.Nodup (["_law_end", "_law_number"] : List Str) by decide +kernel) (by rfl) (Or.inl (by rfl)))) (fun _ _ _ _ _ => pf_nil) (fun _ _ _ _ _ => (pe_cmpR op_eq (pe_op op_mod (pe_op op_fdiv (pv 1) pe_int) pe_int) pe_int (nomark _)))) pa_nil)) pa_nil)))))) pss_nil) (pss_cons (ps_set (i := 6) sc_law.nd rfl (Or.inl rfl) (pe_callC C_tree_reduced hr (by omega) (by rfl) (pa_c (pv 5) pa_nil))) (pss_cons (ps_if (PW.pt (pw_or (pt_not (pt_val (pe_callC C_law_alone hr (by omega) (by rfl) (pa_c (pv 6) pa_nil)))) (pw_or1 (pt_cmpR (op_neIK K hu) (pe_callC C_law_coming hr (by omega) (by rfl) (pa_c (pv 6) pa_nil)) (pe_cTy (call_list_rng rfl) (by rfl) T.b_list boot_list (pa_c (pe_cTy call_range1V (by rfl) T.b_range boot_range (pa_c (pe_cB (call_len_seqK K) (by rfl) T.b_len boot_len (pa_c (pe_ix (ix_tupK K) (pv 6) pe_int (fun _ _ => rfl)) pa_nil)) pa_nil)) pa_nil)) (nomark _))))) (pss_one (ps_ret pe_bl)) pss_nil) (pss_cons (ps_for PassesOwn.never rfl (pi_range1 (by rfl) T.b_range (pa_c pe_int pa_nil)) (pg_name (i := 7) sc_law.nd (by rfl) (Or.inl (by rfl))) (pss_cons (ps_set (i := 8) sc_law.nd rfl (Or.inl rfl) (pe_op op_mod (pe_callC C_law_cell_at hr (by omega) (by rfl) (pa_c (pv 0) (pa_c (pe_op op_add pe_int (pv 7)) pa_nil))) (pe_op op_pow pe_int pe_int))) (pss_one (ps_if (pt_cmpR (op_neM hu) (pe_callC C_tree_reduced hr (by omega) (by rfl) (pa_c (pe_callC C_law_twice hr (by omega) (by rfl) (pa_c (pv 5) (pa_c (pe_op op_add (pe_op op_mod (pv 8) pe_int) (pv 7)) (pa_c (pe_op op_mod (pe_op op_fdiv (pv 8) pe_int) pe_int) pa_nil)))) pa_nil)) (pv 6) (nomark _)) (pss_one (ps_ret pe_bl)) pss_nil)))) (pss_one (ps_ret pe_bl))))))))))), ?_⟩
  refine rd_st [some (.ref a), none, none, none, none, none, none, none, none] rfl ?_
  simp only [exists_eq', rEqI, rNeI, rInDc, rLenD, rLenT, rMaxL, rIndex, rCatTN, rCatTE, tDNewN, tDNewTN, rNeM, rRange2, rListRng, rRepN, rPopAt, rSetL, gSub, ipI, tDGet, sDPut, tLam, tCallA, tCallV, tDef, ipCatT, rRange1, rIndexD, rInD, rIxD, rLen, rAll, rSum, rListOf, rSlTN, tTupN, tLstN, rSlLN, rCatN, cxK, cxP, cxW, tSeq, tIfS, tTest, tB, tOp, tUn, tC, tAnd, tOr, tNot, tAndV, tOrV, tNotV, tIf, tNext, tBreak, tCont, tDrop, tRet, tRetN, gName, gNil, gCons, gTup, tAsg, tPar, tAug, rI, rI0, rU, rEq, rNe, tChain, tNil, tCons, tTup, tLst, tCall, tCB, tNoPart, tPart, tSl, rSlT, rSlL, rIxL, rIxT, rIn, tBM, tyV, rAppend, rExtend, rCat, rEqD, iList, iTup, iRng1, iRng2, tYes, tDisp, tPairs, rd_v0, rd_vS, rd_comp, rd_for, rd_ite_t, rd_ite_f, List.set_cons_zero, List.set_cons_succ, List.nil_append, List.cons_append, List.append_nil, V.int.injEq, V.bl.injEq, V.ref.injEq, V.ty.injEq, List.cons.injEq, and_true, true_and, exists_eq_left, exists_eq_left', exists_and_left, exists_eq, exists_const, if_true, if_false, ite_true, ite_false, rd_ii, rd_bb, Option.some.injEq, exists_eq_right, exists_eq_right', and_assoc, reduceCtorEq, false_and, and_false, false_or, or_false, exists_false]
  refine ⟨a, ns, 0, rfl, hS, by decide, fun c => ⟨⟨by decide, by decide, by decide⟩, _, rfl, by decide, by decide, ?_⟩⟩
  have hh := Int.emod_nonneg c (show (10 : Int) ^ Int.toNat 20 ≠ 0 by decide)
  generalize c % (10 : Int) ^ Int.toNat 20 = hd at hh
  have w0 := Int.emod_nonneg hd (show (3 : Int) ≠ 0 by decide)
  have w1 := Int.emod_lt_of_pos hd (show (0 : Int) < 3 by decide)
  obtain ⟨wd, ewd⟩ : ∃ wd : Nat, hd % 3 = (wd : Int) := ⟨(hd % 3).toNat, by omega⟩
  rw [ewd]
  have hw2 : wd ≤ 2 := by omega
  obtain ⟨k, hat, hk⟩ : ∃ k : Nat, atI [V.int 7, V.int 7, V.int 5] ((wd : Nat) : Int) = some (nV k) ∧ (k = 7 ∨ k = 5) := by
    have : wd = 0 ∨ wd = 1 ∨ wd = 2 := by omega
    rcases this with rfl | rfl | rfl
    · exact ⟨7, atI_nat rfl, .inl rfl⟩
    · exact ⟨7, atI_nat rfl, .inl rfl⟩
    · exact ⟨5, atI_nat rfl, .inr rfl⟩
  refine ⟨a, ns, 1, rfl, hS, by decide, fun c1 => ⟨small_line (by simp), fun pl H1 m1 => ⟨_, .of m1.at', _, hat, c1, rfl, _, rfl, by omega, ?_⟩⟩⟩
  have r0 := Int.emod_nonneg c1 (show ((k : Nat) : Int) ≠ 0 by omega)
  have r1 := Int.emod_lt_of_pos c1 (show (0 : Int) < ((k : Nat) : Int) by omega)
  obtain ⟨n, en⟩ : ∃ n : Nat, 1 + c1 % ((k : Nat) : Int) = (n : Int) := ⟨(1 + c1 % ((k : Nat) : Int)).toNat, by omega⟩
  rw [en]
  refine ⟨_, m1.g.seq hS, fun pc H2 n2 => ?_⟩
  rw [cutL_map] at n2
  refine ⟨_, .of n2.at', .inr ⟨by decide, by decide⟩, ⟨by decide, by decide⟩, by decide, _, n, wd, rfl, by omega, by omega, by omega, fun pm m H3 g3 rm ok ew eN => ?_⟩
  have g03 : Same H H3 := m1.g.trans (n2.g.trans g3)
  generalize ((cutL ns (some 2) none).sum * 69621 + hd / 3) % 2147483629 = sd
  refine ⟨fun σ H' => Same H H' ∧ ∃ (p : Addr) (m' : SM.Tm), σ = [some (.ref a), some (.int hd), some (nV wd), some (nV n), some (.int sd), some (.ref p), none, none, none] ∧ RepT H' p m' ∧ m'.Ok ∧ m'.n = n, ?_, ?_⟩
  · simp only [exists_eq', rEqI, rNeI, rInDc, rLenD, rLenT, rMaxL, rIndex, rCatTN, rCatTE, tDNewN, tDNewTN, rNeM, rRange2, rListRng, rRepN, rPopAt, rSetL, gSub, ipI, tDGet, sDPut, tLam, tCallA, tCallV, tDef, ipCatT, rRange1, rIndexD, rInD, rIxD, rLen, rAll, rSum, rListOf, rSlTN, tTupN, tLstN, rSlLN, rCatN, cxK, cxP, cxW, tSeq, tIfS, tTest, tB, tOp, tUn, tC, tAnd, tOr, tNot, tAndV, tOrV, tNotV, tIf, tNext, tBreak, tCont, tDrop, tRet, tRetN, gName, gNil, gCons, gTup, tAsg, tPar, tAug, rI, rI0, rU, rEq, rNe, tChain, tNil, tCons, tTup, tLst, tCall, tCB, tNoPart, tPart, tSl, rSlT, rSlL, rIxL, rIxT, rIn, tBM, tyV, rAppend, rExtend, rCat, rEqD, iList, iTup, iRng1, iRng2, tYes, tDisp, tPairs, rd_v0, rd_vS, rd_comp, rd_for, rd_ite_t, rd_ite_f, List.set_cons_zero, List.set_cons_succ, List.nil_append, List.cons_append, List.append_nil, V.int.injEq, V.bl.injEq, V.ref.injEq, V.ty.injEq, List.cons.injEq, and_true, true_and, exists_eq_left, exists_eq_left', exists_and_left, exists_eq, exists_const, if_true, if_false, ite_true, ite_false, rd_ii, rd_bb, Option.some.injEq, exists_eq_right, exists_eq_right', and_assoc, reduceCtorEq, false_and, and_false, false_or, or_false, exists_false]
    refine ⟨⟨by decide, by decide⟩, by decide, ite2 (fun _ => ?_) fun _ => ?_⟩
    · obtain ⟨b1, c1', ts1, ea1, eb1, pr1, ec1⟩ := rm
      have hf : m.ends.length ≤ 30 := ok.few
      refine ⟨_, .of ea1, _, atI_nat (j := 1) rfl, _, .of ea1, _, atI_nat (j := 2) rfl, c1', rfl, ⟨_, .of ec1⟩, cm_tup (K := K) (a := c1') (xs := m.ends.map V.bl) (fun σ => ∃ v, σ = [v, some (.int hd)]) (fun _ => .bl (decide (hd / 12 % 2 = 0))) (by rw [List.length_map]; omega) (.of ec1) ⟨_, rfl⟩ ?_ ?_⟩
      · rintro D i σ H' x hi hm hx g hD hD' ⟨v, rfl⟩
        simp only [exists_eq', rEqI, rNeI, rInDc, rLenD, rLenT, rMaxL, rIndex, rCatTN, rCatTE, tDNewN, tDNewTN, rNeM, rRange2, rListRng, rRepN, rPopAt, rSetL, gSub, ipI, tDGet, sDPut, tLam, tCallA, tCallV, tDef, ipCatT, rRange1, rIndexD, rInD, rIxD, rLen, rAll, rSum, rListOf, rSlTN, tTupN, tLstN, rSlLN, rCatN, cxK, cxP, cxW, tSeq, tIfS, tTest, tB, tOp, tUn, tC, tAnd, tOr, tNot, tAndV, tOrV, tNotV, tIf, tNext, tBreak, tCont, tDrop, tRet, tRetN, gName, gNil, gCons, gTup, tAsg, tPar, tAug, rI, rI0, rU, rEq, rNe, tChain, tNil, tCons, tTup, tLst, tCall, tCB, tNoPart, tPart, tSl, rSlT, rSlL, rIxL, rIxT, rIn, tBM, tyV, rAppend, rExtend, rCat, rEqD, iList, iTup, iRng1, iRng2, tYes, tDisp, tPairs, rd_v0, rd_vS, rd_comp, rd_for, rd_ite_t, rd_ite_f, List.set_cons_zero, List.set_cons_succ, List.nil_append, List.cons_append, List.append_nil, V.int.injEq, V.bl.injEq, V.ref.injEq, V.ty.injEq, List.cons.injEq, and_true, true_and, exists_eq_left, exists_eq_left', exists_and_left, exists_eq, exists_const, if_true, if_false, ite_true, ite_false, rd_ii, rd_bb, Option.some.injEq, exists_eq_right, exists_eq_right', and_assoc, reduceCtorEq, false_and, and_false, false_or, or_false, exists_false]
        exact ⟨⟨by decide, by decide⟩, by decide, cm_step (by rw [List.length_map]; omega) hx hD hD' g ⟨_, rfl⟩ rfl⟩
      intro D H5 hD g5 e5
      have e5' : H5 D = some (.lst ((m.ends.map fun _ => decide (hd / 12 % 2 = 0)).map V.bl)) := by rw [e5, List.map_map, List.map_map]; rfl
      refine ⟨D, rfl, _, .inl ⟨.of e5', fun pt H6 n6 => ⟨small_line (by simp), fun pp H7 n7 => ?_⟩⟩⟩
      have g37 : Same H3 H7 := g5.trans (n6.g.trans n7.g)
      have hl : (m.ends.map fun _ => decide (hd / 12 % 2 = 0)).length = m.ends.length := List.length_map _
      refine ⟨g03.trans g37, ⟨m.w, m.ways, m.ends.map fun _ => decide (hd / 12 % 2 = 0)⟩, ⟨b1, pt, ts1, by rw [n7.at', ew], g37 _ _ eb1, L2.Paired.mapP pr1 fun _ _ z => z.ts g37.tups, n7.g _ _ n6.at'⟩, ?_, hl.trans eN⟩
      exact ⟨ok.wid, by show 0 < (m.ends.map _).length; rw [hl]; exact ok.pos, by show (m.ends.map _).length ≤ 30; rw [hl]; exact ok.few, ok.len, fun t ht => by show _ = (m.ends.map _).length; rw [hl]; exact ok.tab t ht, fun t ht r hr => by show _ = (m.ends.map _).length; rw [hl]; exact ok.line t ht r hr, fun t ht r hr x hx => by show _ < (m.ends.map _).length; rw [hl]; exact ok.room t ht r hr x hx⟩
    · exact ⟨g03, m, rm, ok, eN⟩
  · rintro σ H' ⟨g, p, m', rfl, rp, ok', en'⟩
    simp only [exists_eq', rEqI, rNeI, rInDc, rLenD, rLenT, rMaxL, rIndex, rCatTN, rCatTE, tDNewN, tDNewTN, rNeM, rRange2, rListRng, rRepN, rPopAt, rSetL, gSub, ipI, tDGet, sDPut, tLam, tCallA, tCallV, tDef, ipCatT, rRange1, rIndexD, rInD, rIxD, rLen, rAll, rSum, rListOf, rSlTN, tTupN, tLstN, rSlLN, rCatN, cxK, cxP, cxW, tSeq, tIfS, tTest, tB, tOp, tUn, tC, tAnd, tOr, tNot, tAndV, tOrV, tNotV, tIf, tNext, tBreak, tCont, tDrop, tRet, tRetN, gName, gNil, gCons, gTup, tAsg, tPar, tAug, rI, rI0, rU, rEq, rNe, tChain, tNil, tCons, tTup, tLst, tCall, tCB, tNoPart, tPart, tSl, rSlT, rSlL, rIxL, rIxT, rIn, tBM, tyV, rAppend, rExtend, rCat, rEqD, iList, iTup, iRng1, iRng2, tYes, tDisp, tPairs, rd_v0, rd_vS, rd_comp, rd_for, rd_ite_t, rd_ite_f, List.set_cons_zero, List.set_cons_succ, List.nil_append, List.cons_append, List.append_nil, V.int.injEq, V.bl.injEq, V.ref.injEq, V.ty.injEq, List.cons.injEq, and_true, true_and, exists_eq_left, exists_eq_left', exists_and_left, exists_eq, exists_const, if_true, if_false, ite_true, ite_false, rd_ii, rd_bb, Option.some.injEq, exists_eq_right, exists_eq_right', and_assoc, reduceCtorEq, false_and, and_false, false_or, or_false, exists_false]
    refine ⟨p, m', rfl, tl.same g, tr.same g, rp, ok', fun p2 m2 H4 g4 r4 Rd => ?_⟩
    refine ⟨p2, m2, rfl, r4, Rd.can.ok, Rd.can.min, fun H5 g5 => ⟨_, rfl, iteF ?_⟩⟩
    refine ⟨p2, m2, rfl, r4.same g5, Rd.can.ok, fun D fs H6 hD g6 eD Fd => ?_⟩
    have efs : fs = List.range m2.ends.length := coming_range Rd.can Fd
    subst efs
    have r6 := r4.same (g5.trans g6)
    obtain ⟨b2, c2, ts2, ea2, eb2, pr2, ec2⟩ := id r6
    have h30 : m2.ends.length ≤ 30 := Rd.can.ok.few
    refine ⟨p2, rfl, _, .of ea2, _, atI_nat (j := 2) rfl, c2, rfl, _, .inr (.of ec2), fun pr7 H7 n7 => ⟨_, _, n7.at', by omega, by omega, by rw [List.length_map]; omega, fun l H8 n8 => ?_⟩⟩
    have eI : ∀ xs : List Nat, xs.map nV = (xs.map fun (k : Nat) => (k : Int)).map V.int := fun xs => by rw [List.map_map]; rfl
    have el8 : H8 l = some (.lst (((List.range m2.ends.length).map fun (k : Nat) => (k : Int)).map V.int)) := by
      rw [n8.at', List.length_map, show (((m2.ends.length : Nat) : Int) - 0).toNat = m2.ends.length by omega, List.map_map]
      refine congrArg (fun z => some (HO.lst z)) (List.map_congr_left fun k _ => ?_)
      show V.int _ = V.int _
      rw [Int.zero_add]
    have g68 := n7.g.trans n8.g
    refine ⟨D, rfl, _, .of (by rw [g68 _ _ eD, eI]), _, .of el8, ?_⟩
    rw [show (!decide ((List.range m2.ends.length).map (fun (k : Nat) => (k : Int)) = (List.range m2.ends.length).map (fun (k : Nat) => (k : Int)))) = false by simp]
    refine iteF ⟨by decide, by decide, ?_⟩
    have g48 := g5.trans (g6.trans g68)
    refine fb_range (fun i σ H' => Same H8 H' ∧ ∃ v7 v8, σ = [some (.ref a), some (.int hd), some (nV wd), some (nV n), some (.int sd), some (.ref p), some (.ref p2), v7, v8]) ⟨Same.refl _, _, _, rfl⟩ ?_ ?_
    · rintro i σ H9 hi ⟨g9, v7, v8, rfl⟩
      have hi3 : i < 3 := hi
      have g49 := g48.trans g9
      have g09 := g.trans (g4.trans g49)
      simp only [exists_eq', rEqI, rNeI, rInDc, rLenD, rLenT, rMaxL, rIndex, rCatTN, rCatTE, tDNewN, tDNewTN, rNeM, rRange2, rListRng, rRepN, rPopAt, rSetL, gSub, ipI, tDGet, sDPut, tLam, tCallA, tCallV, tDef, ipCatT, rRange1, rIndexD, rInD, rIxD, rLen, rAll, rSum, rListOf, rSlTN, tTupN, tLstN, rSlLN, rCatN, cxK, cxP, cxW, tSeq, tIfS, tTest, tB, tOp, tUn, tC, tAnd, tOr, tNot, tAndV, tOrV, tNotV, tIf, tNext, tBreak, tCont, tDrop, tRet, tRetN, gName, gNil, gCons, gTup, tAsg, tPar, tAug, rI, rI0, rU, rEq, rNe, tChain, tNil, tCons, tTup, tLst, tCall, tCB, tNoPart, tPart, tSl, rSlT, rSlL, rIxL, rIxT, rIn, tBM, tyV, rAppend, rExtend, rCat, rEqD, iList, iTup, iRng1, iRng2, tYes, tDisp, tPairs, rd_v0, rd_vS, rd_comp, rd_for, rd_ite_t, rd_ite_f, List.set_cons_zero, List.set_cons_succ, List.nil_append, List.cons_append, List.append_nil, V.int.injEq, V.bl.injEq, V.ref.injEq, V.ty.injEq, List.cons.injEq, and_true, true_and, exists_eq_left, exists_eq_left', exists_and_left, exists_eq, exists_const, if_true, if_false, ite_true, ite_false, rd_ii, rd_bb, Option.some.injEq, exists_eq_right, exists_eq_right', and_assoc, reduceCtorEq, false_and, and_false, false_or, or_false, exists_false]
      refine ⟨a, ns, 2 + (i : Int), by rw [Int.zero_add], g09.seq hS, by omega, fun c3 => ?_⟩
      refine ⟨⟨by decide, by decide, by decide⟩, c3, rfl, by decide, by decide, ⟨by decide, by decide⟩, by decide, ?_⟩
      generalize c3 % 10 ^ Int.toNat 20 = cl
      have b0 := Int.emod_nonneg (cl / 7) (show (2 : Int) ≠ 0 by decide)
      have b1 := Int.emod_lt_of_pos (cl / 7) (show (0 : Int) < 2 by decide)
      generalize cl / 7 % 2 = bt at b0 b1
      obtain ⟨mo, rfl⟩ : ∃ mo : Nat, bt = (mo : Int) := ⟨bt.toNat, by omega⟩
      have rp9 := rp.same (g4.trans g49)
      refine ⟨p, m', _, mo, rfl, rp9, ok', by omega, by omega, fun pt o R Ht gt ro oo hB => ?_⟩
      have g0t := g09.trans gt
      refine ⟨pt, o, rfl, tl.same g0t, tr.same g0t, ro, oo, fun p3 m3 Hu gu r3 Rd3 => ?_⟩
      have e3 : m2 = m3 := tred_same Rd Rd3 hB
      rw [← e3] at r3
      exact ⟨false, ne_tm r3 (r4.same (g49.trans (gt.trans gu))), iteF (g9.trans (gt.trans gu))⟩
    · rintro σ H9 ⟨g9, v7, v8, rfl⟩
      simp only [exists_eq', rEqI, rNeI, rInDc, rLenD, rLenT, rMaxL, rIndex, rCatTN, rCatTE, tDNewN, tDNewTN, rNeM, rRange2, rListRng, rRepN, rPopAt, rSetL, gSub, ipI, tDGet, sDPut, tLam, tCallA, tCallV, tDef, ipCatT, rRange1, rIndexD, rInD, rIxD, rLen, rAll, rSum, rListOf, rSlTN, tTupN, tLstN, rSlLN, rCatN, cxK, cxP, cxW, tSeq, tIfS, tTest, tB, tOp, tUn, tC, tAnd, tOr, tNot, tAndV, tOrV, tNotV, tIf, tNext, tBreak, tCont, tDrop, tRet, tRetN, gName, gNil, gCons, gTup, tAsg, tPar, tAug, rI, rI0, rU, rEq, rNe, tChain, tNil, tCons, tTup, tLst, tCall, tCB, tNoPart, tPart, tSl, rSlT, rSlL, rIxL, rIxT, rIn, tBM, tyV, rAppend, rExtend, rCat, rEqD, iList, iTup, iRng1, iRng2, tYes, tDisp, tPairs, rd_v0, rd_vS, rd_comp, rd_for, rd_ite_t, rd_ite_f, List.set_cons_zero, List.set_cons_succ, List.nil_append, List.cons_append, List.append_nil, V.int.injEq, V.bl.injEq, V.ref.injEq, V.ty.injEq, List.cons.injEq, and_true, true_and, exists_eq_left, exists_eq_left', exists_and_left, exists_eq, exists_const, if_true, if_false, ite_true, ite_false, rd_ii, rd_bb, Option.some.injEq, exists_eq_right, exists_eq_right', and_assoc, reduceCtorEq, false_and, and_false, false_or, or_false, exists_false]
      exact q H9
end
end K46

set_option Elab.async false
set_option linter.all false
set_option maxRecDepth 100000
namespace K46
open PySem PySem.Spec PyProof.Rows L2 SS SM
section
variable {P : Program} {w : World} {K : PySem.W.Frag} {mg : Str → Option Value} {base : Heap} {f : Addr} {fd : FuncData}
theorem all (T : Txt mg) (d_renamed : Dfn K mg "renamed" s_renamed ["rooms", "numbers"]) (d_numbered : Dfn K mg "numbered" s_numbered ["marks"]) (d_sorts_by : Dfn K mg "sorts_by" s_sorts_by ["ends", "part_further"]) (d_pairs_up_to : Dfn K mg "pairs_up_to" s_pairs_up_to ["most"]) (d_ways_of : Dfn K mg "ways_of" s_ways_of ["comings", "count", "letter"]) (d_tree_explored : Dfn K mg "tree_explored" s_tree_explored ["tracks", "comings", "first", "is_end", "most"]) (d_tree_mark : Dfn K mg "tree_mark" s_tree_mark ["machine", "room", "sorts"]) (d_tree_finer_sorts : Dfn K mg "tree_finer_sorts" s_tree_finer_sorts ["machine", "sorts"]) {c_tree_least t_tree_least : Addr} (d_tree_least : DfnC K mg "tree_least" s_tree_least ["machine"] c_tree_least t_tree_least) {c_tree_reduced t_tree_reduced : Addr} (d_tree_reduced : DfnC K mg "tree_reduced" s_tree_reduced ["machine"] c_tree_reduced t_tree_reduced) (d_law_cell_at : Dfn K mg "_law_cell_at" s_law_cell_at ["_law_script", "_law_k"]) (d_law_machine : Dfn K mg "_law_machine" s_law_machine ["_law_number", "_law_rooms", "_law_width"]) (d_law_coming : Dfn K mg "_law_coming" s_law_coming ["_law_machine_here"]) (d_law_alone : Dfn K mg "_law_alone" s_law_alone ["_law_machine_here"]) (d_law_order : Dfn K mg "_law_order" s_law_order ["_law_rooms", "_law_number"]) (d_law_twice : Dfn K mg "_law_twice" s_law_twice ["_law_machine_here", "_law_number", "_law_more"]) (n1 : t_tree_reduced ≠ t_tree_least) (kb : BltK base mg) (F : Fun K "law" "law" s_law f fd) : FnOk P w K mg base CX0 8 f fd ["_law_script"] (sp_law K [(t_tree_least, qs_tree_least), (t_tree_reduced, qs_tree_reduced)]) := by
  have c1 := ok_numbered (P := P) (w := w) (base := base) T d_numbered
  have c2 := ok_sortsbyT T d_sorts_by c1
  have c3 := ok_renAll (P := P) (w := w) (base := base) T d_renamed
  have c4 := ok_pairsup (P := P) (w := w) (base := base) T d_pairs_up_to
  have c5 := ok_tmark T d_tree_mark c3
  have c6 := ok_tfiner T d_tree_finer_sorts c5 c1
  have c7 := ok_tleast T d_tree_least kb c6 c2 c3
  have c8 := ok_waysof (P := P) (w := w) (base := base) T d_ways_of
  have c9 := ok_texpl T d_tree_explored c4 c3 c8
  have c10 := ok_tred T d_tree_reduced kb c9 c7
  have l1 := ok_cell (P := P) (w := w) (base := base) T d_law_cell_at
  have l2 := ok_machT (P := P) (w := w) (base := base) T d_law_machine
  have l3 := ok_comingL (P := P) (w := w) (base := base) T d_law_coming
  have l4 := ok_alone (P := P) (w := w) (base := base) T d_law_alone
  have l5 := ok_order (P := P) (w := w) (base := base) T d_law_order
  have l6 := ok_twice T d_law_twice l5
  exact ok_law T n1 F l1 l2 l4 l3 l6 c10
end
end K46
open PySem PySem.W PyProof.Rows
set_option maxRecDepth 100000 in
set_option maxHeartbeats 0 in
theorem PySem.Challenge.cw_setsays_k46_tree_reduced_is_least_and_on_holds : PySem.Challenge.rw_setsays_k46_tree_reduced_is_least_and_on.Holds := by
  w_on; o_law; k_head; (case hw => w_witness2)
  k_fill
  refine L2.walk_ofT (l := PySem.Challenge.rw_setsays_k46_tree_reduced_is_least_and_on) (n := 63) (k := 8) (x := "_law_script") (CX := L2.CX0) (sp := K46.sp_law) rfl (by decide) rfl ⟨rfl, by decide, by decide⟩ (fun w h Y => PySem.W.km_in_of Y) ?F (fun _ _ _ a ns hl hO hS => ⟨a, ns, rfl, hS, hl, hO, fun _ => rfl⟩) fun _ _ _ _ z => z
  case F =>
    intro w mg fa h KX G hmg
    have T : K46.Txt mg := by
      refine' ⟨PySem.W.mg_none_of KX G ?t0, PySem.W.mg_none_of KX G ?t1, PySem.W.mg_none_of KX G ?t2, PySem.W.mg_none_of KX G ?t3, PySem.W.mg_none_of KX G ?t4, PySem.W.mg_none_of KX G ?t5, PySem.W.mg_none_of KX G ?t6, PySem.W.mg_none_of KX G ?t7, PySem.W.mg_none_of KX G ?t8, PySem.W.mg_none_of KX G ?t9⟩
      (case t0 => k_is)
      (case t1 => k_is)
      (case t2 => k_is)
      (case t3 => k_is)
      (case t4 => k_is)
      (case t5 => k_is)
      (case t6 => k_is)
      (case t7 => k_is)
      (case t8 => k_is)
      (case t9 => k_is)
    obtain ⟨c_tree_least, t_tree_least, c_tree_reduced, t_tree_reduced, d_tree_least, d_tree_reduced, n_tree_least, n_tree_reduced, ne_tree_reduced_tree_least⟩ : ∃ c_tree_least t_tree_least c_tree_reduced t_tree_reduced, L2.DfnC (L2.KOf KX) mg "tree_least" K46.s_tree_least ["machine"] c_tree_least t_tree_least ∧ L2.DfnC (L2.KOf KX) mg "tree_reduced" K46.s_tree_reduced ["machine"] c_tree_reduced t_tree_reduced ∧ (L2.KOf KX).lookup t_tree_least = none ∧ (L2.KOf KX).lookup t_tree_reduced = none ∧ t_tree_reduced ≠ t_tree_least := by
      dsimp only [L2.KOf]
      refine' ⟨_, _, _, _, L2.dfnc_mk KX G ?a0 ?l0 ?c0 ?k0 (L2.kcode_mk ?m0 ?x0 ?y0 ?z0 ?u0 ?v0 ?w0) (fun _ _ _ _ _ _ us hl => match us, hl with | [_], _ => rfl), L2.dfnc_mk KX G ?a1 ?l1 ?c1 ?k1 (L2.kcode_mk ?m1 ?x1 ?y1 ?z1 ?u1 ?v1 ?w1) (fun _ _ _ _ _ _ us hl => match us, hl with | [_], _ => rfl), ?n0, ?n1, ?e0⟩
      (case a0 => k_is); (case l0 => k_is); (case c0 => k_is); (case k0 => k_is); (case m0 => k_is); (case x0 => rfl); (case y0 => rfl); (case z0 => rfl); (case u0 => rfl); (case v0 => rfl); (case w0 => decide)
      (case a1 => k_is); (case l1 => k_is); (case c1 => k_is); (case k1 => k_is); (case m1 => k_is); (case x1 => rfl); (case y1 => rfl); (case z1 => rfl); (case u1 => rfl); (case v1 => rfl); (case w1 => decide)
      (case n0 => first | k_is | kernel_rfl)
      (case n1 => first | k_is | kernel_rfl)
      (case e0 => decide)
    have d_renamed : L2.Dfn (L2.KOf KX) mg "renamed" K46.s_renamed ["rooms", "numbers"] := by
      dsimp only [L2.KOf]
      refine' L2.dfn_mk KX G ?a ?l ?c ?k (fun _ _ _ _ _ _ us hl => match us, hl with | [_, _], _ => rfl)
      (case a => k_is); (case l => k_is); (case c => k_is); (case k => k_is)
    have d_numbered : L2.Dfn (L2.KOf KX) mg "numbered" K46.s_numbered ["marks"] := by
      dsimp only [L2.KOf]
      refine' L2.dfn_mk KX G ?a ?l ?c ?k (fun _ _ _ _ _ _ us hl => match us, hl with | [_], _ => rfl)
      (case a => k_is); (case l => k_is); (case c => k_is); (case k => k_is)
    have d_sorts_by : L2.Dfn (L2.KOf KX) mg "sorts_by" K46.s_sorts_by ["ends", "part_further"] := by
      dsimp only [L2.KOf]
      refine' L2.dfn_mk KX G ?a ?l ?c ?k (fun _ _ _ _ _ _ us hl => match us, hl with | [_, _], _ => rfl)
      (case a => k_is); (case l => k_is); (case c => k_is); (case k => k_is)
    have d_pairs_up_to : L2.Dfn (L2.KOf KX) mg "pairs_up_to" K46.s_pairs_up_to ["most"] := by
      dsimp only [L2.KOf]
      refine' L2.dfn_mk KX G ?a ?l ?c ?k (fun _ _ _ _ _ _ us hl => match us, hl with | [_], _ => rfl)
      (case a => k_is); (case l => k_is); (case c => k_is); (case k => k_is)
    have d_ways_of : L2.Dfn (L2.KOf KX) mg "ways_of" K46.s_ways_of ["comings", "count", "letter"] := by
      dsimp only [L2.KOf]
      refine' L2.dfn_mk KX G ?a ?l ?c ?k (fun _ _ _ _ _ _ us hl => match us, hl with | [_, _, _], _ => rfl)
      (case a => k_is); (case l => k_is); (case c => k_is); (case k => k_is)
    have d_tree_explored : L2.Dfn (L2.KOf KX) mg "tree_explored" K46.s_tree_explored ["tracks", "comings", "first", "is_end", "most"] := by
      dsimp only [L2.KOf]
      refine' L2.dfn_mk KX G ?a ?l ?c ?k (fun _ _ _ _ _ _ us hl => match us, hl with | [_, _, _, _, _], _ => rfl)
      (case a => k_is); (case l => k_is); (case c => k_is); (case k => k_is)
    have d_tree_mark : L2.Dfn (L2.KOf KX) mg "tree_mark" K46.s_tree_mark ["machine", "room", "sorts"] := by
      dsimp only [L2.KOf]
      refine' L2.dfn_mk KX G ?a ?l ?c ?k (fun _ _ _ _ _ _ us hl => match us, hl with | [_, _, _], _ => rfl)
      (case a => k_is); (case l => k_is); (case c => k_is); (case k => k_is)
    have d_tree_finer_sorts : L2.Dfn (L2.KOf KX) mg "tree_finer_sorts" K46.s_tree_finer_sorts ["machine", "sorts"] := by
      dsimp only [L2.KOf]
      refine' L2.dfn_mk KX G ?a ?l ?c ?k (fun _ _ _ _ _ _ us hl => match us, hl with | [_, _], _ => rfl)
      (case a => k_is); (case l => k_is); (case c => k_is); (case k => k_is)
    have d_law_cell_at : L2.Dfn (L2.KOf KX) mg "_law_cell_at" K46.s_law_cell_at ["_law_script", "_law_k"] := by
      dsimp only [L2.KOf]
      refine' L2.dfn_mk KX G ?a ?l ?c ?k (fun _ _ _ _ _ _ us hl => match us, hl with | [_, _], _ => rfl)
      (case a => k_is); (case l => k_is); (case c => k_is); (case k => k_is)
    have d_law_machine : L2.Dfn (L2.KOf KX) mg "_law_machine" K46.s_law_machine ["_law_number", "_law_rooms", "_law_width"] := by
      dsimp only [L2.KOf]
      refine' L2.dfn_mk KX G ?a ?l ?c ?k (fun _ _ _ _ _ _ us hl => match us, hl with | [_, _, _], _ => rfl)
      (case a => k_is); (case l => k_is); (case c => k_is); (case k => k_is)
    have d_law_coming : L2.Dfn (L2.KOf KX) mg "_law_coming" K46.s_law_coming ["_law_machine_here"] := by
      dsimp only [L2.KOf]
      refine' L2.dfn_mk KX G ?a ?l ?c ?k (fun _ _ _ _ _ _ us hl => match us, hl with | [_], _ => rfl)
      (case a => k_is); (case l => k_is); (case c => k_is); (case k => k_is)
    have d_law_alone : L2.Dfn (L2.KOf KX) mg "_law_alone" K46.s_law_alone ["_law_machine_here"] := by
      dsimp only [L2.KOf]
      refine' L2.dfn_mk KX G ?a ?l ?c ?k (fun _ _ _ _ _ _ us hl => match us, hl with | [_], _ => rfl)
      (case a => k_is); (case l => k_is); (case c => k_is); (case k => k_is)
    have d_law_order : L2.Dfn (L2.KOf KX) mg "_law_order" K46.s_law_order ["_law_rooms", "_law_number"] := by
      dsimp only [L2.KOf]
      refine' L2.dfn_mk KX G ?a ?l ?c ?k (fun _ _ _ _ _ _ us hl => match us, hl with | [_, _], _ => rfl)
      (case a => k_is); (case l => k_is); (case c => k_is); (case k => k_is)
    have d_law_twice : L2.Dfn (L2.KOf KX) mg "_law_twice" K46.s_law_twice ["_law_machine_here", "_law_number", "_law_more"] := by
      dsimp only [L2.KOf]
      refine' L2.dfn_mk KX G ?a ?l ?c ?k (fun _ _ _ _ _ _ us hl => match us, hl with | [_, _, _], _ => rfl)
      (case a => k_is); (case l => k_is); (case c => k_is); (case k => k_is)
    have L : ∃ fd : FuncData, (∀ (s : Shared) (v : Value), BindsTo s fd ⟨[v], []⟩ [("_law_script", v)]) ∧ L2.Fun (L2.KOf KX) "law" "law" K46.s_law fa fd := by
      dsimp only [L2.KOf]
      refine' L2.law_mk KX G hmg ?a ?l ?c ?k ?b
      (case a => k_is); (case l => k_is); (case c => k_is); (case k => k_is)
      exact fun s u => .of_eq rfl
    obtain ⟨fd, hb, F⟩ := L
    exact ⟨fd, [(t_tree_least, K46.qs_tree_least), (t_tree_reduced, K46.qs_tree_reduced)], hb, L2.ts_all (List.forall_mem_cons.mpr ⟨⟨d_tree_least.tab (by decide +kernel), n_tree_least⟩, (List.forall_mem_cons.mpr ⟨⟨d_tree_reduced.tab (by decide +kernel), n_tree_reduced⟩, fun _ z => nomatch z⟩)⟩), fun base _ _ kb => K46.all T d_renamed d_numbered d_sorts_by d_pairs_up_to d_ways_of d_tree_explored d_tree_mark d_tree_finer_sorts d_tree_least d_tree_reduced d_law_cell_at d_law_machine d_law_coming d_law_alone d_law_order d_law_twice ne_tree_reduced_tree_least kb F⟩
#print axioms PySem.Challenge.cw_setsays_k46_tree_reduced_is_least_and_on_holds


