import PyProof.Rows.All
import Wide.All
import OpenK.AllK
import Wide.FinOn
import Lean
import PyProof.EqAt
import PyProof.EqKinds
import PyProof.TupleCall
import PyProof.CodeObjX
import PyProof.NeKinds
import PyProof.ZipIter
import PyProof.EnumStmt
import PyProof.EnumMake
import KE.KDictOf
import PyProof.AttrMissHeap
import PyProof.Rows.SeqMore2
import PyProof.Rows.MinMaxN
import PyProof.DefMake
import PyProof.DefStmt
import PyProof.RaisesMany
import PyProof.ExcClass2
import PyProof.Rows.Own
import PyProof.Rows.CatchOwn
import PyProof.RulesDel
import KE.KIsAll
import PyProof.IsiH_list
import PyProof.ExcArgsOwn
import OpenK.KOwn
import PyProof.FString5
import PyProof.ListMulRoad
import PyProof.FactsAll.tuple_2
import PyProof.Rows.Range3
import PyProof.ExcBaseAll.ValueError
import PySem.Challenge.RW_setsays_k41_trees_fit
set_option Elab.async false
set_option linter.all false
set_option maxRecDepth 100000
/-! THE HAND LAYER, for ints, bools, texts, own classes, LISTS and tuples (index, slices, in, append, pop ..), calls, loops. Paste it whole ahead of your own text; what your proof does not reach may be deleted. -/
namespace L2
open PySem PySem.Spec PyProof.Rows

/-- a key: an int or a str -/
abbrev Key := Sum Int Str
/-- a truth as the number that it is -/
def blI (b : Bool) : Int := if b = true then 1 else 0
def isBl (k : Int) : Value → Bool
  | .bool b => k == blI b
  | _ => false
def keyIs : Key → Value → Bool
  | .inl k, v => Value.isInt k v || isBl k v
  | .inr x, v => Value.isStrOf x v
def keyH (w : World) : Key → Int
  | .inl k => hashInt k
  | .inr x => hashStr w x
theorem isBl_shape {k : Int} : ∀ {v : Value}, isBl k v = true → ∃ b, k = blI b ∧ v = Value.bool b := by
  intro v h
  cases v
  case bool b => exact ⟨b, eq_of_beq h, rfl⟩
  all_goals exact absurd h Bool.false_ne_true
theorem keyIs_shape : ∀ {k : Key} {v : Value}, keyIs k v = true → (∃ i t, k = Sum.inl i ∧ v = Value.int i t) ∨ (∃ x t, k = Sum.inr x ∧ v = Value.str x t) ∨ ∃ b, k = Sum.inl (blI b) ∧ v = Value.bool b
  | .inl i, v, h => by
    rcases (Bool.or_eq_true _ _).mp (show (Value.isInt i v || isBl i v) = true from h) with h | h
    · obtain ⟨t, e⟩ := Value.isInt_shape (k := i) (v := v) h
      exact .inl ⟨i, t, rfl, e⟩
    · obtain ⟨b, e, e'⟩ := isBl_shape h
      exact .inr (.inr ⟨b, by rw [e], e'⟩)
  | .inr x, v, h => by
    obtain ⟨t, e⟩ := Value.isStrOf_shape (x := x) (v := v) h
    exact .inr (.inl ⟨x, t, rfl, e⟩)
theorem keyIs_int (i : Int) (t : Tok) : keyIs (.inl i) (.int i t) = true := by simp [keyIs, Value.isInt]
theorem keyIs_bl (b : Bool) : keyIs (.inl (blI b)) (.bool b) = true := by simp [keyIs, isBl]
theorem hash_bl {prog : Program} {w : World} {A : Around} {E : Value → Shared → Prop} {s : Shared} {b : Bool} {Q : Int → Shared → Prop} (h : Q (hashInt (blI b)) { s with toks := s.toks + 1 }) : wpAny (model prog w) A (pyHash (.bool b)) Q E s := by
  have hT : s.TypeIs (.bool b) "bool" := rfl
  have hr := rawHash_range (blI b)
  unfold pyHash
  refine wpAny_bind ?_
  rw [cRoomFor, if_neg (show ¬ [Value.bool b].any Value.onHeap = true from Bool.false_ne_true)]
  refine wpAny_pure (wpAny_bind (wpAny_specialOf hT PySem.F.slot_bool_hash.lookup ?_))
  show wpAny _ _ (if (some (Value.builtin "int.__hash__") == some Value.none) = true then _ else _) Q E s
  rw [if_neg (show ¬ (some (Value.builtin "int.__hash__") == some Value.none) = true from Bool.false_ne_true)]
  refine wpAny_bind (wpAny_specialOf hT PySem.F.slot_bool_hash.lookup ?_)
  show wpAny _ _ (callSpecialIfBoundUnlessNone? (.bool b) "__hash__" _ >>= _) Q E s
  refine wpAny_bind (wpAny_callSpecialIfBoundUnlessNone?_slot hT PySem.F.slot_bool_hash (wpAny_call_entry PySem.F.slot_bool_hash hT PySem.F.entry_int_hash ?_ (PySem.F.args_int_hash_1 _)))
  refine (show wpAny _ _ (do ret (← mkInt (rawHash (blI b)))) _ _ s from wpAny_ret_mkInt ?_)
  show wpAny _ _ (if (decide (-(2 : Int) ^ 63 ≤ rawHash (blI b)) && decide (rawHash (blI b) < 2 ^ 63)) = true then _ else _) Q E _
  rw [if_pos (by rw [decide_eq_true hr.1, decide_eq_true hr.2]; rfl)]
  exact wpAny_pure h
theorem keyIs_str (x : Str) (t : Tok) : keyIs (.inr x) (.str x t) = true := by simp [keyIs, Value.isStrOf]
theorem key_ll (a b : Int) : decide ((Sum.inl a : Key) = Sum.inl b) = (a == b) := by
  by_cases e : a = b
  · subst e; simp
  · have h : ¬ (Sum.inl a : Key) = Sum.inl b := fun q => e (Sum.inl.inj q)
    rw [decide_eq_false h]
    exact (beq_eq_false_iff_ne.mpr e).symm
theorem key_rr (a b : Str) : decide ((Sum.inr a : Key) = Sum.inr b) = decide (a = b) := by
  by_cases e : a = b
  · subst e; simp
  · have h : ¬ (Sum.inr a : Key) = Sum.inr b := fun q => e (Sum.inr.inj q)
    rw [decide_eq_false h, decide_eq_false e]
theorem key_lr (a : Int) (b : Str) : decide ((Sum.inl a : Key) = Sum.inr b) = false := decide_eq_false (fun q => nomatch q)
theorem key_rl (a : Str) (b : Int) : decide ((Sum.inr a : Key) = Sum.inl b) = false := decide_eq_false (fun q => nomatch q)

def mixKind (prog : Program) (w : World) : PySem.KeyKind prog w Key where
  is := keyIs
  hash := keyH w
  inj := fun v a b ha hb => by
    rcases keyIs_shape ha with ⟨i, t, rfl, rfl⟩ | ⟨x, t, rfl, rfl⟩ | ⟨c, rfl, rfl⟩
    · rcases keyIs_shape hb with ⟨j, u, rfl, e⟩ | ⟨y, u, rfl, e⟩ | ⟨d, rfl, e⟩
      · injection e with e1 _; rw [e1]
      · exact nomatch e
      · exact nomatch e
    · rcases keyIs_shape hb with ⟨j, u, rfl, e⟩ | ⟨y, u, rfl, e⟩ | ⟨d, rfl, e⟩
      · exact nomatch e
      · injection e with e1 _; rw [e1]
      · exact nomatch e
    · rcases keyIs_shape hb with ⟨j, u, rfl, e⟩ | ⟨y, u, rfl, e⟩ | ⟨d, rfl, e⟩
      · exact nomatch e
      · exact nomatch e
      · injection e with e1; rw [e1]
  byValue := fun k v h => by
    rcases keyIs_shape h with ⟨i, t, rfl, rfl⟩ | ⟨x, t, rfl, rfl⟩ | ⟨c, rfl, rfl⟩ <;> rfl
  pyHash := fun hv h => by
    rcases keyIs_shape hv with ⟨i, t, rfl, rfl⟩ | ⟨x, t, rfl, rfl⟩ | ⟨c, rfl, rfl⟩
    · exact wpAny_pyHash_int h
    · exact wpAny_pyHash_str h
    · exact hash_bl h
  eqBool := fun hu hv h => by
    rcases keyIs_shape hu with ⟨i, t, rfl, rfl⟩ | ⟨x, t, rfl, rfl⟩ | ⟨c, rfl, rfl⟩
    · rcases keyIs_shape hv with ⟨j, u, rfl, rfl⟩ | ⟨y, u, rfl, rfl⟩ | ⟨d, rfl, rfl⟩
      · rw [key_ll] at h; exact wpAny_eqBool_int h
      · rw [key_lr] at h; exact SeqAt.EqAt.int_str i t y u _ _ _ _ h
      · rw [key_ll] at h; exact SeqAt.EqAt.int_bool i t d _ _ _ _ h
    · rcases keyIs_shape hv with ⟨j, u, rfl, rfl⟩ | ⟨y, u, rfl, rfl⟩ | ⟨d, rfl, rfl⟩
      · rw [key_rl] at h; exact SeqAt.EqAt.str_int x t j u _ _ _ _ h
      · rw [key_rr] at h; exact wpAny_eqBool_str h
      · rw [key_rl] at h; exact SeqAt.EqAt.str_bool x t d _ _ _ _ h
    · rcases keyIs_shape hv with ⟨j, u, rfl, rfl⟩ | ⟨y, u, rfl, rfl⟩ | ⟨d, rfl, rfl⟩
      · rw [key_ll] at h; exact SeqAt.EqAt.bool_int c j u _ _ _ _ h
      · rw [key_lr] at h; exact SeqAt.EqAt.bool_str c y u _ _ _ _ h
      · rw [key_ll, show (blI c == blI d) = (c == d) by cases c <;> cases d <;> rfl] at h
        exact SeqAt.EqAt.bool_bool c d _ _ _ _ h
  «strs» := fun k x t v h => by
    rcases keyIs_shape h with ⟨i, u, rfl, e⟩ | ⟨y, u, rfl, e⟩ | ⟨d, rfl, e⟩
    · exact nomatch e
    · injection e with e1 _
      subst e1
      cases v <;> rfl
    · exact nomatch e

theorem mixKind_int (prog : Program) (w : World) (i : Int) (t : Tok) : (mixKind prog w).is (.inl i) (.int i t) = true := keyIs_int i t
theorem mixKind_str (prog : Program) (w : World) (x : Str) (t : Tok) : (mixKind prog w).is (.inr x) (.str x t) = true := keyIs_str x t
end L2

namespace L2
open PySem PySem.Spec PyProof.Rows

/-- a value, without the heap -/
inductive V where
  | non | bl (b : Bool) | int (i : Int) | str (x : Str) | byt (b : Array UInt8) | flt (b : UInt64) | ref (a : Addr) | ty (n : String)
  deriving DecidableEq

def RelV : V → Value → Prop
  | .non, u => u = Value.none
  | .bl b, u => u = Value.bool b
  | .int i, u => ∃ t, u = Value.int i t
  | .str x, u => ∃ t, u = Value.str x t
  | .byt b, u => ∃ t, u = Value.bytes b t
  | .flt b, u => ∃ t, u = Value.float b t
  | .ref a, u => u = Value.ref a
  | .ty n, u => u = Value.type n

abbrev Vals : List V → List Value → Prop := Paired RelV
theorem Vals.length {xs : List V} {us : List Value} (r : Vals xs us) : xs.length = us.length := Paired.length r
theorem Vals.get : ∀ {xs : List V} {us : List Value} {i : Nat} {x : V}, Vals xs us → xs[i]? = some x → ∃ u, us[i]? = some u ∧ RelV x u
  | _, _, _, _, .nil, e => by simp at e
  | _, _, 0, _, .cons r _, e => by simp at e; subst e; exact ⟨_, rfl, r⟩
  | _, _, i + 1, x, .cons _ t, e => by
    obtain ⟨u, h1, h2⟩ := Vals.get (i := i) (x := x) t (by simpa using e)
    exact ⟨u, by simpa using h1, h2⟩
theorem Vals.set {x : V} {u : Value} (r : RelV x u) : ∀ {xs : List V} {us : List Value} (i : Nat), Vals xs us → Vals (xs.set i x) (us.set i u)
  | _, _, _, .nil => .nil
  | _, _, 0, .cons _ t => .cons r t
  | _, _, i + 1, .cons q t => .cons q (Vals.set r i t)
theorem Vals.append : ∀ {xs ys : List V} {us ws : List Value}, Vals xs us → Vals ys ws → Vals (xs ++ ys) (us ++ ws)
  | _, _, _, _, .nil, s => s
  | _, _, _, _, .cons r t, s => .cons r (Vals.append t s)
theorem Vals.take : ∀ {xs : List V} {us : List Value} (n : Nat), Vals xs us → Vals (xs.take n) (us.take n)
  | _, _, 0, _ => .nil
  | _, _, _ + 1, .nil => .nil
  | _, _, n + 1, .cons r t => .cons r (Vals.take n t)
theorem Vals.drop : ∀ {xs : List V} {us : List Value} (n : Nat), Vals xs us → Vals (xs.drop n) (us.drop n)
  | _, _, 0, r => r
  | _, _, _ + 1, .nil => .nil
  | _, _, n + 1, .cons _ t => Vals.drop n t
theorem Vals.none_of : ∀ {xs : List V} {us : List Value} {i : Nat}, Vals xs us → xs[i]? = none → us[i]? = none := fun {xs us i} r e => by
  have h1 := r.length
  have h2 : xs.length ≤ i := List.getElem?_eq_none_iff.mp e
  exact List.getElem?_eq_none_iff.mpr (by omega)

def RelO : Option V → Option Value → Prop
  | some v, some u => RelV v u
  | none, none => True
  | _, _ => False
def KV {κ : Type} : List (κ × V) → List (κ × Value) → Prop := Paired fun (p : κ × V) (q : κ × Value) => p.1 = q.1 ∧ RelV p.2 q.2

/-- a key of a dict (00_mix): an int or a text -/
def kV : Key → V
  | .inl i => .int i
  | .inr x => .str x

/-- what stands at a tracked address -/
inductive HO where
  /-- a list -/
  | lst (xs : List V)
  /-- a tuple (never changes) -/
  | tup (xs : List V)
  /-- a dict whose keys are ints and texts; one whose keys are tuples of ints and texts (the empty one is both) -/
  | dK (kvs : List (Key × V)) | dT (kvs : List (List Key × V))
  /-- a set of ints: its members, its size -/
  | set (S : Int → Bool) (n : Nat)
  /-- an instance of the class at C, its dict at dx, its attributes -/
  | ins (C dx : Addr) (fs : List (Str × V))
  /-- the dict of the instance at x -/
  | own (x : Addr)
  /-- the dict of an exception -/
  | xd (fs : List (Str × V))
  /-- a bound method, f of x -/
  | met (f x : Addr)
  /-- a range object lo, lo + 1, .. below hi -/
  | rng (lo hi : Int)
  /-- a thing that is known to the object (the script; a dict while a loop walks it): read, never written while it is so -/
  | frz (o : Obj) (u : HO)
  /-- a code object's table -/
  | tbl (qs : List (Pos × Str)) (ps : Array Value)
  /-- any other thing, by what is true of its one object (a def of one's own: SetO a S n := HO.ext fun h => ..) -/
  | ext (φ : Heap → Prop)

abbrev Hp := Addr → Option HO
def upd (H : Hp) (a : Addr) (o : HO) : Hp := fun b => if b = a then some o else H b
theorem upd_same {H : Hp} {a : Addr} {o : HO} : upd H a o a = some o := by unfold upd; rw [if_pos rfl]
theorem upd_ne {H : Hp} {a b : Addr} {o : HO} (h : b ≠ a) : upd H a o b = H b := by unfold upd; rw [if_neg h]
/-- two objects of different content stand apart -/
theorem ne_of {H : Hp} {a b : Addr} {o u : HO} (h : H a = some o) (h' : H b = some u) (d : o ≠ u) : a ≠ b := by
  intro e; subst e; rw [h] at h'; exact d (Option.some.inj h')
theorem ne_of_none {H : Hp} {a b : Addr} {o : HO} (h : H a = some o) (h' : H b = none) : a ≠ b := by
  intro e; subst e; rw [h] at h'; cases h'

section
variable (P : Program) (w : World)
def CodeObj (o : Obj) (q : Str) : Prop := ∃ vs t, o.data = .fields vs ∧ vs[1]? = some (.str q t)
def ObjOk (H : Hp) (h : Heap) (a : Addr) : HO → Prop
  | .lst xs => xs.length ≤ sizeLine ∧ ∃ (its : List Value) (n : Nat), Vals xs its ∧ h.get? a = some { cls := .type "list", data := .seq its.toArray n }
  | .tup xs => xs.length ≤ sizeLine ∧ ∃ its : List Value, Vals xs its ∧ IsTup h a its.toArray
  | .dK kvs => kvs.length ≤ sizeLine ∧ (a == sysModules) = false ∧ ∃ vs, KV kvs vs ∧ h.DictOf (mixKind P w) a vs
  | .dT kvs => kvs.length ≤ sizeLine ∧ (a == sysModules) = false ∧ ∃ xs : List (List Key × Addr × Value),
      Paired (fun (p : List Key × V) (q : List Key × Addr × Value) => p.1 = q.1 ∧ H q.2.1 = some (.tup (p.1.map kV)) ∧ RelV p.2 q.2.2) kvs xs ∧
      ∃ o es ep, h.get? a = some o ∧ o.ExactDict ∧ o.data = .dict es ep ∧ es.toList = xs.map (entryOfKey (tupleKind (mixKind P w))) ∧ (xs.map (·.1)).Nodup
  | .set S n => h.SetOf (intKind P w) a S n
  | .ins C dx fs => H dx = some (.own a) ∧ fs.length ≤ 1000 ∧ dx ≠ a ∧ h.get? a = some (PySem.W.instObj C dx) ∧
      ∃ mA, h.Ns1 dx mA ∧ (∀ f, RelO (fs.lookup f) (mA f)) ∧ PySem.Within mA (fs.map (·.1))
  | .own _ => ∃ o, h.get? a = some o
  | .xd fs => ∃ mA, h.Ns1 a mA ∧ ∀ f, RelO (fs.lookup f) (mA f)
  | .rng lo hi => ∃ t u v, h.get? a = some { cls := .type "range", data := .fields #[.int lo t, .int hi u, .int 1 v] }
  | .frz o u => h.get? a = some o ∧ ObjOk H h a u
  | .tbl qs ps => ∃ more : Array Value, h.get? a = some { cls := .none, data := .fields (ps ++ more) } ∧ TriplesOk (ps ++ more).toList ∧ ∀ p ∈ qs, ∀ v, codeAmong p.1 (ps ++ more).toList = some v → ∃ c o, v = .ref c ∧ H c = some (.frz o (.own c)) ∧ CodeObj o p.2
  | .met f x => h.get? a = some (PySem.W.methodObj (.ref f) (.ref x))
  | .ext φ => φ h ∧ (∃ o, h.get? a = some o) ∧ ∀ h1 h2 : Heap, φ h1 → (∀ o, h1.get? a = some o → h2.get? a = some o) → φ h2
/-- the abstract heap is held -/
def HOk (H : Hp) (h : Heap) : Prop := ∀ a o, H a = some o → ObjOk P w H h a o
end

section
variable {P : Program} {w : World} {H H' : Hp} {h h' : Heap} {a : Addr} {o : HO}
theorem ObjOk.lt (x : ObjOk P w H h a o) : a < h.objs.size := by
  cases o with
  | lst xs => obtain ⟨_, _, _, _, e⟩ := x; exact Heap.lt_size e
  | tup xs => obtain ⟨_, _, _, p⟩ := x; exact p.lt
  | dK kvs => obtain ⟨_, _, _, _, o, _, _, e, _⟩ := x; exact Heap.lt_size e
  | dT kvs => obtain ⟨_, _, _, _, o, _, _, e, _⟩ := x; exact Heap.lt_size e
  | set S n => obtain ⟨o, _, _, _, e, _⟩ := x; exact Heap.lt_size e
  | ins C dx fs => obtain ⟨_, _, _, e, _⟩ := x; exact Heap.lt_size e
  | own y => obtain ⟨_, e⟩ := x; exact Heap.lt_size e
  | xd fs => obtain ⟨_, ⟨_, _, _, e, _⟩, _⟩ := x; exact Heap.lt_size e
  | rng lo hi => obtain ⟨_, _, _, e⟩ := x; exact Heap.lt_size e
  | frz ob u => obtain ⟨e, _⟩ := x; exact Heap.lt_size e
  | tbl qs ps => obtain ⟨_, e, _⟩ := x; exact Heap.lt_size e
  | met f y => exact Heap.lt_size (show h.get? a = some _ from x)
  | ext φ => obtain ⟨_, ⟨_, e⟩, _⟩ := x; exact Heap.lt_size e
theorem Paired.mapP {α β : Type} {F G : α → β → Prop} : ∀ {l₁ : List α} {l₂ : List β}, Paired F l₁ l₂ → (∀ a b, F a b → G a b) → Paired G l₁ l₂
  | _, _, .nil, _ => .nil
  | _, _, .cons r t, f => .cons (f _ _ r) (Paired.mapP t f)
/-- what an object's description leans on: its own object, its own dict, the tuples -/
theorem ObjOk.stay (x : ObjOk P w H h a o) (k : ∀ b u, (b = a ∨ H b = some (.own a)) → h.get? b = some u → h'.get? b = some u)
    (ho : ∀ b, H b = some (.own a) → H' b = some (.own a)) (hf : ∀ b o u q, CodeObj o q → H b = some (.frz o u) → H' b = some (.frz o u)) (ht : ∀ b xs, H b = some (.tup xs) → H' b = some (.tup xs)) : ObjOk P w H' h' a o := by
  induction o with
  | lst xs => obtain ⟨z, its, n, r, e⟩ := x; exact ⟨z, its, n, r, k _ _ (.inl rfl) e⟩
  | tup xs => obtain ⟨z, its, r, ob, e, c⟩ := x; exact ⟨z, its, r, ob, k _ _ (.inl rfl) e, c⟩
  | dK kvs => obtain ⟨z, y, vs, r, ob, es, ep, e, c⟩ := x; exact ⟨z, y, vs, r, ob, es, ep, k _ _ (.inl rfl) e, c⟩
  | dT kvs =>
    obtain ⟨z, y, xs, r, ob, es, ep, e, c⟩ := x
    exact ⟨z, y, xs, Paired.mapP r fun p q z => ⟨z.1, ht _ _ z.2.1, z.2.2⟩, ob, es, ep, k _ _ (.inl rfl) e, c⟩
  | set S n => obtain ⟨ob, es, ep, t, e, c⟩ := x; exact ⟨ob, es, ep, t, k _ _ (.inl rfl) e, c⟩
  | ins C dx fs =>
    obtain ⟨d, z, ne, e, mA, ⟨od, es, ep, e2, c⟩, r⟩ := x
    exact ⟨ho _ d, z, ne, k _ _ (.inl rfl) e, mA, ⟨od, es, ep, k _ _ (.inr d) e2, c⟩, r⟩
  | own y => obtain ⟨ob, e⟩ := x; exact ⟨ob, k _ _ (.inl rfl) e⟩
  | xd fs => obtain ⟨mA, ⟨od, es, ep, e, c⟩, r⟩ := x; exact ⟨mA, ⟨od, es, ep, k _ _ (.inl rfl) e, c⟩, r⟩
  | rng lo hi => obtain ⟨t, u, v, e⟩ := x; exact ⟨t, u, v, k _ _ (.inl rfl) e⟩
  | frz ob u ih => obtain ⟨e, q⟩ := x; exact ⟨k _ _ (.inl rfl) e, ih q⟩
  | tbl qs ps => obtain ⟨more, e, t, c⟩ := x; exact ⟨more, k _ _ (.inl rfl) e, t, fun p hp v q => let ⟨c1, o, r, z, co⟩ := c p hp v q; ⟨c1, o, r, hf _ _ _ _ co z, co⟩⟩
  | met f y =>
    have e : h.get? a = some (PySem.W.methodObj (.ref f) (.ref y)) := x
    show h'.get? a = some (PySem.W.methodObj (.ref f) (.ref y))
    exact k a _ (.inl rfl) e
  | ext φ => obtain ⟨p, ⟨o, e⟩, st⟩ := x; exact ⟨st _ _ p fun o q => k _ _ (.inl rfl) q, ⟨o, k _ _ (.inl rfl) e⟩, st⟩
theorem HOk.lt (x : HOk P w H h) (e : H a = some o) : a < h.objs.size := (x a o e).lt
theorem HOk.fresh (x : HOk P w H h) (e : h.objs.size ≤ a) : H a = none := by
  cases q : H a with
  | none => rfl
  | some u => exact absurd (Nat.lt_of_lt_of_le (x.lt q) e) (Nat.lt_irrefl _)
/-- every object of the heap is kept -/
theorem HOk.kept (x : HOk P w H h) (k : ∀ b u, h.get? b = some u → h'.get? b = some u) : HOk P w H h' := fun a o e =>
  (x a o e).stay (fun b u _ q => k b u q) (fun _ q => q) (fun _ _ _ _ _ q => q) fun _ _ q => q
/-- a new object is laid and tracked -/
theorem HOk.laid (x : HOk P w H h) (k : ∀ b u, h.get? b = some u → h'.get? b = some u) (hp : h.objs.size ≤ a) (new : ObjOk P w (upd H a o) h' a o) : HOk P w (upd H a o) h' := fun b u e => by
  have hn := x.fresh hp
  by_cases hb : b = a
  · subst hb; rw [upd_same] at e; cases e; exact new
  · rw [upd_ne hb] at e
    exact (x b u e).stay (fun c v _ q => k c v q) (fun c q => by rw [upd_ne (ne_of_none q hn)]; exact q) (fun c _ _ _ _ q => by rw [upd_ne (ne_of_none q hn)]; exact q) fun c xs q => by rw [upd_ne (ne_of_none q hn)]; exact q
end

/-- what may be read as u: it is u, or a known u -/
def Rd (H : Hp) (a : Addr) (u : HO) : Prop := H a = some u ∨ ∃ o, H a = some (.frz o u)
theorem Rd.of {H : Hp} {a : Addr} {u : HO} (h : H a = some u) : Rd H a u := .inl h
theorem Rd.ok {P : Program} {w : World} {H : Hp} {h : Heap} {a : Addr} {u : HO} (r : Rd H a u) (x : HOk P w H h) : ObjOk P w H h a u := by
  rcases r with r | ⟨o, r⟩
  · exact x a u r
  · obtain ⟨_, q⟩ := x a _ r
    exact q
/-- what may be written -/
def Mut : Option HO → Prop
  | some (.lst _) => True
  | some (.dK _) => True
  | some (.dT _) => True
  | some (.set _ _) => True
  | some (.ins _ _ _) => True
  | some (.ext _) => True
  | _ => False
section
variable {P : Program} {w : World} {H : Hp} {h h' : Heap} {x e : Addr} {o' : HO}
/-- the object at e is changed: x itself, or the dict of the instance x -/
theorem HOk.write (ok : HOk P w H h) (mu : Mut (H x)) (he : e = x ∨ H e = some (.own x)) (k : ∀ b u, b ≠ e → h.get? b = some u → h'.get? b = some u) (heo : ∃ u, h'.get? e = some u)
    (new : ObjOk P w (upd H x o') h' x o') : HOk P w (upd H x o') h' := fun b u q => by
  have nown : ∀ c y, H c = some (.own y) → c ≠ x := fun c y r z => by subst z; rw [r] at mu; exact mu
  have ntup : ∀ c xs, H c = some (.tup xs) → c ≠ x := fun c xs r z => by subst z; rw [r] at mu; exact mu
  have nfrz : ∀ c o y, H c = some (.frz o y) → c ≠ x := fun c o y r z => by subst z; rw [r] at mu; exact mu
  by_cases hb : b = x
  · subst hb; rw [upd_same] at q; cases q; exact new
  · rw [upd_ne hb] at q
    by_cases hbe : b = e
    · have q' : H b = some (.own x) := by
        rcases he with z | z
        · exact absurd (hbe.trans z) hb
        · rw [hbe]; exact z
      rw [q] at q'; cases q'
      obtain ⟨v, hv⟩ := heo
      exact ⟨v, by rw [hbe]; exact hv⟩
    · refine (ok b u q).stay (fun c v hc r => k c v ?_ r) (fun c r => by rw [upd_ne (nown c b r)]; exact r) (fun c o y _ _ r => by rw [upd_ne (nfrz c o y r)]; exact r) fun c xs r => by rw [upd_ne (ntup c xs r)]; exact r
      rcases hc with rfl | hc
      · exact hbe
      · rintro rfl
        rcases he with z | z
        · exact nown c b hc z
        · rw [hc] at z; cases z; exact hb rfl
end

/-! ### kept unless tracked; of the frames at fs (the callers') the slots may change (an exception that passes writes there); of the records at ex (iterators) nothing is said -/
structure Un (fs ex : List Addr) (H H' : Hp) (h h' : Heap) : Prop where
  keep : ∀ b o, h.get? b = some o → H b = none → b ∉ fs → b ∉ ex → h'.get? b = some o
  slot : ∀ b o, h.get? b = some o → H b = none → b ∈ fs → b ∉ ex → ∃ sl, h'.get? b = some { o with slots := sl }
  free : ∀ b o, h.get? b = some o → H b = none → b ∉ ex → H' b = none
  there : ∀ b o, h.get? b = some o → b ∉ ex → ∃ o', h'.get? b = some o'
  tups : ∀ b xs, H b = some (.tup xs) → H' b = some (.tup xs)
  frzs : ∀ b o u, H b = some (.frz o u) → H' b = some (.frz o u)
  tbls : ∀ b qs ps, H b = some (.tbl qs ps) → H' b = some (.tbl qs ps)
section
variable {fs fs' ex ex' : List Addr} {H H1 H2 : Hp} {h h1 h2 h' : Heap} {a x e : Addr} {o : HO}
theorem Un.any (u : Un fs ex H H1 h h1) {b : Addr} {ob : Obj} (q : h.get? b = some ob) (n : H b = none) (hx : b ∉ ex) : ∃ sl, h1.get? b = some { ob with slots := sl } := by
  by_cases hb : b ∈ fs
  · exact u.slot b ob q n hb hx
  · exact ⟨ob.slots, u.keep b ob q n hb hx⟩
theorem Un.trans (a : Un fs ex H H1 h h1) (b : Un fs ex H1 H2 h1 h2) : Un fs ex H H2 h h2 where
  keep := fun c ob q n hc hx => b.keep c ob (a.keep c ob q n hc hx) (a.free c ob q n hx) hc hx
  slot := fun c ob q n hc hx => by
    obtain ⟨sl, e1⟩ := a.slot c ob q n hc hx
    obtain ⟨sl', e2⟩ := b.slot c _ e1 (a.free c ob q n hx) hc hx
    exact ⟨sl', e2⟩
  free := fun c ob q n hx => by
    obtain ⟨o', e1⟩ := a.there c ob q hx
    exact b.free c o' e1 (a.free c ob q n hx) hx
  there := fun c ob q hx => by
    obtain ⟨o', e1⟩ := a.there c ob q hx
    exact b.there c o' e1 hx
  tups := fun c xs q => b.tups c xs (a.tups c xs q)
  frzs := fun c ob xs q => b.frzs c ob xs (a.frzs c ob xs q)
  tbls := fun c qs ps q => b.tbls c qs ps (a.tbls c qs ps q)
theorem Un.kept (k : ∀ b u, h.get? b = some u → h'.get? b = some u) : Un fs ex H H h h' :=
  ⟨fun b ob q _ _ _ => k b ob q, fun b ob q _ _ _ => ⟨ob.slots, k b ob q⟩, fun _ _ _ n _ => n, fun b ob q _ => ⟨ob, k b ob q⟩, fun _ _ q => q, fun _ _ _ q => q, fun _ _ _ q => q⟩
theorem Un.refl : Un fs ex H H h h := Un.kept fun _ _ q => q
theorem Un.laid (k : ∀ b u, h.get? b = some u → h'.get? b = some u) (hp : h.objs.size ≤ a) (hn : H a = none) : Un fs ex H (upd H a o) h h' where
  keep := fun b u q _ _ _ => k b u q
  slot := fun b u q _ _ _ => ⟨u.slots, k b u q⟩
  free := fun b u q n _ => by rw [upd_ne (Nat.ne_of_lt (Nat.lt_of_lt_of_le (Heap.lt_size q) hp))]; exact n
  there := fun b u q _ => ⟨u, k b u q⟩
  tups := fun b xs q => by rw [upd_ne (ne_of_none q hn)]; exact q
  frzs := fun b u xs q => by rw [upd_ne (ne_of_none q hn)]; exact q
  tbls := fun b qs ps q => by rw [upd_ne (ne_of_none q hn)]; exact q
theorem Un.write (mu : Mut (H x)) (he : e = x ∨ H e = some (.own x)) (k : ∀ b u, b ≠ e → h.get? b = some u → h'.get? b = some u) (heo : ∃ u, h'.get? e = some u) : Un fs ex H (upd H x o) h h' := by
  have hx : ∀ b, H b = none → b ≠ x := fun b n z => by subst z; rw [n] at mu; exact mu
  have hb : ∀ b, H b = none → b ≠ e := fun b n z => by
    subst z
    rcases he with r | r
    · exact hx b n r
    · rw [n] at r; cases r
  have hm : ∀ b u, H b = some u → ¬ Mut (some u) → b ≠ x := fun b u q nm z => by subst z; rw [q] at mu; exact nm mu
  refine ⟨fun b u q n _ _ => k b u (hb b n) q, fun b u q n _ _ => ⟨u.slots, k b u (hb b n) q⟩, fun b u q n _ => by rw [upd_ne (hx b n)]; exact n, fun b u q _ => ?_,
    fun b xs q => by rw [upd_ne (hm b _ q fun z => z)]; exact q, fun b u xs q => by rw [upd_ne (hm b _ q fun z => z)]; exact q, fun b qs ps q => by rw [upd_ne (hm b _ q fun z => z)]; exact q⟩
  by_cases hbe : b = e
  · subst hbe; exact heo
  · exact ⟨u, k b u hbe q⟩
theorem Un.mono (u : Un fs ex H H1 h h1) (hs : ∀ b ∈ fs, b ∈ fs') (hx : ∀ b ∈ ex, b ∈ ex') : Un fs' ex' H H1 h h1 :=
  ⟨fun b ob q n hb he => u.keep b ob q n (fun z => hb (hs b z)) fun z => he (hx b z), fun _ _ q n _ he => u.any q n fun z => he (hx _ z), fun b ob q n he => u.free b ob q n fun z => he (hx b z), fun b ob q he => u.there b ob q fun z => he (hx b z), u.tups, u.frzs, u.tbls⟩
end

/-! ### the heap without what is tracked -/
def trk (h : Heap) (H : Hp) : List Addr := (List.range h.objs.size).filter fun a => (H a).isSome
def hidT (h : Heap) (H : Hp) : Heap := PySem.W.hideAll h (trk h H)
theorem hidT_size (h : Heap) (H : Hp) : (hidT h H).objs.size = h.objs.size := PySem.W.hideAll_size _ _
theorem hidT_get {h : Heap} {H : Hp} {b : Addr} {o : Obj} (e : h.get? b = some o) (n : H b = none) : (hidT h H).get? b = some o :=
  PySem.W.hideAll_get _ e fun hm => by
    have q : (H b).isSome = true := (List.mem_filter.mp hm).2
    rw [n] at q; simp at q
theorem of_hidT {h : Heap} {H : Hp} {b : Addr} {o : Obj} (e : (hidT h H).get? b = some o) : h.get? b = some o ∧ H b = none := by
  have e' : h.get? b = some o := PySem.W.of_hideAll (trk h H) e
  refine ⟨e', ?_⟩
  cases q : H b with
  | none => rfl
  | some x =>
    have hm : b ∈ trk h H := List.mem_filter.mpr ⟨List.mem_range.mpr (Heap.lt_size e'), by simp [q]⟩
    have z : (hidT h H).get? b = none := PySem.W.hideAll_none (trk h H) hm
    rw [z] at e; cases e

/-! ### OpenK's ledger, filled with every new object but one -/
def allNews (g h : Heap) (L : Addr) : List (Addr × Obj) := (List.range h.objs.size).filterMap fun a => if a = L ∨ (g.get? a).isSome = true then none else (h.get? a).map fun o => (a, o)
def rest (g h : Heap) (L d : Addr) : List (Addr × Obj) := (allNews g h L).filter fun p => decide (p.1 ≠ d)
end L2

namespace L2
open PySem PySem.Spec PyProof.Rows

/-- the module's facts, over the base: the heap at the law's entry without what is tracked there -/
structure Mod (K : PySem.W.Frag) (mg : Str → Option Value) (base : Heap) : Prop where
  kin : K.In base
  glob : base.Ns mainGlobals mg
  blt : ∃ mb, base.Ns builtinsNs mb ∧ ∀ x : Str, x ≠ "__name__" → mb x = bootBuiltins x
  nolimit : base.NoLimit

/-- the context: a def's body (or a comprehension's block) running. base: fixed through the whole law; s₀, H₀: the entry; outer: the frames whose slots others may change (a def's callers); stack: all frames that run;
   ex: iterators that were made ahead of the entry and are walked here (a comprehension's); fn: the names whose cells were made at the entry (a def: all; a comprehension's block: its own); calm: not within an except suite; pn: pins that every state bears; xe: what is wanted of an exception that leaves the code -/
structure Cx where
  prog : Program
  w : World
  K : PySem.W.Frag
  mg : Str → Option Value
  base : Heap
  A : Around
  N : List Str
  s₀ : Shared
  H₀ : Hp
  env : Env
  outer : List Env
  stack : List Env
  ex : List Addr
  fn : Str → Bool
  calm : Bool
  pn : List (Addr × Obj)
  xe : Value → Shared → Prop
/-- the callers' frames -/
def frs (l : List Env) : List Addr := l.filterMap (·.frame)
abbrev Cx.fs (X : Cx) : List Addr := frs X.outer

def Vis (sc : Scope) (x : Str) : Prop := sc.names.lookup x = some .local ∨ sc.names.lookup x = some .cell ∨ sc.names.lookup x = some .free
def Loc (sc : Scope) (x : Str) : Prop := sc.names.lookup x = some .local ∨ sc.names.lookup x = some .cell
def Look (env : Env) (h : Heap) (m : Str → Option Value) (x : Str) (u : Value) : Prop :=
  (env.kindOf x = some .local ∧ m x = some u) ∨ ((env.kindOf x = some .cell ∨ env.kindOf x = some .free) ∧ ∃ c, env.cells.lookup x = some c ∧ h.IsCell c (some u))

structure Cx.Ok (X : Cx) : Prop where
  mod : Mod X.K X.mg X.base
  kind : X.env.scope.kind = .function
  glob : X.env.globals = mainGlobals
  blt : X.env.builtins = builtinsNs
  above : X.s₀.heap.objs.size ≤ X.env.locals
  inj : ∀ x y c, X.env.cells.lookup x = some c → X.env.cells.lookup y = some c → x = y
  has : ∀ x, (X.env.kindOf x = some .cell ∨ X.env.kindOf x = some .free) → ∃ c, X.env.cells.lookup x = some c
  cab : ∀ x c, X.fn x = true → X.env.cells.lookup x = some c → X.s₀.heap.objs.size ≤ c
  hd : X.calm = true → X.A.handled = none
  frames : X.A.frames = some X.stack
  stk : X.stack = X.outer ∨ (X.stack = X.env :: X.outer ∧ X.env.frame = some X.env.locals)
  exf : ∀ b ∈ X.ex, b ≠ X.env.locals ∧ ∀ x c, X.env.cells.lookup x = some c → c ≠ b
  bs : ∀ b o, X.base.get? b = some o → X.s₀.heap.get? b = some o ∧ X.H₀ b = none
  bsz : X.base.objs.size ≤ X.s₀.heap.objs.size
  noex : ∀ b o, X.base.get? b = some o → b ∉ X.ex
  exfs : ∀ b ∈ X.ex, b ∉ X.fs
  funs : X.s₀.heap.FunFrames X.base X.outer
  frf : ∀ b ∈ X.fs, X.H₀ b = none

structure Inv (X : Cx) (pins : List (Addr × Obj)) (σ : List (Option V)) (H : Hp) (s : Shared) : Prop where
  ok : X.Ok
  os : s.os = X.s₀.os
  bare : AllBare s.gens
  base : Un X.fs X.ex X.H₀ H X.s₀.heap s.heap
  loc : ∃ m, s.heap.Ns X.env.locals m ∧ ∀ (i : Nat) (x : Str) (v : V), X.N[i]? = some x → σ[i]? = some (some v) → Vis X.env.scope x → ∃ u, RelV v u ∧ Look X.env s.heap m x u
  cell : ∀ x c, X.env.cells.lookup x = some c → ∃ v, s.heap.IsCell c v
  free : H X.env.locals = none
  freeC : ∀ x c, X.env.cells.lookup x = some c → H c = none
  pin : ∀ p ∈ X.pn ++ pins, s.heap.get? p.1 = some p.2 ∧ H p.1 = none ∧ p.1 ≠ X.env.locals ∧ p.1 ∉ X.fs ∧ ∀ v, p.2.data ≠ .cell v
  hok : HOk X.prog X.w H s.heap
  len : σ.length = X.N.length

section
variable {X : Cx} {pins : List (Addr × Obj)} {σ : List (Option V)} {H H' : Hp} {s : Shared} {h' : Heap}

theorem Cx.Ok.nofr (ok : X.Ok) {b : Addr} {o : Obj} (e : X.base.get? b = some o) : b ∉ X.fs := fun hb => by
  have := (ok.funs.mem hb).1
  rw [e] at this; cases this
theorem Inv.bs (I : Inv X pins σ H s) : ∀ b o, X.base.get? b = some o → s.heap.get? b = some o ∧ H b = none := fun b o e =>
  ⟨I.base.keep b o (I.ok.bs b o e).1 (I.ok.bs b o e).2 (I.ok.nofr e) (I.ok.noex b o e), I.base.free b o (I.ok.bs b o e).1 (I.ok.bs b o e).2 (I.ok.noex b o e)⟩
theorem Inv.bk (I : Inv X pins σ H s) : ∀ b o, X.base.get? b = some o → s.heap.get? b = some o := fun b o e => (I.bs b o e).1
theorem Inv.mod (I : Inv X pins σ H s) : Mod X.K X.mg X.base := I.ok.mod
theorem Inv.kIn (I : Inv X pins σ H s) : X.K.In s.heap := I.ok.mod.kin.keeps I.bk
theorem Inv.nolimit (I : Inv X pins σ H s) : s.heap.NoLimit := I.ok.mod.nolimit.keeps I.bk
/-- the frame over the base: for OpenK's rules (K.In X.base is I.mod.kin) -/
theorem Inv.fr (I : Inv X pins σ H s) : ∃ m, Fr X.base X.env.locals s.heap m :=
  let ⟨m, hn, _⟩ := I.loc
  ⟨m, hn, I.bk, Nat.le_trans I.ok.bsz I.ok.above⟩
theorem Inv.lt (I : Inv X pins σ H s) : X.env.locals < s.heap.objs.size := let ⟨_, hn, _⟩ := I.loc; hn.lt
theorem Inv.sz (I : Inv X pins σ H s) : X.s₀.heap.objs.size ≤ s.heap.objs.size := Nat.le_trans I.ok.above (Nat.le_of_lt I.lt)
theorem Inv.nofs (I : Inv X pins σ H s) {a : Addr} (h : s.heap.objs.size ≤ a) : a ∉ X.fs := fun hb => by
  obtain ⟨_, o, ho, _⟩ := I.ok.funs.mem hb
  exact absurd (Nat.lt_of_lt_of_le (Heap.lt_size ho) (Nat.le_trans I.sz h)) (Nat.lt_irrefl _)
theorem Inv.cne (I : Inv X pins σ H s) : ∀ x c, X.env.cells.lookup x = some c → c ≠ X.env.locals := fun x c e z => by
  obtain ⟨v, o, ho, hd⟩ := I.cell x c e
  obtain ⟨m, ⟨o', es, ep, ho', hd', _⟩, _⟩ := I.loc
  rw [z, ho'] at ho; cases ho; rw [hd'] at hd; cases hd
theorem Inv.funs (I : Inv X pins σ H s) : s.heap.FunFrames X.base X.outer := by
  have all : ∀ (l : List Env), (∀ b ∈ frs l, b ∈ X.fs) → X.s₀.heap.FunFrames X.base l → s.heap.FunFrames X.base l := by
    intro l
    induction l with
    | nil => intro _ _; trivial
    | cons env r ih =>
      intro hs hl
      obtain ⟨hk, ⟨L, o, hf, hn, ho, hd⟩, hr⟩ := hl
      have hL : L ∈ X.fs := hs L (by unfold frs; rw [List.filterMap_cons, hf]; exact List.mem_cons_self)
      obtain ⟨sl, e⟩ := I.base.slot L o ho (I.ok.frf L hL) hL fun z => I.ok.exfs L z hL
      exact ⟨hk, ⟨L, _, hf, hn, e, hd⟩, ih (fun b hb => hs b (by unfold frs; rw [List.filterMap_cons, hf]; exact List.mem_cons_of_mem _ hb)) hr⟩
  exact all X.outer (fun _ hb => hb) I.ok.funs

/-- the frames that run, for a call -/
theorem Inv.stack (I : Inv X pins σ H s) : s.heap.FunFrames X.base X.stack := by
  rcases I.ok.stk with e | ⟨e, hf⟩
  · rw [e]; exact I.funs
  · rw [e]
    obtain ⟨m, hn, _⟩ := I.loc
    refine .cons (by rw [I.ok.kind]; decide) hf hn ?_ I.funs
    exact Heap.get?_none_of_le (Nat.le_trans I.ok.bsz I.ok.above)
theorem Inv.stkSub (I : Inv X pins σ H s) : ∀ b ∈ frs X.stack, b ∈ X.env.locals :: X.fs := fun b hb => by
  rcases I.ok.stk with e | ⟨e, hf⟩
  · rw [e] at hb; exact List.mem_cons_of_mem _ hb
  · rw [e] at hb
    unfold frs at hb
    rw [List.filterMap_cons, hf] at hb
    exact hb
theorem Inv.stkFree (I : Inv X pins σ H s) : ∀ b ∈ frs X.stack, H b = none := fun b hb => by
  rcases List.mem_cons.mp (I.stkSub b hb) with e | hb
  · rw [e]; exact I.free
  · obtain ⟨_, o, ho, _⟩ := I.ok.funs.mem hb
    exact I.base.free b o ho (I.ok.frf b hb) fun z => I.ok.exfs b z hb

/-- THE STEP: the untracked objects but the frame and the records at ch are kept (the callers' frames up to slots), the frame's map is kept, the new abstract heap is held -/
theorem Inv.step {g' : Array GenState} {t' : Nat} {d' : Drawn} {ch : List Addr} (I : Inv X pins σ H s)
    (hch : ∀ b ∈ ch, (b ∈ X.ex ∨ X.s₀.heap.objs.size ≤ b) ∧ b ≠ X.env.locals ∧ (∀ x c, X.env.cells.lookup x = some c → c ≠ b) ∧ ∀ p ∈ X.pn ++ pins, p.1 ≠ b)
    (keep : ∀ b o, b ≠ X.env.locals → b ∉ X.fs → b ∉ ch → s.heap.get? b = some o → H b = none → h'.get? b = some o)
    (slot : ∀ b o, b ≠ X.env.locals → b ∈ X.fs → b ∉ ch → s.heap.get? b = some o → H b = none → ∃ sl, h'.get? b = some { o with slots := sl }) (free : ∀ b o, b ∉ ch → s.heap.get? b = some o → H b = none → H' b = none)
    (there : ∀ b o, b ∉ ch → s.heap.get? b = some o → ∃ o', h'.get? b = some o')
    (tups : ∀ b xs, H b = some (.tup xs) → H' b = some (.tup xs)) (frzs : ∀ b o u, H b = some (.frz o u) → H' b = some (.frz o u)) (tbls : ∀ b qs ps, H b = some (.tbl qs ps) → H' b = some (.tbl qs ps))
    (ns : ∀ m, s.heap.Ns X.env.locals m → h'.Ns X.env.locals m) (hok : HOk X.prog X.w H' h') (hg : AllBare g') :
    Inv X pins σ H' { s with heap := h', gens := g', drawn := d', toks := t' } := by
  have neL : ∀ b o, X.s₀.heap.get? b = some o → b ≠ X.env.locals := fun b o e => Nat.ne_of_lt (Nat.lt_of_lt_of_le (Heap.lt_size e) I.ok.above)
  have neC : ∀ b o, X.s₀.heap.get? b = some o → b ∉ X.ex → b ∉ ch := fun b o e hx hb => by
    rcases (hch b hb).1 with z | z
    · exact hx z
    · exact absurd (Nat.lt_of_lt_of_le (Heap.lt_size e) z) (Nat.lt_irrefl _)
  have cellK : ∀ x c, X.env.cells.lookup x = some c → ∀ v, s.heap.IsCell c v → h'.IsCell c v := fun x c e v ⟨o, ho, hd⟩ => by
    have nch : c ∉ ch := fun z => (hch c z).2.2.1 x c e rfl
    by_cases hc : c ∈ X.fs
    · obtain ⟨sl, q⟩ := slot c o (I.cne x c e) hc nch ho (I.freeC x c e)
      exact ⟨_, q, hd⟩
    · exact ⟨o, keep c o (I.cne x c e) hc nch ho (I.freeC x c e), hd⟩
  refine ⟨I.ok, I.os, hg, ⟨fun b o e n hb hx => ?_, fun b o e n hb hx => ?_, fun b o e n hx => ?_, fun b o e hx => ?_, fun b xs e => tups b xs (I.base.tups b xs e), fun b o xs e => frzs b o xs (I.base.frzs b o xs e), fun b qs ps e => tbls b qs ps (I.base.tbls b qs ps e)⟩, ?_, fun x c e => ?_, ?_, fun x c e => ?_, fun p hp => ?_, hok, I.len⟩
  · exact keep b o (neL b o e) hb (neC b o e hx) (I.base.keep b o e n hb hx) (I.base.free b o e n hx)
  · obtain ⟨sl, e1⟩ := I.base.slot b o e n hb hx
    obtain ⟨sl', e2⟩ := slot b _ (neL b o e) hb (neC b o e hx) e1 (I.base.free b o e n hx)
    exact ⟨sl', e2⟩
  · obtain ⟨o', e1⟩ := I.base.there b o e hx
    exact free b o' (neC b o e hx) e1 (I.base.free b o e n hx)
  · obtain ⟨o', e1⟩ := I.base.there b o e hx
    exact there b o' (neC b o e hx) e1
  · obtain ⟨m, hn, hl⟩ := I.loc
    refine ⟨m, ns m hn, fun i x v e1 e2 e3 => ?_⟩
    obtain ⟨u, r, l⟩ := hl i x v e1 e2 e3
    refine ⟨u, r, ?_⟩
    rcases l with l | ⟨k, c, e, z⟩
    · exact .inl l
    · exact .inr ⟨k, c, e, cellK x c e _ z⟩
  · obtain ⟨v, z⟩ := I.cell x c e
    exact ⟨v, cellK x c e v z⟩
  · obtain ⟨m, ⟨o, _, _, ho, _⟩, _⟩ := I.loc
    exact free _ o (fun z => (hch _ z).2.1 rfl) ho I.free
  · obtain ⟨v, o, ho, hd⟩ := I.cell x c e
    exact free c o (fun z => (hch c z).2.2.1 x c e rfl) ho (I.freeC x c e)
  · obtain ⟨e, n, ne, nf, d⟩ := I.pin p hp
    have nch : p.1 ∉ ch := fun z => (hch p.1 z).2.2.2 p hp rfl
    exact ⟨keep p.1 p.2 ne nf nch e n, free p.1 p.2 nch e n, ne, nf, d⟩
/-- .. where the frame's own object is kept too -/
theorem Inv.un {t' : Nat} (I : Inv X pins σ H s) (u : Un X.fs [] H H' s.heap h') (hok : HOk X.prog X.w H' h') : Inv X pins σ H' { s with heap := h', toks := t' } := by
  obtain ⟨m, ⟨o, es, ep, ho, r⟩, _⟩ := id I.loc
  obtain ⟨sl, hL⟩ := u.any ho I.free (by simp)
  exact I.step (g' := s.gens) (d' := s.drawn) (ch := []) (fun _ z => nomatch z) (fun b o _ hb _ e n => u.keep b o e n hb (by simp)) (fun b o _ hb _ e n => u.slot b o e n hb (by simp)) (fun b o _ e n => u.free b o e n (by simp)) (fun b o _ e => u.there b o e (by simp)) u.tups u.frzs u.tbls (fun m' hm => by
    obtain ⟨o', es', ep', ho', r'⟩ := hm
    rw [ho] at ho'; cases ho'
    exact ⟨_, es', ep', hL, r'⟩) hok I.bare
/-- behind a call (or a comprehension's block): the slots of this frame may have changed too, the records at ch may have turned -/
theorem Inv.call {g' : Array GenState} {t' : Nat} {d' : Drawn} {ch : List Addr} (I : Inv X pins σ H s) (u : Un (frs X.stack) ch H H' s.heap h') (hok : HOk X.prog X.w H' h') (hg : AllBare g')
    (hch : ∀ b ∈ ch, (b ∈ X.ex ∨ X.s₀.heap.objs.size ≤ b) ∧ b ≠ X.env.locals ∧ (∀ x c, X.env.cells.lookup x = some c → c ≠ b) ∧ ∀ p ∈ X.pn ++ pins, p.1 ≠ b) :
    Inv X pins σ H' { s with heap := h', gens := g', drawn := d', toks := t' } := by
  obtain ⟨m, ⟨o, es, ep, ho, r⟩, _⟩ := id I.loc
  obtain ⟨sl, hL⟩ := u.any ho I.free fun z => (hch _ z).2.1 rfl
  exact I.step (ch := ch) hch (fun b o hL hb hc e n => u.keep b o e n (fun z => (List.mem_cons.mp (I.stkSub b z)).elim hL hb) hc) (fun b o _ _ hc e n => u.any e n hc) (fun b o hc e n => u.free b o e n hc) (fun b o hc e => u.there b o e hc) u.tups u.frzs u.tbls (fun m' hm => by
    obtain ⟨o', es', ep', ho', r'⟩ := hm
    rw [ho] at ho'; cases ho'
    exact ⟨_, es', ep', hL, r'⟩) hok hg
/-- an untracked record of ours (an iterator) has turned -/
theorem Inv.turned {t' : Nat} {it : Addr} (I : Inv X pins σ H s) (k : ∀ b o, b ≠ it → s.heap.get? b = some o → h'.get? b = some o) (hn : H it = none) (hL : it ≠ X.env.locals)
    (h1 : it ∈ X.ex ∨ X.s₀.heap.objs.size ≤ it) (h2 : ∀ x c, X.env.cells.lookup x = some c → c ≠ it) (h3 : ∀ p ∈ X.pn ++ pins, p.1 ≠ it) : Inv X pins σ H { s with heap := h', toks := t' } := by
  have nit : ∀ b u, H b = some u → b ≠ it := fun b u e z => by rw [z, hn] at e; cases e
  refine I.step (g' := s.gens) (d' := s.drawn) (ch := [it]) (fun b hb => ?_) (fun b o _ _ hc e _ => k b o (fun z => hc (by simp [z])) e) (fun b o _ _ hc e _ => ⟨o.slots, k b o (fun z => hc (by simp [z])) e⟩) (fun _ _ _ _ n => n)
    (fun b o hc e => ⟨o, k b o (fun z => hc (by simp [z])) e⟩) (fun _ _ e => e) (fun _ _ _ e => e) (fun _ _ _ e => e) (fun m hm => ?_) (fun b u e => ?_) I.bare
  · have e : b = it := by simpa using hb
    subst e
    exact ⟨h1, hL, h2, h3⟩
  · obtain ⟨o, es, ep, ho, r⟩ := hm
    exact ⟨o, es, ep, k _ o (Ne.symm hL) ho, r⟩
  · refine (I.hok b u e).stay (fun c v hc q => k c v ?_ q) (fun _ q => q) (fun _ _ _ _ _ q => q) fun _ _ q => q
    rcases hc with z | z
    · rw [z]; exact nit b u e
    · exact nit c _ z
theorem Inv.tok (I : Inv X pins σ H s) (t : Nat) : Inv X pins σ H { s with toks := t } := I.un (h' := s.heap) (t' := t) Un.refl I.hok
/-- all objects kept -/
theorem Inv.kept {t' : Nat} (I : Inv X pins σ H s) (k : ∀ b u, s.heap.get? b = some u → h'.get? b = some u) : Inv X pins σ H { s with heap := h', toks := t' } := I.un (Un.kept k) (I.hok.kept k)
/-- a new object laid and tracked -/
theorem Inv.laid {a : Addr} {o : HO} {t' : Nat} (I : Inv X pins σ H s) (k : ∀ b u, s.heap.get? b = some u → h'.get? b = some u) (hp : s.heap.objs.size ≤ a) (new : ObjOk X.prog X.w (upd H a o) h' a o) :
    Inv X pins σ (upd H a o) { s with heap := h', toks := t' } := I.un (Un.laid k hp (I.hok.fresh hp)) (I.hok.laid k hp new)
/-- an object written -/
theorem Inv.write {x e : Addr} {o : HO} {t' : Nat} (I : Inv X pins σ H s) (mu : Mut (H x)) (he : e = x ∨ H e = some (.own x)) (k : ∀ b u, b ≠ e → s.heap.get? b = some u → h'.get? b = some u) (heo : ∃ u, h'.get? e = some u)
    (new : ObjOk X.prog X.w (upd H x o) h' x o) : Inv X pins σ (upd H x o) { s with heap := h', toks := t' } := I.un (Un.write mu he k heo) (I.hok.write mu he k heo new)
theorem Inv.pins_of {pins' : List (Addr × Obj)} (I : Inv X pins σ H s) (h : ∀ p ∈ pins', s.heap.get? p.1 = some p.2 ∧ H p.1 = none ∧ p.1 ≠ X.env.locals ∧ p.1 ∉ X.fs ∧ ∀ v, p.2.data ≠ .cell v) : Inv X pins' σ H s :=
  ⟨I.ok, I.os, I.bare, I.base, I.loc, I.cell, I.free, I.freeC, fun p hp => (List.mem_append.mp hp).elim (fun z => I.pin p (List.mem_append_left _ z)) (h p), I.hok, I.len⟩

theorem nodup_ix {N : List Str} (hN : N.Nodup) {i j : Nat} {x : Str} (a : N[i]? = some x) (b : N[j]? = some x) : i = j := by
  obtain ⟨h1, e1⟩ := List.getElem?_eq_some_iff.mp a
  obtain ⟨h2, e2⟩ := List.getElem?_eq_some_iff.mp b
  exact (List.getElem_inj hN).mp (e1.trans e2.symm)

/-- a name is stored; what changed -/
theorem store_ok2 {M : Model} {A : Around} {E : Value → Shared → Prop} {i : Nat} {x : Str} {v : V} {u : Value} {Q : Unit → Shared → Prop} (I : Inv X pins σ H s) (hN : X.N.Nodup) (hi : X.N[i]? = some x) (hx : Loc X.env.scope x) (r : RelV v u)
    (h : ∀ s', Inv X pins (σ.set i (some v)) H s' → (∃ a, Heap.SameBut a s.heap s'.heap ∧ (a = X.env.locals ∨ X.env.cells.lookup x = some a)) → Q () s') (hf : X.fn x = true ∨ X.env.scope.names.lookup x = some .local := by first | exact .inl rfl | exact .inr rfl | assumption) : wpAny M A (storeName X.env x u) Q E s := by
  obtain ⟨m, hn, hl⟩ := id I.loc
  have hcls : (X.env.scope.kind == .class || (X.env.scope.kind == .module && X.env.locals != X.env.globals)) = false := by rw [I.ok.kind]; rfl
  have hiσ : i < σ.length := by rw [I.len]; exact (List.getElem?_eq_some_iff.mp hi).1
  have cne := I.cne
  have tracked : ∀ {a : Addr} {h' : Heap}, (∃ o, s.heap.get? a = some o ∧ H a = none) → Heap.SameBut a s.heap h' → HOk X.prog X.w H h' := fun {a h'} ha hs b ob e => by
    obtain ⟨_, _, hfree⟩ := ha
    refine (I.hok b ob e).stay (fun c w' hc q => (hs.2 c ?_).trans q) (fun _ q => q) (fun _ _ _ _ _ q => q) fun _ _ q => q
    rintro rfl
    rcases hc with rfl | hc
    · rw [hfree] at e; cases e
    · rw [hfree] at hc; cases hc
  rcases hx with hk | hk
  · refine wpAny_storeName_local hk hn (fun h' hn' hs => ?_) hcls
    obtain ⟨oL, _, _, hoL, _⟩ := id hn
    refine h _ ⟨I.ok, I.os, I.bare, ⟨fun b o e n hb hx => ?_, fun b o e n hb hx => ?_, I.base.free, fun b o e hx => ?_, I.base.tups, I.base.frzs, I.base.tbls⟩, ⟨_, hn', fun j y v' e1 e2 e3 => ?_⟩, fun y c e => ?_, I.free, I.freeC, fun p hp => ?_, tracked ⟨oL, hoL, I.free⟩ hs, by simpa using I.len⟩ ⟨_, hs, .inl rfl⟩
    · exact (hs.2 b (Nat.ne_of_lt (Nat.lt_of_lt_of_le (Heap.lt_size e) I.ok.above))).trans (I.base.keep b o e n hb hx)
    · obtain ⟨sl, e1⟩ := I.base.slot b o e n hb hx
      exact ⟨sl, (hs.2 b (Nat.ne_of_lt (Nat.lt_of_lt_of_le (Heap.lt_size e) I.ok.above))).trans e1⟩
    · obtain ⟨o', e1⟩ := I.base.there b o e hx
      exact ⟨o', (hs.2 b (Nat.ne_of_lt (Nat.lt_of_lt_of_le (Heap.lt_size e) I.ok.above))).trans e1⟩
    · by_cases hj : j = i
      · subst hj
        rw [hi] at e1; cases e1
        rw [List.getElem?_set_self hiσ] at e2
        cases e2
        exact ⟨u, r, .inl ⟨hk, by simp⟩⟩
      · rw [List.getElem?_set_ne (Ne.symm hj)] at e2
        obtain ⟨u', r', q⟩ := hl j y v' e1 e2 e3
        refine ⟨u', r', ?_⟩
        rcases q with ⟨k, e⟩ | ⟨k, c, e, z⟩
        · refine .inl ⟨k, ?_⟩
          have : y ≠ x := fun e => hj (nodup_ix hN e1 (e ▸ hi))
          simp [this, e]
        · exact .inr ⟨k, c, e, z.sameBut hs (cne y c e)⟩
    · obtain ⟨w', z⟩ := I.cell y c e
      exact ⟨w', z.sameBut hs (cne y c e)⟩
    · obtain ⟨e, n, ne, nf, d⟩ := I.pin p hp
      exact ⟨(hs.2 p.1 ne).trans e, n, ne, nf, d⟩
  · have hfn : X.fn x = true := by
      rcases hf with z | z
      · exact z
      · rw [z] at hk; cases hk
    obtain ⟨c, hc⟩ := I.ok.has x (.inl hk)
    obtain ⟨w', z⟩ := I.cell x c hc
    refine wpAny_storeName_cell I.ok.kind hk hc z (fun h' hc' hs => ?_)
    obtain ⟨oc, hoc, hocd⟩ := id z
    refine h { s with heap := h' } ⟨I.ok, I.os, I.bare, ⟨fun b o e n hb hx => ?_, fun b o e n hb hx => ?_, I.base.free, fun b o e hx => ?_, I.base.tups, I.base.frzs, I.base.tbls⟩, ⟨m, hn.sameBut hs (Ne.symm (cne x c hc)), fun j y v' e1 e2 e3 => ?_⟩, fun y c' e => ?_, I.free, I.freeC, fun p hp => ?_, tracked ⟨oc, hoc, I.freeC x c hc⟩ hs, by simpa using I.len⟩ ⟨c, hs, .inr hc⟩
    · exact (hs.2 b (Nat.ne_of_lt (Nat.lt_of_lt_of_le (Heap.lt_size e) (I.ok.cab x c hfn hc)))).trans (I.base.keep b o e n hb hx)
    · obtain ⟨sl, e1⟩ := I.base.slot b o e n hb hx
      exact ⟨sl, (hs.2 b (Nat.ne_of_lt (Nat.lt_of_lt_of_le (Heap.lt_size e) (I.ok.cab x c hfn hc)))).trans e1⟩
    · obtain ⟨o', e1⟩ := I.base.there b o e hx
      exact ⟨o', (hs.2 b (Nat.ne_of_lt (Nat.lt_of_lt_of_le (Heap.lt_size e) (I.ok.cab x c hfn hc)))).trans e1⟩
    · by_cases hj : j = i
      · subst hj
        rw [hi] at e1; cases e1
        rw [List.getElem?_set_self hiσ] at e2
        cases e2
        exact ⟨u, r, .inr ⟨.inl hk, c, hc, hc'⟩⟩
      · rw [List.getElem?_set_ne (Ne.symm hj)] at e2
        obtain ⟨u', r', q⟩ := hl j y v' e1 e2 e3
        refine ⟨u', r', ?_⟩
        rcases q with q | ⟨k, c', e, z'⟩
        · exact .inl q
        · refine .inr ⟨k, c', e, z'.sameBut hs ?_⟩
          rintro rfl
          exact hj (nodup_ix hN e1 (I.ok.inj _ _ _ e hc ▸ hi))
    · by_cases hcc : c' = c
      · subst hcc; exact ⟨_, hc'⟩
      · obtain ⟨w2, z2⟩ := I.cell y c' e
        exact ⟨w2, z2.sameBut hs hcc⟩
    · obtain ⟨e, n, ne, nf, d⟩ := I.pin p hp
      refine ⟨(hs.2 p.1 ?_).trans e, n, ne, nf, d⟩
      intro q
      rw [q, hoc] at e
      have q' : oc = p.2 := Option.some.inj e
      exact d w' (by rw [← q']; exact hocd)
theorem store_ok {M : Model} {A : Around} {E : Value → Shared → Prop} {i : Nat} {x : Str} {v : V} {u : Value} {Q : Unit → Shared → Prop} (I : Inv X pins σ H s) (hN : X.N.Nodup) (hi : X.N[i]? = some x) (hx : Loc X.env.scope x) (r : RelV v u)
    (h : ∀ s', Inv X pins (σ.set i (some v)) H s' → Q () s') (hf : X.fn x = true ∨ X.env.scope.names.lookup x = some .local := by first | exact .inl rfl | exact .inr rfl | assumption) : wpAny M A (storeName X.env x u) Q E s :=
  store_ok2 I hN hi hx r (fun s' I' _ => h s' I') hf
/-- behind a call or a block, the state as it is -/
theorem Inv.call' {s' : Shared} {ch : List Addr} (I : Inv X pins σ H s) (ho : s'.os = s.os) (u : Un (frs X.stack) ch H H' s.heap s'.heap) (hok : HOk X.prog X.w H' s'.heap) (hg : AllBare s'.gens)
    (hch : ∀ b ∈ ch, (b ∈ X.ex ∨ X.s₀.heap.objs.size ≤ b) ∧ b ≠ X.env.locals ∧ (∀ x c, X.env.cells.lookup x = some c → c ≠ b) ∧ ∀ p ∈ X.pn ++ pins, p.1 ≠ b) : Inv X pins σ H' s' := by
  obtain ⟨h', g', d', t', o'⟩ := s'
  have e : o' = s.os := ho
  subst e
  exact I.call (g' := g') (t' := t') (d' := d') u hok hg hch
end

/-! ### the judgements -/
/-- an exception: its class, its own dict's address (where it has one), the abstract heap behind it -/
abbrev XK := Value → Option Addr → Hp → Prop
abbrev St := List (Option V)
abbrev VK := V → Hp → Prop
/-- an expression's reading; a test's; an argument list's -/
abbrev TE := St → Hp → VK → Prop
abbrev TT := St → Hp → (Bool → Hp → Prop) → Prop
abbrev TA := St → Hp → (List V → Hp → Prop) → Prop
/-- what is wanted behind a statement -/
structure Ends where
  nx : St → Hp → Prop
  rt : VK
  bk : St → Hp → Prop := fun _ _ => False
  ct : St → Hp → Prop := fun _ _ => False
abbrev TS := Ends → St → Hp → Prop

def EP (X : Cx) (pins : List (Addr × Obj)) (σ : St) (Q : VK) (u : Value) (s' : Shared) : Prop := ∃ v H', Inv X pins σ H' s' ∧ RelV v u ∧ Q v H'
def TP (X : Cx) (pins : List (Addr × Obj)) (σ : St) (Q : Bool → Hp → Prop) (b : Bool) (s' : Shared) : Prop := ∃ H', Inv X pins σ H' s' ∧ Q b H'
def AP (X : Cx) (pins : List (Addr × Obj)) (σ : St) (Q : List V → Hp → Prop) (us : List Value) (s' : Shared) : Prop := ∃ vs H', Inv X pins σ H' s' ∧ Vals vs us ∧ Q vs H'
def SP (X : Cx) (pins : List (Addr × Obj)) (D : Ends) (f : Flow) (s' : Shared) : Prop :=
  match f with
  | .next => ∃ σ' H', Inv X pins σ' H' s' ∧ D.nx σ' H'
  | .brk => ∃ σ' H', Inv X pins σ' H' s' ∧ D.bk σ' H'
  | .cont => ∃ σ' H', Inv X pins σ' H' s' ∧ D.ct σ' H'
  | .ret u => ∃ v σ' H', Inv X pins σ' H' s' ∧ RelV v u ∧ D.rt v H'

def PE (X : Cx) (e : Expr) (t : TE) : Prop :=
  ∀ (pins : List (Addr × Obj)) (s : Shared) (σ : St) (H : Hp) (Q : VK), Inv X pins σ H s → t σ H Q → wpAny (model X.prog X.w) X.A (eval e X.env) (EP X pins σ Q) X.xe s
def PT (X : Cx) (e : Expr) (t : TT) : Prop :=
  ∀ (pins : List (Addr × Obj)) (s : Shared) (σ : St) (H : Hp) (Q : Bool → Hp → Prop), Inv X pins σ H s → t σ H Q → wpAny (model X.prog X.w) X.A (isTrue e X.env (eval e X.env)) (TP X pins σ Q) X.xe s
/-- a test whatever its 'whole' is (and, or) -/
def PW (X : Cx) (e : Expr) (t : TT) : Prop :=
  ∀ (whole : Sem Value) (pins : List (Addr × Obj)) (s : Shared) (σ : St) (H : Hp) (Q : Bool → Hp → Prop), Inv X pins σ H s → t σ H Q → wpAny (model X.prog X.w) X.A (isTrue e X.env whole) (TP X pins σ Q) X.xe s
theorem PW.pt {X : Cx} {e : Expr} {t : TT} (h : PW X e t) : PT X e t := h _
/-- an argument list (no star), from the left -/
def PA (X : Cx) (es : List Expr) (t : TA) : Prop :=
  ∀ (pos : Pos) (pins : List (Addr × Obj)) (s : Shared) (σ : St) (H : Hp) (Q : List V → Hp → Prop), Inv X pins σ H s → t σ H Q → wpAny (model X.prog X.w) X.A (spliced (backTo pos (starEach es X.env))) (AP X pins σ Q) X.xe s
def PS (X : Cx) (st : Stmt) (t : TS) : Prop :=
  ∀ (pins : List (Addr × Obj)) (s : Shared) (σ : St) (H : Hp) (D : Ends), Inv X pins σ H s → t D σ H → wpAny (model X.prog X.w) X.A (exec st X.env) (SP X pins D) X.xe s
def PSs (X : Cx) (st : List Stmt) (t : TS) : Prop :=
  ∀ (pins : List (Addr × Obj)) (s : Shared) (σ : St) (H : Hp) (D : Ends), Inv X pins σ H s → t D σ H → wpAny (model X.prog X.w) X.A (execs st X.env) (SP X pins D) X.xe s
/-- weaken the end -/
theorem thn {α : Type} {t : Sem α} {Q Q' : α → Shared → Prop} {M : Model} {A : Around} {E : Value → Shared → Prop} {s : Shared} (h : wpAny M A t Q E s) (hQ : ∀ a s, Q a s → Q' a s) : wpAny M A t Q' E s := wpAny_mono h hQ fun _ _ x => x
end L2

namespace L2
open PySem PySem.Spec PyProof.Rows
section
variable {X : Cx}

/-! ### names and constants -/
def tVar (i : Nat) : TE := fun σ H Q => ∃ v, σ[i]? = some (some v) ∧ Q v H
def tC (v : V) : TE := fun _ H Q => Q v H
theorem pe_var {i : Nat} {x : Str} {pos : Pos} (hN : X.N[i]? = some x) (hv : Vis X.env.scope x) (hd : (x == ("__debug__" : Str)) = false := by decide) (hcd : (x == ("__classdict__" : Str)) = false := by decide) : PE X (.Name x pos) (tVar i) := by
  intro pins s σ H Q I h
  obtain ⟨v, e, h⟩ := h
  obtain ⟨m, hn, hl⟩ := I.loc
  obtain ⟨u, r, l⟩ := hl i x v hN e hv
  have fin : EP X pins σ Q u s := ⟨v, H, I, r, h⟩
  rcases l with ⟨hk, hm⟩ | ⟨hk, c, hc, hcell⟩
  · exact wpAny_Name (wpAny_loadName_local I.ok.kind hk hn hm fin) hd
  · rcases hk with hk | hk
    · exact wpAny_Name (wpAny_loadName_cell I.ok.kind hk hc hcell fin) hd
    · exact wpAny_Name (wpAny_loadName_free I.ok.kind hk hc hcell fin hcd) hd
theorem pe_int {i j pos} : PE X (.Constant (.int i) j pos) (tC (.int i)) := fun _ _ _ H _ I h => wpAny_Constant_int ⟨.int i, H, I.tok _, ⟨_, rfl⟩, h⟩
theorem pe_bl {b j pos} : PE X (.Constant (.bool b) j pos) (tC (.bl b)) := fun _ _ _ H _ I h => Constant_bool ⟨.bl b, H, I, rfl, h⟩
theorem pe_non {j pos} : PE X (.Constant .none j pos) (tC .non) := fun _ _ _ H _ I h => Constant_none ⟨.non, H, I, rfl, h⟩
theorem pe_str {x j pos} : PE X (.Constant (.str x) j pos) (tC (.str x)) := fun _ _ _ H _ I h => Calls.Constant_str ⟨.str x, H, I.tok _, ⟨_, rfl⟩, h⟩

/-- a global name of the def -/
def Gl (X : Cx) (x : Str) : Prop := X.env.kindOf x = some .globalImplicit
theorem ld_glob {E : Value → Shared → Prop} {pins : List (Addr × Obj)} {s : Shared} {σ : St} {H : Hp} {x : Str} {u : Value} {pos : Pos} {Q : Value → Shared → Prop} (I : Inv X pins σ H s) (hg : Gl X x) (hm : X.mg x = some u) (h : Q u s)
    (hd : (x == ("__debug__" : Str)) = false := by decide) : wpAny (model X.prog X.w) X.A (eval (.Name x pos) X.env) Q E s :=
  Calls.Name_function_global I.ok.kind hg (Calls.loadGlobal_global (by rw [I.ok.glob]; exact I.mod.glob.keeps I.bk) hm h) hd
theorem ld_blt {E : Value → Shared → Prop} {pins : List (Addr × Obj)} {s : Shared} {σ : St} {H : Hp} {x : Str} {u : Value} {pos : Pos} {Q : Value → Shared → Prop} (I : Inv X pins σ H s) (hg : Gl X x) (hm : X.mg x = none) (hv : bootBuiltins x = some u) (h : Q u s)
    (hn : x ≠ "__name__" := by decide) (hd : (x == ("__debug__" : Str)) = false := by decide) : wpAny (model X.prog X.w) X.A (eval (.Name x pos) X.env) Q E s := by
  obtain ⟨mb, h1, h2⟩ := I.mod.blt
  exact Calls.Name_function_global I.ok.kind hg (Calls.loadGlobal_builtin (by rw [I.ok.glob]; exact I.mod.glob.keeps I.bk) hm (by rw [I.ok.blt]; exact h1.keeps I.bk) ((h2 x hn).trans hv) h) hd
/-- a module's constant, a class, a function, as a value -/
theorem pe_glob {x : Str} {v : V} {u : Value} {pos : Pos} (hg : Gl X x) (hm : X.mg x = some u) (r : RelV v u) (hd : (x == ("__debug__" : Str)) = false := by decide) : PE X (.Name x pos) (tC v) :=
  fun _ _ _ H _ I h => ld_glob I hg hm ⟨v, H, I, r, h⟩ hd
theorem pe_bltn {x : Str} {v : V} {u : Value} {pos : Pos} (hg : Gl X x) (hm : X.mg x = none) (hv : bootBuiltins x = some u) (r : RelV v u) (hn : x ≠ "__name__" := by decide) (hd : (x == ("__debug__" : Str)) = false := by decide) : PE X (.Name x pos) (tC v) :=
  fun _ _ _ H _ I h => ld_blt I hg hm hv ⟨v, H, I, r, h⟩ hn hd

/-! ### arithmetic -/
variable {a b : Expr} {ta tb : TE} {pos : Pos}
/-! ### comparisons -/
/-- a comparison as a value, as a test -/
def tB (t : TE) : TT := fun σ H Q => t σ H fun x H1 => ∃ c, x = .bl c ∧ Q c H1
/-- an expression whose value is a bool, as a test -/
theorem pt_val {e : Expr} {t : TE} (h : PE X e t) (he : ∀ whole, isTrue e X.env whole = (do let v ← whole; standAt e.pos; holding [v] (truthy v)) := by intro _; rfl) : PT X e (tB t) := by
  intro pins s σ H Q I hw
  refine isTrue_plain (thn (h pins s σ H _ I hw) fun v s1 ⟨x, H1, I1, r1, q1⟩ => ?_) (he _)
  obtain ⟨d, rfl, q⟩ := q1
  cases r1
  exact wpAny_truthy_bool ⟨H1, I1, q⟩

/-! ### and, or, not -/
variable {tA tB' : TT} {rest : List Expr}
def tAnd (t u : TT) : TT := fun σ H Q => t σ H fun c H1 => if c = true then u σ H1 Q else Q false H1
def tOr (t u : TT) : TT := fun σ H Q => t σ H fun c H1 => if c = true then Q true H1 else u σ H1 Q
def tNot (t : TT) : TT := fun σ H Q => t σ H fun c H1 => Q (!c) H1
theorem pw_or1 (ha : PT X a tA) : PW X (.BoolOp .Or [a] pos) tA := by
  intro wh pins s σ H Q I h
  refine isTrue_or (thn (ha pins s σ H Q I h) fun c s1 e => ?_)
  cases c with
  | false => exact isTrue_or_nil e
  | true => exact e
theorem pw_or (ha : PT X a tA) (hb : PW X (.BoolOp .Or (b :: rest) pos) tB') : PW X (.BoolOp .Or (a :: b :: rest) pos) (tOr tA tB') := by
  intro wh pins s σ H Q I h
  refine isTrue_or (thn (ha pins s σ H _ I h) fun c s1 ⟨H1, I1, q1⟩ => ?_)
  cases c with
  | true => exact ⟨H1, I1, q1⟩
  | false => exact hb wh pins s1 σ H1 Q I1 q1
theorem pt_not (ha : PT X a tA) : PT X (.UnaryOp .Not a pos) (tNot tA) := by
  intro pins s σ H Q I h
  exact isTrue_not (ha pins s σ H (fun c H1 => Q (!c) H1) I h)
/-- .. as values (bools) -/
def tAndV (ta tb : TE) : TE := fun σ H Q => ta σ H fun x H1 => ∃ c, x = .bl c ∧ if c = true then tb σ H1 Q else Q (.bl false) H1
def tOrV (ta tb : TE) : TE := fun σ H Q => ta σ H fun x H1 => ∃ c, x = .bl c ∧ if c = true then Q (.bl true) H1 else tb σ H1 Q
def tNotV (ta : TE) : TE := fun σ H Q => ta σ H fun x H1 => ∃ c, x = .bl c ∧ Q (.bl (!c)) H1
theorem pe_one {op} {t : TE} (h : PE X a t) : PE X (.BoolOp op [a] pos) t := fun pins s σ H Q I hw => BoolOp_one (h pins s σ H Q I hw)
theorem pe_and (ha : PE X a ta) (hb : PE X (.BoolOp .And (b :: rest) pos) tb) : PE X (.BoolOp .And (a :: b :: rest) pos) (tAndV ta tb) := by
  intro pins s σ H Q I h
  refine BoolOp_and (thn (ha pins s σ H _ I h) fun v s1 ⟨x, H1, I1, r1, q1⟩ => ?_)
  obtain ⟨c, rfl, q1⟩ := q1
  cases r1
  refine wpAny_truthy_bool ?_
  cases c with
  | true => exact hb pins s1 σ H1 Q I1 q1
  | false => exact ⟨.bl false, H1, I1, rfl, q1⟩
theorem pe_not (ha : PE X a ta) : PE X (.UnaryOp .Not a pos) (tNotV ta) := by
  intro pins s σ H Q I h
  refine UnaryOp_ (thn (ha pins s σ H _ I h) fun v s1 ⟨x, H1, I1, r1, q1⟩ => ?_)
  obtain ⟨c, rfl, q1⟩ := q1
  cases r1
  exact not_of (wpAny_truthy_bool ⟨.bl (!c), H1, I1, rfl, q1⟩)
/-- a if t else b -/
def tIf (t : TT) (ta tb : TE) : TE := fun σ H Q => t σ H fun c H1 => if c = true then ta σ H1 Q else tb σ H1 Q
end
end L2

namespace L2
open PySem PySem.Spec PyProof.Rows

/-! ### a list, a tuple that is read: tracked, frozen, or an object of the module -/
def SqL (K : PySem.W.Frag) (H : Hp) (a : Addr) (xs : List V) : Prop :=
  Rd H a (.lst xs) ∨
    ∃ (o : Obj) (its : Array Value) (n : Nat), K.lookup a = some o ∧ o.cls = .type "list" ∧ o.dict = none ∧ o.data = .seq its n ∧ its.size ≤ sizeLine ∧ Vals xs its.toList
def SqT (K : PySem.W.Frag) (H : Hp) (a : Addr) (xs : List V) : Prop :=
  Rd H a (.tup xs) ∨
    ∃ (o : Obj) (its : Array Value) (n : Nat), K.lookup a = some o ∧ o.cls = .type "tuple" ∧ o.data = .seq its n ∧ its.size ≤ sizeLine ∧ Vals xs its.toList
def absV : Value → Option V
  | .none => some .non
  | .bool b => some (.bl b)
  | .int i _ => some (.int i)
  | .str x _ => some (.str x)
  | .bytes b _ => some (.byt b)
  | .float b _ => some (.flt b)
  | .ref a => some (.ref a)
  | .type n => some (.ty n)
  | _ => none
theorem RelV.abs {x : V} {u : Value} (r : RelV x u) : absV u = some x := by
  cases x with
  | non => cases r; rfl
  | bl _ => cases r; rfl
  | int _ => obtain ⟨t, rfl⟩ := r; rfl
  | str _ => obtain ⟨t, rfl⟩ := r; rfl
  | byt _ => obtain ⟨t, rfl⟩ := r; rfl
  | flt _ => obtain ⟨t, rfl⟩ := r; rfl
  | ref _ => cases r; rfl
  | ty _ => cases r; rfl
theorem RelV.inj {x y : V} {u : Value} (r : RelV x u) (q : RelV y u) : x = y := Option.some.inj (r.abs.symm.trans q.abs)
theorem Vals.inj : ∀ {xs ys : List V} {us : List Value}, Vals xs us → Vals ys us → xs = ys
  | _, _, _, .nil, .nil => rfl
  | _, _, _, .cons r t, .cons r' t' => by rw [r.inj r', Vals.inj t t']
section
variable {X : Cx} {pins : List (Addr × Obj)} {σ : St} {H : Hp} {s : Shared} {a : Addr} {xs ys : List V}
theorem SqL.of {K : PySem.W.Frag} (h : H a = some (.lst xs)) : SqL K H a xs := .inl (.inl h)
theorem SqT.of {K : PySem.W.Frag} (h : H a = some (.tup xs)) : SqT K H a xs := .inl (.inl h)
theorem Inv.list (I : Inv X pins σ H s) (h : SqL X.K H a xs) : ∃ its : List Value, Vals xs its ∧ PlainL s.heap a its.toArray ∧ xs.length ≤ sizeLine := by
  rcases h with h | ⟨o, its, n, hk, hc, hd, hs, hz, r⟩
  · obtain ⟨z, its, n, r, e⟩ := h.ok I.hok
    exact ⟨its, r, ⟨_, n, e, rfl, rfl, rfl⟩, z⟩
  · refine ⟨its.toList, r, ⟨o, n, I.kIn a o hk, hc, hd, by simpa using hs⟩, ?_⟩
    have e := r.length
    simp only [Array.length_toList] at e
    omega
theorem Inv.tuple (I : Inv X pins σ H s) (h : SqT X.K H a xs) : ∃ its : List Value, Vals xs its ∧ IsTup s.heap a its.toArray ∧ xs.length ≤ sizeLine := by
  rcases h with h | ⟨o, its, n, hk, hc, hs, hz, r⟩
  · obtain ⟨z, its, r, p⟩ := h.ok I.hok
    exact ⟨its, r, p, z⟩
  · refine ⟨its.toList, r, ⟨o, I.kIn a o hk, hc, n, by simpa using hs⟩, ?_⟩
    have e := r.length
    simp only [Array.length_toList] at e
    omega
theorem Inv.list_inj (I : Inv X pins σ H s) (h : SqL X.K H a xs) (h' : SqL X.K H a ys) : xs = ys := by
  obtain ⟨its, r, ⟨o, n, e, _, _, d⟩, _⟩ := I.list h
  obtain ⟨its', r', ⟨o', n', e', _, _, d'⟩, _⟩ := I.list h'
  rw [e] at e'; cases e'
  rw [d] at d'
  injection d' with d1 _
  have : its = its' := by simpa using congrArg Array.toList d1
  subst this
  exact r.inj r'
end

/-! ### another wish about exceptions -/
abbrev Cx.wish (X : Cx) (E : Value → Shared → Prop) : Cx := { X with xe := E }
/-- no exception leaves -/
abbrev Cx.nox (X : Cx) : Cx := X.wish fun _ _ => False
theorem Cx.Ok.wish {X : Cx} (ok : X.Ok) (E : Value → Shared → Prop) : (X.wish E).Ok :=
  ⟨ok.mod, ok.kind, ok.glob, ok.blt, ok.above, ok.inj, ok.has, ok.cab, ok.hd, ok.frames, ok.stk, ok.exf, ok.bs, ok.bsz, ok.noex, ok.exfs, ok.funs, ok.frf⟩
theorem Cx.Ok.unwish {X : Cx} {E : Value → Shared → Prop} (ok : (X.wish E).Ok) : X.Ok :=
  ⟨ok.mod, ok.kind, ok.glob, ok.blt, ok.above, ok.inj, ok.has, ok.cab, ok.hd, ok.frames, ok.stk, ok.exf, ok.bs, ok.bsz, ok.noex, ok.exfs, ok.funs, ok.frf⟩
section
variable {X : Cx} {pins : List (Addr × Obj)} {σ : St} {H : Hp} {s : Shared} {E : Value → Shared → Prop}
theorem Inv.wish (I : Inv X pins σ H s) (E : Value → Shared → Prop) : Inv (X.wish E) pins σ H s := ⟨I.ok.wish E, I.os, I.bare, I.base, I.loc, I.cell, I.free, I.freeC, I.pin, I.hok, I.len⟩
theorem Inv.unwish (I : Inv (X.wish E) pins σ H s) : Inv X pins σ H s := ⟨I.ok.unwish, I.os, I.bare, I.base, I.loc, I.cell, I.free, I.freeC, I.pin, I.hok, I.len⟩
theorem SP.unwish {D : Ends} {f : Flow} {s' : Shared} (h : SP (X.wish E) pins D f s') : SP X pins D f s' := by
  cases f with
  | next => obtain ⟨σ', H', I, q⟩ := h; exact ⟨σ', H', I.unwish, q⟩
  | brk => obtain ⟨σ', H', I, q⟩ := h; exact ⟨σ', H', I.unwish, q⟩
  | cont => obtain ⟨σ', H', I, q⟩ := h; exact ⟨σ', H', I.unwish, q⟩
  | ret u => obtain ⟨v, σ', H', I, r, q⟩ := h; exact ⟨v, σ', H', I.unwish, r, q⟩
theorem PE.nox {e : Expr} {t : TE} (h : PE X.nox e t) : PE X e t := fun pins s σ H Q I hw =>
  wpAny_mono (h pins s σ H Q (I.wish _) hw) (fun _ _ ⟨v, H', I', r, q⟩ => ⟨v, H', I'.unwish, r, q⟩) fun _ _ z => False.elim z
theorem PT.nox {e : Expr} {t : TT} (h : PT X.nox e t) : PT X e t := fun pins s σ H Q I hw =>
  wpAny_mono (h pins s σ H Q (I.wish _) hw) (fun _ _ ⟨H', I', q⟩ => ⟨H', I'.unwish, q⟩) fun _ _ z => False.elim z
theorem PSs.nox {st : List Stmt} {t : TS} (h : PSs X.nox st t) : PSs X st t := fun pins s σ H D I hw =>
  wpAny_mono (h pins s σ H D (I.wish _) hw) (fun _ _ q => q.unwish) fun _ _ z => False.elim z
end

/-! ### blocks and small statements -/
section
variable {X : Cx} {st : Stmt} {rest : List Stmt} {t u : TS} {e : Expr} {te : TE} {pos : Pos}
def tNext : TS := fun D σ H => D.nx σ H
def tSeq (t u : TS) : TS := fun D σ H => t { D with nx := u D } σ H
theorem pss_nil : PSs X [] tNext := fun _ _ σ H _ I h => wpAny_execs_nil ⟨σ, H, I, h⟩
theorem pss_cons (h1 : PS X st t) (h2 : PSs X rest u) : PSs X (st :: rest) (tSeq t u) := by
  intro pins s σ H D I h
  refine wpAny_execs_cons (thn (h1 pins s σ H { D with nx := u D } I h) fun f s1 q => ?_)
  cases f with
  | next =>
    obtain ⟨σ', H', I', q⟩ := q
    exact h2 pins s1 σ' H' D I' q
  | ret v => exact q
  | brk => exact q
  | cont => exact q
theorem pss_one (h1 : PS X st t) : PSs X [st] t := by
  intro pins s σ H D I h
  refine wpAny_execs_cons (thn (h1 pins s σ H D I h) fun f s1 q => ?_)
  cases f with
  | next => exact wpAny_execs_nil q
  | ret v => exact q
  | brk => exact q
  | cont => exact q
def tBreak : TS := fun D σ H => D.bk σ H
def tCont : TS := fun D σ H => D.ct σ H
/-- in a def's body nothing is shown -/
theorem Inv.quiet {pins : List (Addr × Obj)} {σ : St} {H : Hp} {s : Shared} (I : Inv X pins σ H s) : interactive X.env = false := by simp [interactive, I.ok.kind]
/-- an expression whose value is dropped -/
def tDrop (te : TE) : TS := fun D σ H => te σ H fun _ H1 => D.nx σ H1
theorem ps_expr (he : PE X e te) (hs : swapsWith e none pos.line X.env = pure false := by rfl) : PS X (.Expr e pos) (tDrop te) := by
  intro pins s σ H D I h
  exact wpAny_Expr_any (thn (he pins s σ H _ I h) fun v s1 ⟨x, H1, I1, r1, q1⟩ => ⟨σ, H1, I1, q1⟩) I.quiet hs
def tRet (te : TE) : TS := fun D σ H => te σ H D.rt
theorem ps_ret (he : PE X e te) : PS X (.Return (some e) pos) (tRet te) := by
  intro pins s σ H D I h
  exact wpAny_Return_some (thn (he pins s σ H _ I h) fun v s1 ⟨x, H1, I1, r1, q1⟩ => ⟨x, σ, H1, I1, r1, q1⟩)
def tRetN : TS := fun D _ H => D.rt .non H
def tIfS (c : TT) (t u : TS) : TS := fun D σ H => c σ H fun b H1 => if b = true then t D σ H1 else u D σ H1
theorem ps_if {c : Expr} {a b : List Stmt} {tc : TT} (hc : PT X c tc) (ha : PSs X a t) (hb : PSs X b u) : PS X (.If c a b pos) (tIfS tc t u) := by
  intro pins s σ H D I h
  refine wpAny_If (thn (hc pins s σ H _ I h) fun d s1 ⟨H1, I1, q1⟩ => ?_)
  cases d with
  | true => exact ha pins s1 σ H1 D I1 q1
  | false => exact hb pins s1 σ H1 D I1 q1
/-- code that the proof never comes to -/
def tNever : TS := fun _ _ _ => False
theorem ps_never : PS X st tNever := fun _ _ _ _ _ _ h => h.elim
end

/-! ### targets -/
abbrev TG := V → St → Hp → (St → Hp → Prop) → Prop
abbrev TGs := List V → St → Hp → (St → Hp → Prop) → Prop
def PG (X : Cx) (target : Expr) (t : TG) : Prop :=
  ∀ (pins : List (Addr × Obj)) (s : Shared) (σ : St) (H : Hp) (v : V) (u : Value) (Q : St → Hp → Prop), Inv X pins σ H s → RelV v u → t v σ H Q →
    wpAny (model X.prog X.w) X.A (assign target X.env u) (fun _ s' => ∃ σ' H', Inv X pins σ' H' s' ∧ Q σ' H') X.xe s
/-- several targets, one after another -/
def PGs (X : Cx) (ts : List Expr) (t : TGs) : Prop :=
  ∀ (pins : List (Addr × Obj)) (s : Shared) (σ : St) (H : Hp) (vs : List V) (us : List Value) (Q : St → Hp → Prop), Inv X pins σ H s → Vals vs us → t vs σ H Q →
    wpAny (model X.prog X.w) X.A (assignInOrder ((assignEach ts X.env).map (·.2)) us) (fun _ s' => ∃ σ' H', Inv X pins σ' H' s' ∧ Q σ' H') X.xe s
/-- o[i] = v, by values -/
abbrev TSet := V → V → V → Hp → (Hp → Prop) → Prop
/-- a op= b, by values -/
abbrev TIp := V → V → Hp → VK → Prop
section
variable {X : Cx} {pos : Pos}
def gName (i : Nat) : TG := fun v σ H Q => Q (σ.set i (some v)) H
theorem pg_name {i : Nat} {x : Str} (hN : X.N.Nodup) (hi : X.N[i]? = some x) (hx : Loc X.env.scope x) (hf : X.fn x = true ∨ X.env.scope.names.lookup x = some .local := by first | exact .inl rfl | exact .inr rfl | assumption) : PG X (.Name x pos) (gName i) := by
  intro pins s σ H v u Q I r h
  exact wpAny_assign_Name (store_ok I hN hi hx r (fun s' I' => ⟨_, H, I', h⟩) hf)
def gNil : TGs := fun vs σ H Q => vs = [] ∧ Q σ H
def gCons (t : TG) (u : TGs) : TGs := fun vs σ H Q => ∃ v r, vs = v :: r ∧ t v σ H fun σ' H' => u r σ' H' Q
theorem pgs_nil : PGs X [] gNil := by
  intro pins s σ H vs us Q I r h
  obtain ⟨e, h⟩ := h
  subst e
  cases r
  exact assignInOrder_nil ⟨σ, H, I, h⟩
theorem pgs_cons {e : Expr} {es : List Expr} {t : TG} {u : TGs} (h1 : PG X e t) (h2 : PGs X es u)
    (hs : (assignEach (e :: es) X.env).map (·.2) = assign e X.env :: (assignEach es X.env).map (·.2) := by rfl) : PGs X (e :: es) (gCons t u) := by
  intro pins s σ H vs us Q I r h
  obtain ⟨v, vr, e1, h⟩ := h
  subst e1
  cases r with
  | cons r rr =>
    rw [hs]
    refine assignInOrder_cons (thn (h1 pins s σ H _ _ _ I r h) fun _ s1 ⟨σ1, H1, I1, q1⟩ => ?_)
    exact h2 pins s1 σ1 H1 _ _ Q I1 rr q1
/-- (a, b, ..) = a tuple of that length -/
def gTup (K : PySem.W.Frag) (n : Nat) (t : TGs) : TG := fun v σ H Q => ∃ a xs, v = .ref a ∧ SqT K H a xs ∧ xs.length = n ∧ t xs σ H Q
theorem pg_tup {es : List Expr} {k : Nat} {t : TGs} {n : Nat} (hc : X.calm = true) (h : PGs X es t)
    (hn : (assignEach es X.env).length = n := by rfl) (hst : (assignEach es X.env).findIdx? (·.1) = none := by rfl) : PG X (.Tuple es k pos) (gTup X.K n t) := by
  intro pins s σ H v u Q I r hw
  obtain ⟨a, xs, e1, hq, hl, hw⟩ := hw
  subst e1
  cases r
  obtain ⟨its, rv, ht, hz⟩ := I.tuple hq
  refine assign_Tuple_tuple (I.ok.hd hc) ht (by simp [hn, ← hl, rv.length]) hst fun h' hx => ?_
  have I1 : Inv X pins σ H { s with heap := h' } := I.kept (t' := s.toks) fun b o e => hx b o (Nat.ne_of_lt (Heap.lt_size e)) e
  exact h pins _ σ H xs _ Q I1 (by simpa using rv) hw
/-- o[i] = .. -/
def gSub (to ti : TE) (t : TSet) : TG := fun v σ H Q => to σ H fun o H1 => ti σ H1 fun i H2 => t o i v H2 fun H3 => Q σ H3
/-- target = value -/
def tAsg (te : TE) (g : TG) : TS := fun D σ H => te σ H fun x H1 => g x σ H1 D.nx
/-- name = value -/
theorem ps_set {i : Nat} {x : Str} {e : Expr} {te : TE} {pos' : Pos} (hN : X.N.Nodup) (hi : X.N[i]? = some x) (hx : Loc X.env.scope x) (he : PE X e te) (hs : swapsWith e (some (.Name x pos')) pos.line X.env = pure false := by rfl) (hf : X.fn x = true ∨ X.env.scope.names.lookup x = some .local := by first | exact .inl rfl | exact .inr rfl | assumption) :
    PS X (.Assign [.Name x pos'] e pos) (tAsg te (gName i)) := by
  intro pins s σ H D I h
  refine wpAny_Assign_Name (thn (he pins s σ H _ I h) fun v s1 ⟨y, H1, I1, r1, q1⟩ => ?_) hs
  exact store_ok I1 hN hi hx r1 (fun s2 I2 => ⟨_, H1, I2, q1⟩) hf
/-- a, b = x, y with plain local names: stored from the right; the pair itself is not tracked (the opening rows as in PyProof/Rows/TupAssign.lean:23) -/
def tPar (i j : Nat) (ta : TA) : TS := fun D σ H => ta σ H fun vs H1 => ∃ v w, vs = [v, w] ∧ D.nx ((σ.set i (some v)).set j (some w)) H1
/-- name op= e -/
def tAug (i : Nat) (te : TE) (ti : TIp) : TS := fun D σ H => ∃ x, σ[i]? = some (some x) ∧ te σ H fun y H1 => ti x y H1 fun z H2 => D.nx (σ.set i (some z)) H2
/-- ints -/
def ipI (f : Int → Int → Int) : TIp := fun x y H Q => ∃ i j, x = .int i ∧ y = .int j ∧ Q (.int (f i j)) H
end

/-! ### while -/
section
variable {X : Cx} {pos : Pos}
/-- the invariant W with its measure -/
def tWhile (c : TT) (tb : TS) : TS := fun D σ H => ∃ W : Nat → St → Hp → Prop, (∃ m, W m σ H) ∧ ∀ m σ H, W m σ H →
  c σ H fun b H1 => if b = true then ∃ N : St → Hp → Prop, (∀ σ' H', N σ' H' → ∃ m', m' < m ∧ W m' σ' H') ∧ tb { D with nx := N, ct := N, bk := D.nx } σ H1 else D.nx σ H1
theorem ps_while {c : Expr} {body : List Stmt} {tc : TT} {tb : TS} (hp : PassesOwn (model X.prog X.w) X.A X.env X.xe) (hc : PT X c tc) (hb : PSs X body tb) : PS X (.While c body [] pos) (tWhile tc tb) := by
  intro pins s σ H D I h
  obtain ⟨W, ⟨m0, w0⟩, turn⟩ := h
  refine wpAny_While (codeAny_whileLoop (fun n s' => ∃ σ' H', Inv X pins σ' H' s' ∧ W n σ' H') ?_ m0 ⟨σ, H, I, w0⟩)
  rintro n s1 ⟨σ1, H1, I1, w1⟩
  refine wpAny_passesOwn hp (thn (hc pins s1 σ1 H1 _ I1 (turn n σ1 H1 w1)) fun b s2 ⟨H2, I2, q2⟩ => ?_)
  cases b with
  | true =>
    obtain ⟨N, hN, q2⟩ := q2
    rw [if_pos rfl]
    refine wpAny_passesOwn hp (thn (hb pins s2 σ1 H2 _ I2 q2) fun f s3 q3 => ?_)
    cases f with
    | next =>
      obtain ⟨σ3, H3, I3, n3⟩ := q3
      obtain ⟨m', hm, w3⟩ := hN σ3 H3 n3
      exact ⟨m', hm, σ3, H3, I3, w3⟩
    | cont =>
      obtain ⟨σ3, H3, I3, n3⟩ := q3
      obtain ⟨m', hm, w3⟩ := hN σ3 H3 n3
      exact ⟨m', hm, σ3, H3, I3, w3⟩
    | brk => exact q3
    | ret v => exact q3
  | false =>
    rw [if_neg Bool.false_ne_true]
    exact wpAny_execs_nil ⟨σ1, H2, I2, q2⟩
end

/-! ### what a loop or a comprehension walks -/
/-- at turn i: it yields x (the heap may grow), or it stops -/
structure It where
  go : Nat → Hp → Prop
  yld : Nat → Hp → V → Hp → Prop
  stop : Nat → Hp → Prop
/-- the iterator's own objects may turn: they are not the frame's, not pinned, younger than the entry (or a comprehension's own) -/
def FpOk (X : Cx) (pins : List (Addr × Obj)) (H : Hp) (b : Addr) : Prop :=
  H b = none ∧ b ≠ X.env.locals ∧ b ∉ X.fs ∧ (b ∈ X.ex ∨ X.s₀.heap.objs.size ≤ b) ∧ (∀ x c, X.env.cells.lookup x = some c → c ≠ b) ∧ ∀ p ∈ X.pn ++ pins, p.1 ≠ b
theorem Inv.fpOk {X : Cx} {pins : List (Addr × Obj)} {σ : St} {H H' : Hp} {s : Shared} {b : Addr} (I : Inv X pins σ H s) (hb : s.heap.objs.size ≤ b) (hn : H' b = none) : FpOk X pins H' b := by
  refine ⟨hn, Nat.ne_of_gt (Nat.lt_of_lt_of_le I.lt hb), I.nofs hb, .inr (Nat.le_trans I.sz hb), fun x c e z => ?_, fun p hp z => ?_⟩
  · obtain ⟨v, q⟩ := I.cell x c e
    exact absurd (Nat.lt_of_lt_of_le q.lt (by rw [z]; exact hb)) (Nat.lt_irrefl _)
  · exact absurd (Nat.lt_of_lt_of_le (Heap.lt_size (I.pin p hp).1) (by rw [z]; exact hb)) (Nat.lt_irrefl _)
structure Turn (P : Program) (w : World) (K : PySem.W.Frag) (tg : Expr) (J : It) (fp : List Addr) (it : Addr) (tn : Nat → Heap → Prop) : Prop where
  mem : it ∈ fp
  obj : ∀ i h, tn i h → ∀ b ∈ fp, ∃ o, h.get? b = some o ∧ ∀ v, o.data ≠ .cell v
  keep : ∀ i h h', tn i h → (∀ b ∈ fp, ∀ o, h.get? b = some o → h'.get? b = some o) → tn i h'
  item : ∀ (X : Cx), X.prog = P → X.w = w → X.K = K → X.calm = true → ∀ (i : Nat) (pins : List (Addr × Obj)) (s : Shared) (σ : St) (H : Hp) (E : Value → Shared → Prop), Inv X pins σ H s → (∀ b ∈ fp, FpOk X pins H b) → tn i s.heap → J.go i H →
    wpAny (model P w) X.A (pyNext (.ref it)) (fun r s1 => ∃ u, r = some u ∧
      wpAny (model P w) X.A (letOwnedTupleGo tg (.ref it) u) (fun _ s2 => ∃ x H', Inv X pins σ H' s2 ∧ RelV x u ∧ J.yld i H x H' ∧ tn (i + 1) s2.heap ∧ ∀ b ∈ fp, H' b = none) E s1) E s
  done : ∀ (X : Cx), X.prog = P → X.w = w → X.K = K → X.calm = true → ∀ (i : Nat) (pins : List (Addr × Obj)) (s : Shared) (σ : St) (H : Hp) (E : Value → Shared → Prop), Inv X pins σ H s → (∀ b ∈ fp, FpOk X pins H b) → tn i s.heap → J.stop i H →
    wpAny (model P w) X.A (pyNext (.ref it)) (fun r s1 => r = none ∧ Inv X pins σ H s1) E s
  self : ∀ (A : Around) (i : Nat) (s : Shared) (Q : Value → Shared → Prop) (E : Value → Shared → Prop), tn i s.heap → Q (.ref it) s → wpAny (model P w) A (pyIter (.ref it)) Q E s
abbrev TI := St → Hp → (It → Hp → Prop) → Prop
/-- an iterator has come -/
def PIE (X : Cx) (pins : List (Addr × Obj)) (σ : St) (tg : Expr) (R : It → Hp → Prop) (itv : Value) (s2 : Shared) : Prop :=
  ∃ (it : Addr) (fp : List Addr) (tn : Nat → Heap → Prop) (J : It) (H' : Hp), itv = .ref it ∧ Inv X pins σ H' s2 ∧ Turn X.prog X.w X.K tg J fp it tn ∧ tn 0 s2.heap ∧ (∀ b ∈ fp, FpOk X pins H' b) ∧ R J H'
def PI (X : Cx) (tg iter : Expr) (wi : TI) : Prop :=
  ∀ (pins : List (Addr × Obj)) (s : Shared) (σ : St) (H : Hp) (R : It → Hp → Prop), Inv X pins σ H s → wi σ H R →
    wpAny (model X.prog X.w) X.A (eval iter X.env) (fun v s1 => wpAny (model X.prog X.w) X.A (pyIter v) (PIE X pins σ tg R) X.xe s1) X.xe s

/-- the step ahead of the store is nothing for an iterator that keeps no tuple -/
theorem go_of {M : Model} {A : Around} {E : Value → Shared → Prop} {s : Shared} {tg : Expr} {it : Addr} {u : Value} {o : Obj} {n : String} {vs : Array Value} {Q : Unit → Shared → Prop} (ho : s.heap.get? it = some o) (hc : o.cls = .type n) (hd : o.data = .fields vs)
    (hn : ["enumerate", "zip", "dict_itemiterator", "dict_reverseitemiterator", "odict_iterator", "itertools.zip_longest", "itertools.pairwise"].contains n = false) (hQ : Q () s) : wpAny M A (letOwnedTupleGo tg (.ref it) u) Q E s := by
  unfold letOwnedTupleGo
  cases tg <;> first
    | exact wpAny_pure hQ
    | (cases u <;> first
        | exact wpAny_pure hQ
        | (refine wpAny_bind (wpAny_load ho ?_)
           rw [hc, hd]
           show wpAny M A (if (["enumerate", "zip", "dict_itemiterator", "dict_reverseitemiterator", "odict_iterator", "itertools.zip_longest", "itertools.pairwise"].contains n && vs[0]? == some (rawInt _)) = true then _ else _) Q E s
           rw [if_neg (by intro h; rw [hn, Bool.false_and] at h; cases h)]
           exact wpAny_pure hQ))

/-- the list at a, as it stands at each turn (a loop may append to it) -/
def Itl (K : PySem.W.Frag) (a : Addr) : It :=
  ⟨fun i H => ∃ xs x, SqL K H a xs ∧ xs[i]? = some x, fun i H x H' => H' = H ∧ ∀ xs, SqL K H a xs → xs[i]? = some x, fun i H => ∃ xs, SqL K H a xs ∧ xs.length ≤ i⟩
def Itt (K : PySem.W.Frag) (a : Addr) : It :=
  ⟨fun i H => ∃ xs x, SqT K H a xs ∧ xs[i]? = some x, fun i H x H' => H' = H ∧ ∀ xs, SqT K H a xs → xs[i]? = some x, fun i H => ∃ xs, SqT K H a xs ∧ xs.length ≤ i⟩
/-- lo, lo + 1, .. (n of them) -/
def Itr (lo : Int) (n : Nat) : It := ⟨fun i _ => i < n, fun i H x H' => H' = H ∧ x = .int (lo + i), fun i _ => n ≤ i⟩
theorem turn_list {P : Program} {w : World} {K : PySem.W.Frag} {tg : Expr} (a it : Addr) : Turn P w K tg (Itl K a) [it] it (fun i h => h.IsListIter it a i) where
  mem := by simp
  obj := fun i h st b hb => by
    have e : b = it := by simpa using hb
    subst e
    obtain ⟨o, e, c, d⟩ := st
    exact ⟨o, e, fun v z => by rw [d] at z; cases z⟩
  keep := fun i h h' st k => st.at fun o e => k it (by simp) o e
  item := by
    intro X hP hw hK hc i pins s σ H E I hf st hg
    subst hP hw hK
    obtain ⟨xs, x, hq, hx⟩ := hg
    obtain ⟨its, rv, p, hz⟩ := I.list hq
    obtain ⟨u, hu, ru⟩ := rv.get hx
    obtain ⟨f0, f1, f2, f3, f4, f5⟩ := hf it (by simp)
    refine wpAny_pyNext_list_item st p.isList (x := u) (by simpa using hu) fun h' st' sb => ?_
    have I1 : Inv X pins σ H { s with heap := h' } := I.turned (t' := s.toks) (fun b o hb e => (sb.2 b hb).trans e) f0 f1 f3 f4 f5
    obtain ⟨o, e, c, d⟩ := id st'
    exact ⟨u, rfl, go_of (s := { s with heap := h' }) e c d (by decide) ⟨x, H, I1, ru, ⟨rfl, fun ys hy => by rw [I.list_inj hy hq]; exact hx⟩, st', fun b hb => (hf b hb).1⟩⟩
  done := by
    intro X hP hw hK hc i pins s σ H E I hf st hg
    subst hP hw hK
    obtain ⟨xs, hq, hx⟩ := hg
    obtain ⟨its, rv, p, hz⟩ := I.list hq
    obtain ⟨f0, f1, f2, f3, f4, f5⟩ := hf it (by simp)
    have hl := rv.length
    exact wpAny_pyNext_list_end (I.ok.hd hc) st p.isList (by simp; omega) fun h' eb => ⟨rfl, I.turned (t' := s.toks) (fun b o hb e => eb b o hb e) f0 f1 f3 f4 f5⟩
  self := fun _ _ _ _ _ st h => wpAny_pyIter_listiter st h
theorem turn_range {P : Program} {w : World} {K : PySem.W.Frag} {tg : Expr} (it : Addr) (lo : Int) (n : Nat) : Turn P w K tg (Itr lo n) [it] it (fun i h => IsRangeIter h it (lo + (i : Nat) * 1) ((n : Int) - (i : Nat)) 1) where
  mem := by simp
  obj := fun i h st b hb => by
    have e : b = it := by simpa using hb
    subst e
    exact ⟨_, st, fun v z => by
      have z' : Data.fields _ = Data.cell v := z
      cases z'⟩
  keep := fun i h h' st k => k it (by simp) _ st
  item := by
    intro X hP hw hK hc i pins s σ H E I hf st hg
    subst hP hw hK
    obtain ⟨f0, f1, f2, f3, f4, f5⟩ := hf it (by simp)
    have W := Walks.range (prog := X.prog) (w := X.w) (I.ok.hd hc) it lo 1 n
    refine W.item i s _ _ hg st fun v h' tk hv st' kk => ?_
    obtain ⟨t, rfl⟩ := hv
    have I1 : Inv X pins σ H { s with heap := h', toks := tk } := I.turned (fun b o hb e => kk b o (by simpa using hb) e) f0 f1 f3 f4 f5
    refine ⟨_, rfl, go_of (s := { s with heap := h', toks := tk }) (n := "range_iterator") st' rfl rfl (by decide) ⟨.int (lo + i), H, I1, ⟨t, ?_⟩, ⟨rfl, rfl⟩, st', fun b hb => (hf b hb).1⟩⟩
    rw [Int.mul_one]
  done := by
    intro X hP hw hK hc i pins s σ H E I hf st hg
    subst hP hw hK
    obtain ⟨f0, f1, f2, f3, f4, f5⟩ := hf it (by simp)
    exact wpAny_pyNext_range_end (I.ok.hd hc) st (by have : n ≤ i := hg; omega) fun h' eb => ⟨rfl, I.turned (t' := s.toks) (fun b o hb e => eb b o hb e) f0 f1 f3 f4 f5⟩
  self := fun _ _ _ _ _ st h => wpAny_pyIter_rangeiter st h
end L2

namespace L2
open PySem PySem.Spec PyProof.Rows
section
variable {X : Cx} {tg : Expr}
def iList (K : PySem.W.Frag) (tl : TE) : TI := fun σ H R => tl σ H fun x H1 => ∃ a, x = .ref a ∧ (∃ xs, SqL K H1 a xs) ∧ R (Itl K a) H1
def iTup (K : PySem.W.Frag) (tl : TE) : TI := fun σ H R => tl σ H fun x H1 => ∃ a, x = .ref a ∧ (∃ xs, SqT K H1 a xs) ∧ R (Itt K a) H1
theorem pi_list {l : Expr} {tl : TE} (hl : PE X l tl) : PI X tg l (iList X.K tl) := by
  intro pins s σ H R I h
  refine thn (hl pins s σ H _ I h) fun v s1 ⟨x, H1, I1, r1, q1⟩ => ?_
  obtain ⟨a, e, ⟨xs, hq⟩, q⟩ := q1
  subst e
  cases r1
  obtain ⟨its, rv, p, hz⟩ := I1.list hq
  refine wpAny_pyIter_list p.isList ?_
  refine ⟨s1.heap.objs.size, [s1.heap.objs.size], _, _, H1, rfl, I1.kept (t' := s1.toks) fun b o e => Heap.get?_push_of_some _ e, turn_list a _, ⟨_, Heap.get?_push_size _ rfl, rfl, rfl⟩, fun b hb => ?_, q⟩
  have e : b = s1.heap.objs.size := by simpa using hb
  subst e
  exact I1.fpOk (Nat.le_refl _) (I1.hok.fresh (Nat.le_refl _))
/-- a range object just made, walked -/
theorem range_it {pins : List (Addr × Obj)} {σ : St} {H : Hp} {s : Shared} {R : It → Hp → Prop} {E : Value → Shared → Prop} {lo hi : Int} {t u v : Tok} {tk : Nat} (I : Inv X pins σ H s) (h1 : -(2 ^ 62) ≤ lo) (h2 : lo < 2 ^ 62) (h3 : -(2 ^ 62) ≤ hi) (h4 : hi < 2 ^ 62)
    (q : R (Itr lo (hi - lo).toNat) H) : wpAny (model X.prog X.w) X.A (pyIter (.ref s.heap.objs.size)) (PIE X pins σ tg R) E { s with heap := s.heap.push { cls := .type "range", data := .fields #[.int lo t, .int hi u, .int 1 v] }, toks := tk } := by
  refine wpAny_pyIter_range (IsRange.new ..) (small_one h1 h2 h3 h4) ?_
  have I1 : Inv X pins σ H { s with heap := s.heap.push { cls := .type "range", data := .fields #[.int lo t, .int hi u, .int 1 v] }, toks := tk } := I.kept fun b o e => Heap.get?_push_of_some _ e
  refine ⟨(s.heap.push { cls := .type "range", data := .fields #[.int lo t, .int hi u, .int 1 v] }).objs.size, [(s.heap.push { cls := .type "range", data := .fields #[.int lo t, .int hi u, .int 1 v] }).objs.size], _, _, H, rfl,
    I1.kept (t' := tk) fun b o e => Heap.get?_push_of_some _ e, turn_range _ lo (hi - lo).toNat, ?_, fun b hb => ?_, q⟩
  · have e1 : lo + ((0 : Nat) : Int) * 1 = lo := by simp
    have e2 : (((hi - lo).toNat : Nat) : Int) - ((0 : Nat) : Int) = Builtin.Range.rangeSize lo hi 1 := by rw [rangeSize_one]; split <;> omega
    show IsRangeIter _ _ (lo + ((0 : Nat) : Int) * 1) ((((hi - lo).toNat : Nat) : Int) - ((0 : Nat) : Int)) 1
    rw [e1, e2]
    exact Heap.get?_push_size _ rfl
  · have e : b = (s.heap.push { cls := .type "range", data := .fields #[.int lo t, .int hi u, .int 1 v] }).objs.size := by simpa using hb
    subst e
    exact I1.fpOk (Nat.le_refl _) (I1.hok.fresh (Nat.le_refl _))
def iRng1 (ta : TA) : TI := fun σ H R => ta σ H fun vs H1 => ∃ j : Int, vs = [.int j] ∧ -(2 ^ 62) ≤ j ∧ j < 2 ^ 62 ∧ R (Itr 0 j.toNat) H1
def iRng2 (ta : TA) : TI := fun σ H R => ta σ H fun vs H1 => ∃ i j : Int, vs = [.int i, .int j] ∧ (-(2 ^ 62) ≤ i ∧ i < 2 ^ 62 ∧ -(2 ^ 62) ≤ j ∧ j < 2 ^ 62) ∧ R (Itr i (j - i).toNat) H1
theorem pi_range1 {a : Expr} {ta : TA} {p pos : Pos} (hg : Gl X "range") (hm : X.mg "range" = none) (ha : PA X [a] ta) (hs : starEach [a] X.env = [(false, eval a X.env)] := by rfl) : PI X tg (.Call (.Name "range" p) [a] [] pos) (iRng1 ta) := by
  intro pins s σ H R I h
  refine Call_ (ld_blt I hg hm boot_range (PyProof.Rows.callWith_type1 (thn (ha pos pins s σ H _ I h) fun us s1 ⟨vs, H1, I1, r1, q1⟩ => ?_) hs rfl))
  obtain ⟨j, e, q1, q2, q⟩ := q1
  subst e
  cases r1 with
  | cons r rr =>
    cases rr
    obtain ⟨t, rfl⟩ := r
    exact call_range_1 (range_it I1 (by omega) (by omega) q1 q2 (by simpa using q))
/-! ### for -/
/-- W: the invariant by the turn and a measure; N: what the body is to reach -/
def tFor (wi : TI) (g : TG) (tb : TS) : TS := fun D σ H => wi σ H fun J H1 => ∃ W : Nat → Nat → St → Hp → Prop, (∃ m, W 0 m σ H1) ∧ ∀ i m σ H, W i m σ H →
  (J.stop i H ∧ D.nx σ H) ∨ (J.go i H ∧ ∃ N : St → Hp → Prop, (∀ σ' H', N σ' H' → ∃ m', m' < m ∧ W (i + 1) m' σ' H') ∧ ∀ x H', J.yld i H x H' → g x σ H' fun σ2 H2 => tb { D with nx := N, ct := N, bk := D.nx } σ2 H2)
/-- the records at fp as they stand -/
def pinsAt (fp : List Addr) (h : Heap) : List (Addr × Obj) := fp.filterMap fun b => (h.get? b).map fun o => (b, o)
theorem mem_pinsAt {fp : List Addr} {h : Heap} {b : Addr} {o : Obj} (hb : b ∈ fp) (e : h.get? b = some o) : (b, o) ∈ pinsAt fp h := List.mem_filterMap.mpr ⟨b, hb, by rw [e]; rfl⟩
theorem of_pinsAt {fp : List Addr} {h : Heap} {p : Addr × Obj} (hp : p ∈ pinsAt fp h) : p.1 ∈ fp ∧ h.get? p.1 = some p.2 := by
  obtain ⟨b, hb, e⟩ := List.mem_filterMap.mp hp
  cases q : h.get? b with
  | none => rw [q] at e; cases e
  | some o =>
    rw [q] at e
    have e' : (b, o) = p := Option.some.inj e
    subst e'
    exact ⟨hb, q⟩
theorem Inv.pinned {pins : List (Addr × Obj)} {σ : St} {H : Hp} {s : Shared} {fp : List Addr} (I : Inv X pins σ H s) (hf : ∀ b ∈ fp, FpOk X pins H b) (ho : ∀ b ∈ fp, ∃ o, s.heap.get? b = some o ∧ ∀ v, o.data ≠ .cell v) : Inv X (pins ++ pinsAt fp s.heap) σ H s :=
  I.pins_of fun p hp => (List.mem_append.mp hp).elim (fun z => I.pin p (List.mem_append_right _ z)) fun z => by
    obtain ⟨hb, e⟩ := of_pinsAt z
    obtain ⟨f0, f1, f2, _⟩ := hf p.1 hb
    obtain ⟨o, e', d⟩ := ho p.1 hb
    rw [e] at e'; cases e'
    exact ⟨e, f0, f1, f2, d⟩
theorem Inv.unpinned {pins pl : List (Addr × Obj)} {σ : St} {H : Hp} {s : Shared} (I : Inv X (pins ++ pl) σ H s) : Inv X pins σ H s := I.pins_of fun p hp => I.pin p (List.mem_append_right _ (List.mem_append_left _ hp))
theorem ps_for {iter : Expr} {body : List Stmt} {wi : TI} {g : TG} {tb : TS} {pos : Pos} (hp : PassesOwn (model X.prog X.w) X.A X.env X.xe) (hc : X.calm = true) (hi : PI X tg iter wi) (hg : PG X tg g) (hb : PSs X body tb)
    (hs : ∀ x, foldedSetIterable iter X.env x = pure x := by intro _; rfl) : PS X (.For tg iter body [] pos) (tFor wi g tb) := by
  intro pins s σ H D I h
  refine wpAny_For (thn (hi pins s σ H _ I h) fun v s1 h1 => thn h1 fun itv s2 h2 => ?_) hs
  obtain ⟨it, fp, tn, J, H2, e, I2, T, st2, f2, W, ⟨m0, w0⟩, turn⟩ := h2
  subst e
  -- what stays true of the iterator's objects through the loop
  have stat : ∀ {H' : Hp}, (∀ b ∈ fp, H' b = none) → ∀ b ∈ fp, FpOk X pins H' b := fun hn b hb => ⟨hn b hb, (f2 b hb).2⟩
  refine codeAny_forLoop_any (fun n s' => ∃ i σ' H', Inv X pins σ' H' s' ∧ tn i s'.heap ∧ (∀ b ∈ fp, H' b = none) ∧ W i n σ' H') ?_ m0 ⟨0, σ, H2, I2, st2, fun b hb => (f2 b hb).1, w0⟩
  rintro n s3 ⟨i, σ3, H3, I3, st3, fr3, w3⟩
  rcases turn i n σ3 H3 w3 with ⟨stop, qn⟩ | ⟨go, N, hN, step⟩
  · refine wpAny_passesOwn hp (thn (T.done X rfl rfl rfl hc i pins s3 σ3 H3 X.xe I3 (stat fr3) st3 stop) fun r s4 ⟨hr, I4⟩ => ?_)
    subst hr
    exact wpAny_execs_nil ⟨σ3, H3, I4, qn⟩
  · refine wpAny_passesOwn hp (thn (T.item X rfl rfl rfl hc i pins s3 σ3 H3 X.xe I3 (stat fr3) st3 go) fun r s4 ⟨u, hr, h4⟩ => ?_)
    subst hr
    refine wpAny_passesOwn hp (thn h4 fun _ s5 ⟨x, H5, I5, r5, y5, st5, fr5⟩ => ?_)
    have I5' := I5.pinned (stat fr5) (T.obj _ _ st5)
    refine wpAny_passesOwn hp (thn (hg _ s5 σ3 H5 x u _ I5' r5 (step x H5 y5)) fun _ s6 ⟨σ6, H6, I6, q6⟩ => ?_)
    refine wpAny_passesOwn hp (thn (hb _ s6 σ6 H6 _ I6 q6) fun f s7 q7 => ?_)
    have again : ∀ {σ7 : St} {H7 : Hp}, Inv X (pins ++ pinsAt fp s5.heap) σ7 H7 s7 → N σ7 H7 → ∃ m, m < n ∧ ∃ i σ' H', Inv X pins σ' H' s7 ∧ tn i s7.heap ∧ (∀ b ∈ fp, H' b = none) ∧ W i m σ' H' := fun {σ7 H7} I7 n7 => by
      obtain ⟨m', hm, w7⟩ := hN σ7 H7 n7
      refine ⟨m', hm, i + 1, σ7, H7, I7.unpinned, T.keep _ _ _ st5 fun b hb o e => (I7.pin (b, o) (List.mem_append_right _ (List.mem_append_right _ (mem_pinsAt hb e)))).1, fun b hb => ?_, w7⟩
      obtain ⟨o, e, d⟩ := T.obj _ _ st5 b hb
      exact (I7.pin (b, o) (List.mem_append_right _ (List.mem_append_right _ (mem_pinsAt hb e)))).2.1
    cases f with
    | next => obtain ⟨σ7, H7, I7, n7⟩ := q7; exact again I7 n7
    | cont => obtain ⟨σ7, H7, I7, n7⟩ := q7; exact again I7 n7
    | brk => obtain ⟨σ7, H7, I7, q7⟩ := q7; exact ⟨σ7, H7, I7.unpinned, q7⟩
    | ret v => obtain ⟨x7, σ7, H7, I7, r7, q7⟩ := q7; exact ⟨x7, σ7, H7, I7.unpinned, r7, q7⟩
end

/-! ### the forms one uses -/
/-- over a list that the body leaves as it is -/
theorem for_list {K : PySem.W.Frag} {a : Addr} {xs : List V} {g : TG} {tb : TS} {D : Ends} {σ : St} {H : Hp} (Pv : Nat → St → Hp → Prop) (h0 : Pv 0 σ H) (hl : ∀ i σ H, i ≤ xs.length → Pv i σ H → SqL K H a xs)
    (hs : ∀ i x σ H, xs[i]? = some x → Pv i σ H → g x σ H fun σ2 H2 => tb { D with nx := Pv (i + 1), ct := Pv (i + 1), bk := D.nx } σ2 H2) (hd : ∀ σ H, Pv xs.length σ H → D.nx σ H) :
    ∃ W : Nat → Nat → St → Hp → Prop, (∃ m, W 0 m σ H) ∧ ∀ i m σ H, W i m σ H →
      ((Itl K a).stop i H ∧ D.nx σ H) ∨ ((Itl K a).go i H ∧ ∃ N : St → Hp → Prop, (∀ σ' H', N σ' H' → ∃ m', m' < m ∧ W (i + 1) m' σ' H') ∧ ∀ x H', (Itl K a).yld i H x H' → g x σ H' fun σ2 H2 => tb { D with nx := N, ct := N, bk := D.nx } σ2 H2) := by
  refine ⟨fun i m σ H => m = xs.length - i ∧ i ≤ xs.length ∧ Pv i σ H, ⟨xs.length, by simp, Nat.zero_le _, h0⟩, ?_⟩
  rintro i m σ H ⟨rfl, hi, p⟩
  have q := hl i σ H hi p
  by_cases hlt : i < xs.length
  · refine .inr ⟨⟨xs, xs[i], q, by simp [hlt]⟩, Pv (i + 1), fun σ' H' p' => ⟨xs.length - (i + 1), by omega, rfl, hlt, p'⟩, fun x H' y => ?_⟩
    obtain ⟨e, y⟩ := y
    subst e
    exact hs i x σ _ (y xs q) p
  · have e : i = xs.length := by omega
    subst e
    exact .inl ⟨⟨xs, q, Nat.le_refl _⟩, hd σ H p⟩
theorem for_range {lo : Int} {n : Nat} {g : TG} {tb : TS} {D : Ends} {σ : St} {H : Hp} (Pv : Nat → St → Hp → Prop) (h0 : Pv 0 σ H)
    (hs : ∀ i σ H, i < n → Pv i σ H → g (.int (lo + i)) σ H fun σ2 H2 => tb { D with nx := Pv (i + 1), ct := Pv (i + 1), bk := D.nx } σ2 H2) (hd : ∀ σ H, Pv n σ H → D.nx σ H) :
    ∃ W : Nat → Nat → St → Hp → Prop, (∃ m, W 0 m σ H) ∧ ∀ i m σ H, W i m σ H →
      ((Itr lo n).stop i H ∧ D.nx σ H) ∨ ((Itr lo n).go i H ∧ ∃ N : St → Hp → Prop, (∀ σ' H', N σ' H' → ∃ m', m' < m ∧ W (i + 1) m' σ' H') ∧ ∀ x H', (Itr lo n).yld i H x H' → g x σ H' fun σ2 H2 => tb { D with nx := N, ct := N, bk := D.nx } σ2 H2) := by
  refine ⟨fun i m σ H => m = n - i ∧ i ≤ n ∧ Pv i σ H, ⟨n, by simp, Nat.zero_le _, h0⟩, ?_⟩
  rintro i m σ H ⟨rfl, hi, p⟩
  by_cases hlt : i < n
  · refine .inr ⟨hlt, Pv (i + 1), fun σ' H' p' => ⟨n - (i + 1), by omega, rfl, hlt, p'⟩, fun x H' y => ?_⟩
    obtain ⟨e, y⟩ := y
    subst e y
    exact hs i σ _ hlt p
  · have e : i = n := by omega
    subst e
    exact .inl ⟨Nat.le_refl _, hd σ H p⟩
end L2

namespace L2
open PySem PySem.Spec PyProof.Rows

abbrev R2 := V → V → Hp → VK → Prop
/-- a two-place operation on values: f is binaryOp op, inplaceOp op or compareOp op -/
def OpR (X : Cx) (f : Value → Value → Sem Value) (r : R2) : Prop :=
  ∀ (pins : List (Addr × Obj)) (s : Shared) (σ : St) (H : Hp) (x y : V) (v u : Value) (Q : VK), Inv X pins σ H s → RelV x v → RelV y u → r x y H Q →
    wpAny (model X.prog X.w) X.A (f v u) (EP X pins σ Q) X.xe s
/-- a one-place operation -/
def UnR (X : Cx) (f : Value → Sem Value) (r : V → Hp → VK → Prop) : Prop :=
  ∀ (pins : List (Addr × Obj)) (s : Shared) (σ : St) (H : Hp) (x : V) (v : Value) (Q : VK), Inv X pins σ H s → RelV x v → r x H Q →
    wpAny (model X.prog X.w) X.A (f v) (EP X pins σ Q) X.xe s
/-- a call of a value that is known (a builtin, a type) with values -/
def CallR (X : Cx) (f : Value) (r : List V → Hp → VK → Prop) : Prop :=
  ∀ (pins : List (Addr × Obj)) (s : Shared) (σ : St) (H : Hp) (xs : List V) (us : List Value) (Q : VK), Inv X pins σ H s → Vals xs us → r xs H Q →
    wpAny (model X.prog X.w) X.A (call f us) (EP X pins σ Q) X.xe s
/-- a value's truth -/
def TruR (X : Cx) (r : V → Hp → (Bool → Hp → Prop) → Prop) : Prop :=
  ∀ (pins : List (Addr × Obj)) (s : Shared) (σ : St) (H : Hp) (x : V) (v : Value) (Q : Bool → Hp → Prop), Inv X pins σ H s → RelV x v → r x H Q →
    wpAny (model X.prog X.w) X.A (truthy v) (TP X pins σ Q) X.xe s

def tOp (r : R2) (ta tb : TE) : TE := fun σ H Q => ta σ H fun x H1 => tb σ H1 fun y H2 => r x y H2 Q
def tUn (r : V → Hp → VK → Prop) (ta : TE) : TE := fun σ H Q => ta σ H fun x H1 => r x H1 Q
/-- ints in, under C, and a value out -/
def rI (C : Int → Int → Prop) (g : Int → Int → V) : R2 := fun x y H Q => ∃ i j, x = .int i ∧ y = .int j ∧ C i j ∧ Q (g i j) H
def rI0 (g : Int → Int → V) : R2 := fun x y H Q => ∃ i j, x = .int i ∧ y = .int j ∧ Q (g i j) H
def rU (g : Int → V) : V → Hp → VK → Prop := fun x H Q => ∃ i, x = .int i ∧ Q (g i) H

section
variable {X : Cx} {a b c : Expr} {ta tb tc : TE} {pos : Pos}

theorem binT (ha : PE X a ta) (hb : PE X b tb) {pins : List (Addr × Obj)} {s : Shared} {σ : St} {H : Hp} {R : V → V → Hp → Prop} (I : Inv X pins σ H s)
    (h : ta σ H fun x H1 => tb σ H1 fun y H2 => R x y H2) {Q : Value → Shared → Prop} {f : Value → Value → Sem Value}
    (hf : ∀ v u s2 x y H2, Inv X pins σ H2 s2 → RelV x v → RelV y u → R x y H2 → wpAny (model X.prog X.w) X.A (f v u) Q X.xe s2) :
    wpAny (model X.prog X.w) X.A (eval a X.env) (fun v s₁ => wpAny (model X.prog X.w) X.A (eval b X.env) (fun u s₂ => wpAny (model X.prog X.w) X.A (f v u) Q X.xe s₂) X.xe s₁) X.xe s := by
  refine thn (ha pins s σ H _ I h) fun v s1 ⟨x, H1, I1, r1, q1⟩ => ?_
  refine thn (hb pins s1 σ H1 _ I1 q1) fun u s2 ⟨y, H2, I2, r2, q2⟩ => ?_
  exact hf v u s2 x y H2 I2 r1 r2 q2

theorem pe_op {op : Operator} {r : R2} (ho : OpR X (binaryOp op) r) (ha : PE X a ta) (hb : PE X b tb) : PE X (.BinOp a op b pos) (tOp r ta tb) := by
  intro pins s σ H Q I h
  exact wpAny_BinOp (binT ha hb I h fun v u s2 x y H2 I2 rx ry q => ho pins s2 σ H2 x y v u Q I2 rx ry q)
theorem pe_un {op : UnaryOp} {r : V → Hp → VK → Prop} (ho : UnR X (unaryOp op) r) (ha : PE X a ta) : PE X (.UnaryOp op a pos) (tUn r ta) := by
  intro pins s σ H Q I h
  exact UnaryOp_ (thn (ha pins s σ H _ I h) fun v s1 ⟨x, H1, I1, r1, q1⟩ => ho pins s1 σ H1 x v Q I1 r1 q1)
/-! ### ints -/
theorem opI {f : Value → Value → Sem Value} {C : Int → Int → Prop} {g : Int → Int → Int}
    (rule : ∀ (i j : Int) (t u : Tok) (s : Shared) (Q : Value → Shared → Prop) (E : Value → Shared → Prop), C i j → Q (.int (g i j) s.toks) { s with toks := s.toks + 1 } → wpAny (model X.prog X.w) X.A (f (.int i t) (.int j u)) Q E s) :
    OpR X f (rI C fun i j => .int (g i j)) := by
  intro pins s σ H x y v u Q I rx ry h
  obtain ⟨i, j, rfl, rfl, hc, q⟩ := h
  obtain ⟨t, rfl⟩ := rx
  obtain ⟨t', rfl⟩ := ry
  exact rule i j t t' s _ _ hc ⟨.int (g i j), H, I.tok _, ⟨_, rfl⟩, q⟩
theorem opI0 {f : Value → Value → Sem Value} {g : Int → Int → Int}
    (rule : ∀ (i j : Int) (t u : Tok) (s : Shared) (Q : Value → Shared → Prop) (E : Value → Shared → Prop), Q (.int (g i j) s.toks) { s with toks := s.toks + 1 } → wpAny (model X.prog X.w) X.A (f (.int i t) (.int j u)) Q E s) :
    OpR X f (rI0 fun i j => .int (g i j)) := by
  intro pins s σ H x y v u Q I rx ry h
  obtain ⟨i, j, rfl, rfl, q⟩ := h
  obtain ⟨t, rfl⟩ := rx
  obtain ⟨t', rfl⟩ := ry
  exact rule i j t t' s _ _ ⟨.int (g i j), H, I.tok _, ⟨_, rfl⟩, q⟩
theorem opB0 {f : Value → Value → Sem Value} {g : Int → Int → Bool}
    (rule : ∀ (i j : Int) (t u : Tok) (s : Shared) (Q : Value → Shared → Prop) (E : Value → Shared → Prop), Q (.bool (g i j)) s → wpAny (model X.prog X.w) X.A (f (.int i t) (.int j u)) Q E s) :
    OpR X f (rI0 fun i j => .bl (g i j)) := by
  intro pins s σ H x y v u Q I rx ry h
  obtain ⟨i, j, rfl, rfl, q⟩ := h
  obtain ⟨t, rfl⟩ := rx
  obtain ⟨t', rfl⟩ := ry
  exact rule i j t t' s _ _ ⟨.bl (g i j), H, I, rfl, q⟩

def CDiv (i j : Int) : Prop := 0 < j ∧ j < 1073741824
def CPow (i j : Int) : Prop := 0 ≤ j ∧ j ≤ 1000000 ∧ i.natAbs < 2 ^ 64
def CMul (i j : Int) : Prop := (-(2 ^ 64) < i ∧ i < 2 ^ 64) ∨ (-(2 ^ 64) < j ∧ j < 2 ^ 64)
theorem CMul.ok {i j : Int} (h : CMul i j) : IntMulOk i j := by
  rcases h with ⟨h1, h2⟩ | ⟨h1, h2⟩
  · exact .of_left (intBits_le_64 h1 h2)
  · exact .of_right (intBits_le_64 h1 h2)
theorem two_pow_nn (k : Nat) : (0 : Int) ≤ 2 ^ k := by
  rw [two_pow_cast]
  exact Int.natCast_nonneg _

theorem op_add : OpR X (binaryOp .Add) (rI0 fun i j => .int (i + j)) := opI0 fun _ _ _ _ _ _ _ q => add_int q
theorem op_sub : OpR X (binaryOp .Sub) (rI0 fun i j => .int (i - j)) := opI0 fun _ _ _ _ _ _ _ q => sub_int q
theorem op_mul : OpR X (binaryOp .Mult) (rI CMul fun i j => .int (i * j)) := opI fun _ _ _ _ _ _ _ hc q => mul_int q hc.ok
/-- // by a positive divisor -/
theorem op_fdiv : OpR X (binaryOp .FloorDiv) (rI CDiv fun i j => .int (i / j)) := opI fun i j _ _ _ _ _ hc q => by
  have h1 : (0 : Int) < j := hc.1
  have h2 : j < 1073741824 := hc.2
  exact floordiv_int (by omega) (by rw [Int.fdiv_eq_ediv_of_nonneg i (by omega)]; exact q) (.inl (PyProof.noPylong_small (by omega)))
/-- % by a positive divisor of any size -/
theorem op_mod : OpR X (binaryOp .Mod) (rI (fun _ j => 0 < j) fun i j => .int (i % j)) := opI fun i j _ _ _ _ _ hc q => by
  have h1 : (0 : Int) < j := hc
  exact mod_int' (by omega) (by rw [Int.fmod_eq_emod_of_nonneg i (by omega)]; exact q)
theorem op_pow : OpR X (binaryOp .Pow) (rI CPow fun i j => .int (i ^ j.toNat)) := opI fun _ _ _ _ _ _ _ hc q => pow_int_small hc.1 hc.2.1 hc.2.2 q
theorem op_shl : OpR X (binaryOp .LShift) (rI CPow fun i j => .int (i * 2 ^ j.toNat)) := opI fun _ _ _ _ _ _ _ hc q => lshift_int_small hc.1 hc.2.1 hc.2.2 q
theorem op_shr : OpR X (binaryOp .RShift) (rI (fun _ j => 0 ≤ j) fun i j => .int (i / 2 ^ j.toNat)) := opI fun i j _ _ _ _ _ hc q =>
  rshift_int hc (by rw [Int.fdiv_eq_ediv_of_nonneg i (two_pow_nn _)]; exact q)
theorem op_and : OpR X (binaryOp .BitAnd) (rI0 fun i j => .int (Builtin.bitAnd i j)) := opI0 fun _ _ _ _ _ _ _ q => and_int q
theorem unI {f : Value → Sem Value} {g : Int → Int}
    (rule : ∀ (i : Int) (t : Tok) (s : Shared) (Q : Value → Shared → Prop) (E : Value → Shared → Prop), Q (.int (g i) s.toks) { s with toks := s.toks + 1 } → wpAny (model X.prog X.w) X.A (f (.int i t)) Q E s) :
    UnR X f (rU fun i => .int (g i)) := by
  intro pins s σ H x v Q I rx h
  obtain ⟨i, rfl, q⟩ := h
  obtain ⟨t, rfl⟩ := rx
  exact rule i t s _ _ ⟨.int (g i), H, I.tok _, ⟨_, rfl⟩, q⟩
theorem un_neg : UnR X (unaryOp .USub) (rU fun i => .int (-i)) := unI fun _ _ _ _ _ q => neg_int q
/-! ### bools among ints: n += (a < b) -/
end

/-! ### comparisons -/
/-- the scalars that == tells apart as data does -/
def scal : V → V → Bool
  | .non, .non => true | .non, .int _ => true | .int _, .non => true | .non, .bl _ => true | .bl _, .non => true | .non, .str _ => true | .str _, .non => true
  | .int _, .int _ => true | .bl _, .bl _ => true | .str _, .str _ => true | .byt _, .byt _ => true
  | .int _, .str _ => true | .str _, .int _ => true | .bl _, .str _ => true | .str _, .bl _ => true
  | _, _ => false
def rEq : R2 := fun x y H Q => scal x y = true ∧ Q (.bl (decide (x = y))) H
def rNe : R2 := fun x y H Q => scal x y = true ∧ Q (.bl (!decide (x = y))) H

theorem dec_int {i j : Int} : decide (V.int i = V.int j) = (i == j) := by
  rw [Bool.eq_iff_iff]
  simp
theorem dec_bl {i j : Bool} : decide (V.bl i = V.bl j) = (i == j) := by
  rw [Bool.eq_iff_iff]
  simp
theorem dec_str {i j : Str} : decide (V.str i = V.str j) = (i == j) := by
  rw [Bool.eq_iff_iff]
  simp
theorem dec_byt {i j : Array UInt8} : decide (V.byt i = V.byt j) = (i.toList == j.toList) := by
  rw [Bool.eq_iff_iff]
  cases i
  cases j
  simp

section
variable {X : Cx} {a b c : Expr} {ta tb tc : TE} {pos : Pos}
theorem fin_bl {pins : List (Addr × Obj)} {σ : St} {H : Hp} {s : Shared} {Q : VK} {k k' : Bool} (I : Inv X pins σ H s) (q : Q (.bl k) H) (e : k = k') : EP X pins σ Q (.bool k') s := by
  subst e
  exact ⟨.bl k, H, I, rfl, q⟩
theorem op_eq : OpR X (compareOp .Eq) rEq := by
  intro pins s σ H x y v u Q I rx ry h
  obtain ⟨hs, q⟩ := h
  cases x with
  | non =>
    cases rx
    cases y with
    | non => cases ry; exact PySem.EqNone.eq_none_none (fin_bl I q (by simp))
    | bl j => cases ry; exact PySem.EqNone.eq_none_bool (fin_bl I q (by simp))
    | int j => obtain ⟨t', rfl⟩ := ry; exact PySem.EqNone.eq_none_int (fin_bl I q (by simp))
    | str j => obtain ⟨t', rfl⟩ := ry; exact PySem.EqNone.eq_none_str (fin_bl I q (by simp))
    | _ => exact absurd (show false = true from hs) Bool.false_ne_true
  | bl i =>
    cases rx
    cases y with
    | non => cases ry; exact PySem.EqNone.eq_bool_none (fin_bl I q (by simp))
    | bl j => cases ry; exact eq_bool (fin_bl I q dec_bl)
    | str j => obtain ⟨t', rfl⟩ := ry; exact PySem.EqMixed.eq_bool_str (fin_bl I q (by simp))
    | _ => exact absurd (show false = true from hs) Bool.false_ne_true
  | int i =>
    obtain ⟨t, rfl⟩ := rx
    cases y with
    | non => cases ry; exact PySem.EqNone.eq_int_none (fin_bl I q (by simp))
    | int j => obtain ⟨t', rfl⟩ := ry; exact eq_int (fin_bl I q dec_int)
    | str j => obtain ⟨t', rfl⟩ := ry; exact PySem.EqMixed.eq_int_str (fin_bl I q (by simp))
    | _ => exact absurd (show false = true from hs) Bool.false_ne_true
  | str i =>
    obtain ⟨t, rfl⟩ := rx
    cases y with
    | non => cases ry; exact PySem.EqNone.eq_str_none (fin_bl I q (by simp))
    | bl j => cases ry; exact PySem.EqMixed.eq_str_bool (fin_bl I q (by simp))
    | int j => obtain ⟨t', rfl⟩ := ry; exact PySem.EqMixed.eq_str_int (fin_bl I q (by simp))
    | str j => obtain ⟨t', rfl⟩ := ry; exact eq_str (fin_bl I q dec_str)
    | _ => exact absurd (show false = true from hs) Bool.false_ne_true
  | byt i =>
    obtain ⟨t, rfl⟩ := rx
    cases y with
    | byt j => obtain ⟨t', rfl⟩ := ry; exact PySem.W.eq_bytes (fin_bl I q dec_byt)
    | _ => exact absurd (show false = true from hs) Bool.false_ne_true
  | _ => cases y <;> exact absurd (show false = true from hs) Bool.false_ne_true
theorem op_ne : OpR X (compareOp .NotEq) rNe := by
  intro pins s σ H x y v u Q I rx ry h
  obtain ⟨hs, q⟩ := h
  cases x with
  | non =>
    cases rx
    cases y with
    | non => cases ry; exact PySem.EqNone.ne_none_none (fin_bl I q (by simp))
    | bl j => cases ry; exact PySem.EqNone.ne_none_bool (fin_bl I q (by simp))
    | int j => obtain ⟨t', rfl⟩ := ry; exact PySem.EqNone.ne_none_int (fin_bl I q (by simp))
    | str j => obtain ⟨t', rfl⟩ := ry; exact PySem.EqNone.ne_none_str (fin_bl I q (by simp))
    | _ => exact absurd (show false = true from hs) Bool.false_ne_true
  | bl i =>
    cases rx
    cases y with
    | non => cases ry; exact PySem.EqNone.ne_bool_none (fin_bl I q (by simp))
    | bl j => cases ry; exact ne_bool (fin_bl I q (congrArg not dec_bl))
    | str j => obtain ⟨t', rfl⟩ := ry; exact PySem.EqMixed.ne_bool_str (fin_bl I q (by simp))
    | _ => exact absurd (show false = true from hs) Bool.false_ne_true
  | int i =>
    obtain ⟨t, rfl⟩ := rx
    cases y with
    | non => cases ry; exact PySem.EqNone.ne_int_none (fin_bl I q (by simp))
    | int j => obtain ⟨t', rfl⟩ := ry; exact ne_int (fin_bl I q (congrArg not dec_int))
    | str j => obtain ⟨t', rfl⟩ := ry; exact PySem.EqMixed.ne_int_str (fin_bl I q (by simp))
    | _ => exact absurd (show false = true from hs) Bool.false_ne_true
  | str i =>
    obtain ⟨t, rfl⟩ := rx
    cases y with
    | non => cases ry; exact PySem.EqNone.ne_str_none (fin_bl I q (by simp))
    | bl j => cases ry; exact PySem.EqMixed.ne_str_bool (fin_bl I q (by simp))
    | int j => obtain ⟨t', rfl⟩ := ry; exact PySem.EqMixed.ne_str_int (fin_bl I q (by simp))
    | str j => obtain ⟨t', rfl⟩ := ry; exact ne_str (fin_bl I q (congrArg not dec_str))
    | _ => exact absurd (show false = true from hs) Bool.false_ne_true
  | byt i =>
    obtain ⟨t, rfl⟩ := rx
    cases y with
    | byt j => obtain ⟨t', rfl⟩ := ry; exact PySem.W.ne_bytes (fin_bl I q (congrArg not dec_byt))
    | _ => exact absurd (show false = true from hs) Bool.false_ne_true
  | _ => cases y <;> exact absurd (show false = true from hs) Bool.false_ne_true

theorem op_lt : OpR X (compareOp .Lt) (rI0 fun i j => .bl (decide (i < j))) := opB0 fun _ _ _ _ _ _ _ q => lt_int q
theorem op_le : OpR X (compareOp .LtE) (rI0 fun i j => .bl (decide (i ≤ j))) := opB0 fun _ _ _ _ _ _ _ q => le_int q
theorem op_gt : OpR X (compareOp .Gt) (rI0 fun i j => .bl (decide (j < i))) := opB0 fun _ _ _ _ _ _ _ q => gt_int q
/-- the one string within the other -/
theorem op_in_str : OpR X (compareOp .In) (fun x y H Q => ∃ i j, x = .str i ∧ y = .str j ∧ Q (.bl (!(Builtin.Str.occurrences j i 0 j.length 1).isEmpty)) H) := by
  intro pins s σ H x y v u Q I rx ry h
  obtain ⟨i, j, rfl, rfl, q⟩ := h
  obtain ⟨t, rfl⟩ := rx
  obtain ⟨t', rfl⟩ := ry
  exact in_str (fin_bl I q rfl)

/-- is None, is not None: the right side a value none -/
theorem op_isN : OpR X (compareOp .Is) (fun x y H Q => y = .non ∧ Q (.bl (decide (x = .non))) H) := by
  intro pins s σ H x y v u Q I rx ry h
  obtain ⟨rfl, q⟩ := h
  cases ry
  refine is_none_gen (fin_bl I q ?_)
  cases x <;> first
    | (cases rx; rfl)
    | (obtain ⟨t, rfl⟩ := rx; rfl)
theorem op_notN : OpR X (compareOp .IsNot) (fun x y H Q => y = .non ∧ Q (.bl (!decide (x = .non))) H) := by
  intro pins s σ H x y v u Q I rx ry h
  obtain ⟨rfl, q⟩ := h
  cases ry
  refine isnot_none_gen (fin_bl I q ?_)
  cases x <;> first
    | (cases rx; rfl)
    | (obtain ⟨t, rfl⟩ := rx; rfl)

/-- two rules for one operation: by cases -/
theorem OpR.or {f : Value → Value → Sem Value} {r r' : R2} (h : OpR X f r) (h' : OpR X f r') : OpR X f (fun x y H Q => r x y H Q ∨ r' x y H Q) := by
  intro pins s σ H x y v u Q I rx ry q
  rcases q with q | q
  · exact h pins s σ H x y v u Q I rx ry q
  · exact h' pins s σ H x y v u Q I rx ry q

theorem nomark (b : Expr) {op : CmpOp} (h : op ≠ .In := by decide) (h2 : op ≠ .NotIn := by decide) : behindInMarks op b = false := by
  have e1 : (op == CmpOp.In) = false := by cases op <;> first | rfl | exact absurd rfl h
  have e2 : (op == CmpOp.NotIn) = false := by cases op <;> first | rfl | exact absurd rfl h2
  cases b <;> simp [behindInMarks, e1, e2]
/-- a comparison as a value; hm: nomark b, or (for in, not in) by with_unfolding_all rfl -/
theorem pe_cmpR {op : CmpOp} {r : R2} (ho : OpR X (compareOp op) r) (ha : PE X a ta) (hb : PE X b tb) (hm : behindInMarks op b = false) : PE X (.Compare a [op] [b] pos) (tOp r ta tb) := by
  intro pins s σ H Q I h
  exact wpAny_Compare1 (binT ha hb I h fun v u s2 x y H2 I2 rx ry q => ho pins s2 σ H2 x y v u Q I2 rx ry q) hm
/-- a reading of a value as a test -/
def tTest (t : TE) : TT := fun σ H Q => t σ H fun x H' => ∃ k, x = .bl k ∧ Q k H'
theorem pt_cmpR {op : CmpOp} {r : R2} (ho : OpR X (compareOp op) r) (ha : PE X a ta) (hb : PE X b tb) (hm : behindInMarks op b = false) : PT X (.Compare a [op] [b] pos) (tTest (tOp r ta tb)) := by
  intro pins s σ H Q I h
  refine wpAny_isTrue_Compare1 (thn (ha pins s σ H _ I h) fun v s1 ⟨x, H1, I1, r1, q1⟩ => thn (hb pins s1 σ H1 _ I1 q1) fun u s2 ⟨y, H2, I2, r2, q2⟩ =>
    thn (ho pins s2 σ H2 x y v u _ I2 r1 r2 q2) fun c s3 ⟨z, H3, I3, r3, k, e, q3⟩ => ?_) hm
  subst e
  cases r3
  exact wpAny_truthy_bool ⟨H3, I3, q3⟩
/-- a op1 b op2 c -/
def tChain (r r' : R2) (ta tb tc : TE) : TE := fun σ H Q => ta σ H fun x H1 => tb σ H1 fun y H2 => r x y H2 fun z H3 => ∃ k, z = .bl k ∧
  (if k = true then tc σ H3 fun w' H4 => r' y w' H4 Q else Q (.bl false) H3)
theorem pe_chain {op op' : CmpOp} {r r' : R2} (ho : OpR X (compareOp op) r) (ho' : OpR X (compareOp op') r') (ha : PE X a ta) (hb : PE X b tb) (hc : PE X c tc)
    (hm : lastMarks [op, op'] [b, c] = false := by with_unfolding_all rfl) : PE X (.Compare a [op, op'] [b, c] pos) (tChain r r' ta tb tc) := by
  intro pins s σ H Q I h
  refine Compare_chain (thn (ha pins s σ H _ I h) fun v s1 ⟨x, H1, I1, r1, q1⟩ => chain_link (thn (hb pins s1 σ H1 _ I1 q1) fun u s2 ⟨y, H2, I2, r2, q2⟩ =>
    thn (ho pins s2 σ H2 x y v u _ I2 r1 r2 q2) fun d s3 ⟨z, H3, I3, r3, k, e, q3⟩ => ?_)) hm
  subst e
  cases r3
  refine wpAny_truthy_bool ?_
  cases k with
  | false => exact ite_ff ⟨.bl false, H3, I3, rfl, q3⟩
  | true => exact ite_tt (chain_last (thn (hc pins s3 σ H3 _ I3 q3) fun w' s4 ⟨z', H4, I4, r4, q4⟩ => ho' pins s4 σ H4 y z' u w' Q I4 r2 r4 q4))
theorem pt_chain {op op' : CmpOp} {r r' : R2} (ho : OpR X (compareOp op) r) (ho' : OpR X (compareOp op') r') (ha : PE X a ta) (hb : PE X b tb) (hc : PE X c tc)
    (hm : lastMarks [op, op'] [b, c] = false := by with_unfolding_all rfl) : PT X (.Compare a [op, op'] [b, c] pos) (tTest (tChain r r' ta tb tc)) := by
  intro pins s σ H Q I h
  refine isTrue_chain (thn (ha pins s σ H _ I h) fun v s1 ⟨x, H1, I1, r1, q1⟩ => test_link (thn (hb pins s1 σ H1 _ I1 q1) fun u s2 ⟨y, H2, I2, r2, q2⟩ =>
    thn (ho pins s2 σ H2 x y v u _ I2 r1 r2 q2) fun d s3 ⟨z, H3, I3, r3, k, e, q3⟩ => ?_)) hm
  subst e
  cases r3
  refine wpAny_truthy_bool ?_
  cases k with
  | false =>
    obtain ⟨k', e', q'⟩ := q3
    cases e'
    exact ite_ff ⟨H3, I3, q'⟩
  | true =>
    refine ite_tt (test_last (thn (hc pins s3 σ H3 _ I3 q3) fun w' s4 ⟨z', H4, I4, r4, q4⟩ => thn (ho' pins s4 σ H4 y z' u w' _ I4 r2 r4 q4) fun d' s5 ⟨z2, H5, I5, r5, k2, e2, q5⟩ => ?_))
    subst e2
    cases r5
    exact wpAny_truthy_bool ⟨H5, I5, q5⟩

/-! ### truth -/
/-- a value's truth by the abstract heap -/
def TruV (K : PySem.W.Frag) (x : V) (H : Hp) (k : Bool) : Prop :=
  match x with
  | .non => k = false
  | .bl b => k = b
  | .int i => k = (i != 0)
  | .str y => y.length ≤ sizeLine ∧ k = ((y.length : Int) != 0)
  | .byt y => y.size ≤ sizeLine ∧ k = ((y.size : Int) != 0)
  | .ref p => (∃ xs, SqL K H p xs ∧ k = !xs.isEmpty) ∨ (∃ xs, SqT K H p xs ∧ k = !xs.isEmpty) ∨ ∃ kvs, H p = some (.dK kvs) ∧ k = !kvs.isEmpty
  | _ => False
theorem isEmpty_kv {κ : Type} {kvs : List (κ × V)} {vs : List (κ × Value)} (r : KV kvs vs) : (!vs.isEmpty) = !kvs.isEmpty := by
  cases r <;> rfl
theorem isEmpty_of {xs : List V} {its : List Value} (r : Vals xs its) : (!its.toArray.isEmpty) = !xs.isEmpty := by
  cases r <;> simp
theorem line63 : (sizeLine : Nat) < 2 ^ 63 := by rw [sizeLine_eq]; decide
theorem tru_ok : TruR X (fun x H Q => ∃ k, TruV X.K x H k ∧ Q k H) := by
  intro pins s σ H x v Q I rx h
  obtain ⟨k, e, q⟩ := h
  have hl := line63
  have hs : sizeLine = 16777216 := sizeLine_eq
  cases x with
  | non =>
    cases rx
    have e' : k = false := e
    subst e'
    exact truthy_none ⟨H, I, q⟩
  | bl b =>
    cases rx
    have e' : k = b := e
    subst e'
    exact wpAny_truthy_bool ⟨H, I, q⟩
  | int i =>
    obtain ⟨t, rfl⟩ := rx
    have e' : k = (i != 0) := e
    subst e'
    exact PySem.P.truthy_int ⟨H, I, q⟩
  | str y =>
    obtain ⟨t, rfl⟩ := rx
    obtain ⟨hy, e'⟩ : y.length ≤ sizeLine ∧ k = ((y.length : Int) != 0) := e
    subst e'
    exact PySem.P.truthy_str (by omega) ⟨H, I.tok _, q⟩
  | byt y =>
    obtain ⟨t, rfl⟩ := rx
    obtain ⟨hy, e'⟩ : y.size ≤ sizeLine ∧ k = ((y.size : Int) != 0) := e
    subst e'
    exact PySem.W.truthy_bytes (by omega) ⟨H, I.tok _, q⟩
  | ref p =>
    cases rx
    have e' : (∃ xs, SqL X.K H p xs ∧ k = !xs.isEmpty) ∨ (∃ xs, SqT X.K H p xs ∧ k = !xs.isEmpty) ∨ ∃ kvs, H p = some (.dK kvs) ∧ k = !kvs.isEmpty := e
    rcases e' with ⟨xs, hx, e'⟩ | ⟨xs, hx, e'⟩ | ⟨kvs, hx, e'⟩
    · subst e'
      obtain ⟨its, r, pl, hz⟩ := I.list hx
      have hlen := r.length
      exact wpAny_truthy_list pl.isList (by simp only [List.size_toArray]; omega) ⟨H, I.tok _, by rw [isEmpty_of r]; exact q⟩
    · subst e'
      obtain ⟨its, r, pl, hz⟩ := I.tuple hx
      have hlen := r.length
      exact truthy_tuple pl (by simp only [List.size_toArray]; omega) ⟨H, I.tok _, by rw [isEmpty_of r]; exact q⟩
    · subst e'
      obtain ⟨hz, hS, vs, r, m⟩ : kvs.length ≤ sizeLine ∧ (p == sysModules) = false ∧ ∃ vs, KV kvs vs ∧ s.heap.DictOf (mixKind X.prog X.w) p vs := I.hok p _ hx
      have hlen : kvs.length = vs.length := Paired.length r
      exact wpAny_truthy_dict hS m (by omega) ⟨H, I.tok _, by rw [isEmpty_kv r]; exact q⟩
  | _ => exact (show False from e).elim
/-- any expression whose test is its value's truth (a name, a call, a subscript, a field ..: he by fun _ => rfl) -/
theorem pt_truth (ha : PE X a ta) (he : ∀ whole, isTrue a X.env whole = (do let v ← whole; standAt a.pos; holding [v] (truthy v))) :
    PT X a (fun σ H Q => ta σ H fun x H' => ∃ k, TruV X.K x H' k ∧ Q k H') := by
  intro pins s σ H Q I h
  exact isTrue_plain (thn (ha pins s σ H _ I h) fun v s1 ⟨x, H1, I1, r1, q1⟩ => tru_ok pins s1 σ H1 x v Q I1 r1 q1) (he _)

/-! ### strs and bytes -/
theorem op_add_str : OpR X (binaryOp .Add) (fun x y H Q => ∃ i j, x = .str i ∧ y = .str j ∧ i.length + j.length ≤ sizeLine ∧ Q (.str (i ++ j)) H) := by
  intro pins s σ H x y v u Q I rx ry h
  obtain ⟨i, j, rfl, rfl, hz, q⟩ := h
  obtain ⟨t, rfl⟩ := rx
  obtain ⟨t', rfl⟩ := ry
  exact add_str (fun t' tk => ⟨.str (i ++ j), H, I.tok _, ⟨_, rfl⟩, q⟩) hz
/-! ### scalar builtins, by CallR -/
theorem vals1 {x : V} {us : List Value} (r : Vals [x] us) : ∃ u, us = [u] ∧ RelV x u := by
  cases r with
  | cons r1 r2 => cases r2; exact ⟨_, rfl, r1⟩
theorem vals2 {x y : V} {us : List Value} (r : Vals [x, y] us) : ∃ u w', us = [u, w'] ∧ RelV x u ∧ RelV y w' := by
  cases r with
  | cons r1 r2 =>
    cases r2 with
    | cons r3 r4 => cases r4; exact ⟨_, _, rfl, r1, r3⟩
end
end L2

namespace L2
open PySem PySem.Spec PyProof.Rows

/-! ### an instance, its attributes a map -/
structure ObjM (h : Heap) (x dx C : Addr) (mA : Str → Option Value) : Prop where
  obj : h.get? x = some (PySem.W.instObj C dx)
  ns : h.Ns1 dx mA
  ne : dx ≠ x

theorem lookIn_ns {h : Heap} {dx : Addr} {mA : Str → Option Value} (n : h.Ns1 dx mA) : ∃ od, h.get? dx = some od ∧ ∀ name, PySem.W.lookIn name od = some (mA name) := by
  obtain ⟨o, es, ep, ho, hd, hk, _, hm⟩ := n
  refine ⟨o, ho, fun name => ?_⟩
  have e := hm name
  unfold nsFind findBy at e
  rw [← Array.find?_toList] at e
  unfold PySem.W.lookIn
  rw [hd]
  dsimp only
  split
  · rename_i y q
    rw [q] at e
    exact congrArg some e
  · rename_i q
    rw [q] at e
    have a : es.toList.any (·.refKey) = false := by
      rw [List.any_eq_false]
      intro y hy
      obtain ⟨z, t, hkey⟩ := hk y (Array.mem_toList_iff.mp hy)
      simp [DictEntry.refKey, hkey]
    have a' : ¬ es.toList.any (·.refKey) = true := by rw [a]; exact Bool.false_ne_true
    rw [if_neg a']
    exact congrArg some e

theorem ObjM.look {h : Heap} {x dx C : Addr} {mA : Str → Option Value} (I : ObjM h x dx C mA) : ∃ od, PySem.W.InstAt h x (PySem.W.instObj C dx) C (some od) ∧ ∀ name, PySem.W.lookIn name od = some (mA name) :=
  let ⟨od, ho, hl⟩ := lookIn_ns I.ns
  ⟨od, ⟨I.obj, rfl, rfl, ho⟩, hl⟩

section
variable {prog : Program} {w : World} {A : Around} {E : Value → Shared → Prop} {s : Shared} {K : PySem.W.Frag} {x dx C f : Addr} {mA : Str → Option Value} {name : Str} {v : Value}

end

/-! ### the attributes as a list of pairs -/
theorem RelO.some_of {v : V} {o : Option Value} (r : RelO (some v) o) : ∃ u, o = some u ∧ RelV v u := by
  cases o with
  | none => exact (show False from r).elim
  | some u => exact ⟨u, rfl, r⟩
theorem RelO.none_of {o : Option Value} (r : RelO none o) : o = none := by
  cases o with
  | none => rfl
  | some u => exact (show False from r).elim
section
variable {P : Program} {w : World} {H H' : Hp} {h h' : Heap} {a C dx : Addr} {fs fs' : List (Str × V)}
theorem ins_get (hok : HOk P w H h) (e : H a = some (.ins C dx fs)) : ∃ mA, ObjM h a dx C mA ∧ (∀ f, RelO (fs.lookup f) (mA f)) ∧ PySem.Within mA (fs.map (·.1)) ∧ fs.length ≤ 1000 ∧ H dx = some (.own a) := by
  obtain ⟨d, z, ne, ob, mA, n, r, q⟩ := (show ObjOk P w H h a (.ins C dx fs) from hok a _ e)
  exact ⟨mA, ⟨ob, n, ne⟩, r, q, z, d⟩
end

/-! ### what of the text a class must have -/
structure Cls (K : PySem.W.Frag) (C : Addr) : Prop where
  pg : PySem.W.plainGet K C Str.empty = true
  hd : PySem.W.hasDictIn K C = true
  po : PySem.W.plainOver K C = true
  sa : PySem.W.findIn K (.ref C) "__setattr__" = some (some (.builtin "object.__setattr__"))
theorem Cls.get {K : PySem.W.Frag} {C : Addr} (c : Cls K C) (f : Str) : PySem.W.plainGet K C f = true := c.pg
/-- a constant of the class -/
structure Con (K : PySem.W.Frag) (C : Addr) (f : Str) (v : V) (u : Value) : Prop where
  at_ : PySem.W.findIn K (.ref C) f = some (some u)
  rel : RelV v u
  get : PySem.W.specialIn K u "__get__" = some none
  cp : PySem.W.copiedNames.contains f = false
/-- a method: a plain def of the class or of one above it -/
structure Meth (K : PySem.W.Frag) (C : Addr) (m : Str) (f : Addr) : Prop where
  at_ : PySem.W.findIn K (.ref C) m = some (some (.ref f))
  fn : PySem.W.isFn K (.ref f) = true
  kp : PySem.W.keepIn K (.ref f) = true

section
variable {X : Cx} {pins : List (Addr × Obj)} {σ : St} {H : Hp} {s : Shared} {a C dx : Addr} {fs : List (Str × V)} {f : Str} {v : V} {A : Around} {E : Value → Shared → Prop}

/-- a new instance, tracked, without attributes -/
theorem Inv.made (I : Inv X pins σ H s) : Inv X pins σ (upd (upd H s.heap.objs.size (.own (s.heap.objs.size + 1))) (s.heap.objs.size + 1) (.ins C s.heap.objs.size []))
    { s with heap := (s.heap.push PySem.W.emptyDict).push (PySem.W.instObj C s.heap.objs.size) } := by
  have e1 : (s.heap.push PySem.W.emptyDict).get? s.heap.objs.size = some PySem.W.emptyDict := Heap.get?_push_size s.heap rfl
  have e2 : ((s.heap.push PySem.W.emptyDict).push (PySem.W.instObj C s.heap.objs.size)).get? (s.heap.objs.size + 1) = some (PySem.W.instObj C s.heap.objs.size) := by
    have := Heap.get?_push_size (s.heap.push PySem.W.emptyDict) (o := PySem.W.instObj C s.heap.objs.size) rfl
    rwa [Heap.size_push] at this
  have e3 : (s.heap.push PySem.W.emptyDict).Ns s.heap.objs.size (fun _ => none) := ⟨PySem.W.emptyDict, #[], _, e1, rfl, (fun e he => absurd he (by simp)), fun _ => rfl⟩
  have I1 := I.laid (a := s.heap.objs.size) (o := .own (s.heap.objs.size + 1)) (h' := s.heap.push PySem.W.emptyDict) (t' := s.toks) (fun b u q => Heap.get?_push_of_some _ q) (Nat.le_refl _) ⟨_, e1⟩
  refine I1.laid (a := s.heap.objs.size + 1) (o := .ins C s.heap.objs.size []) (t' := s.toks) (fun b u q => Heap.get?_push_of_some _ q) (Nat.le_of_eq (Heap.size_push _ _)) ?_
  have ne : s.heap.objs.size ≠ s.heap.objs.size + 1 := Nat.ne_of_lt (Nat.lt_succ_self _)
  refine ⟨by rw [upd_ne ne, upd_same], Nat.zero_le _, ne, e2, fun _ => none, (Heap.Ns1.of_empty e3).at fun o q => Heap.get?_push_of_some _ q, fun _ => True.intro, fun y hy => absurd rfl hy⟩

end

/-! ### readings and rules -/
section
variable {X : Cx} {o e value : Expr} {f : Str} {pos pos' tpos : Pos} {ta tv : TE}
end

/-! ### isinstance -/
section
variable {X : Cx} {pins : List (Addr × Obj)} {σ : St} {H : Hp} {s : Shared} {A : Around} {E : Value → Shared → Prop} {Q : Value → Shared → Prop} {c : Value} {b : Bool}
/-- the type of a value, as the fragment's deciders take it; for an instance its class -/
inductive TyOf (K : PySem.W.Frag) (H : Hp) : V → Value → Prop where
  | non : TyOf K H .non (.type "NoneType")
  | bl (x : Bool) : TyOf K H (.bl x) (.type "bool")
  | int (i : Int) : TyOf K H (.int i) (.type "int")
  | str (x : Str) : TyOf K H (.str x) (.type "str")
  | flt (x : UInt64) : TyOf K H (.flt x) (.type "float")
  | lst {a : Addr} {xs : List V} (e : H a = some (.lst xs)) : TyOf K H (.ref a) (.type "list")
  | frz {a : Addr} {o : Obj} {xs : List V} (e : H a = some (.frz o (.lst xs))) : TyOf K H (.ref a) (.type "list")
  | tup {a : Addr} {xs : List V} (e : H a = some (.tup xs)) : TyOf K H (.ref a) (.type "tuple")
  | dK {a : Addr} {kvs : List (Key × V)} (e : H a = some (.dK kvs)) : TyOf K H (.ref a) (.type "dict")
  | dT {a : Addr} {kvs : List (List Key × V)} (e : H a = some (.dT kvs)) : TyOf K H (.ref a) (.type "dict")
  | ins {a C dx : Addr} {fs : List (Str × V)} (e : H a = some (.ins C dx fs)) (cl : Cls K C) (ha : PySem.W.findIn K (.ref C) "__class__" = some (some (.builtin "object.__class__")))
      (hn : PySem.W.specialIn K (.builtin "object.__class__") "__get__" = some (some (.builtin "getset_descriptor.__get__"))) (htk : PySem.W.takesIn K (.builtin "object.__class__") = some true)
      (hm : PySem.W.mroIn K C (.type "object") = some true) : TyOf K H (.ref a) (.ref C)
/-- isinstance(x, c) for one class c, a built-in or an own one: kitOne's answer -/
theorem isinst_ok {x : V} {u t : Value} (I : Inv X pins σ H s) (rx : RelV x u) (ty : TyOf X.K H x t) (e : PySem.W.kitOne X.K t c = some b) (h : ∀ tk, Q (.bool b) { s with toks := tk }) :
    wpAny (model X.prog X.w) A (call (.builtin "isinstance") [u, c]) Q E s := by
  cases ty with
  | non => cases (show u = Value.none from rx); exact PySem.W.kia_one PySem.W.kitx_none I.kIn True.intro e (fun z => nomatch z) h
  | bl y => cases (show u = Value.bool y from rx); exact PySem.W.kia_one PySem.W.kitx_bool I.kIn True.intro e (fun z => nomatch z) h
  | int i => obtain ⟨t, q⟩ := (show ∃ t, u = Value.int i t from rx); cases q; exact PySem.W.kia_one PySem.W.kitx_int I.kIn True.intro e (fun z => nomatch z) h
  | str y => obtain ⟨t, q⟩ := (show ∃ t, u = Value.str y t from rx); cases q; exact PySem.W.kia_one PySem.W.kitx_str I.kIn True.intro e (fun z => nomatch z) h
  | flt y => obtain ⟨t, q⟩ := (show ∃ t, u = Value.float y t from rx); cases q; exact PySem.W.kia_one PySem.W.kitx_float I.kIn True.intro e (fun z => nomatch z) h
  | @lst a xs ea =>
    cases (show u = Value.ref a from rx)
    obtain ⟨_, _, n, _, h1⟩ := (show ObjOk X.prog X.w H s.heap a (.lst xs) from I.hok a _ ea)
    exact PySem.W.kia_one PySem.W.kitx_list I.kIn ⟨_, h1, rfl⟩ e (fun z => nomatch z) h
  | @frz a ob xs ea =>
    cases (show u = Value.ref a from rx)
    obtain ⟨_, _, _, n, _, h1⟩ := (show ObjOk X.prog X.w H s.heap a (.frz ob (.lst xs)) from I.hok a _ ea)
    exact PySem.W.kia_one PySem.W.kitx_list I.kIn ⟨_, h1, rfl⟩ e (fun z => nomatch z) h
  | @tup a xs ea =>
    cases (show u = Value.ref a from rx)
    obtain ⟨_, _, _, p⟩ := (show ObjOk X.prog X.w H s.heap a (.tup xs) from I.hok a _ ea)
    obtain ⟨o, h1, h2, _⟩ := p
    exact PySem.W.kia_one PySem.W.kitx_tuple I.kIn ⟨o, h1, h2⟩ e (fun z => nomatch z) h
  | @dK a kvs ea =>
    cases (show u = Value.ref a from rx)
    obtain ⟨_, _, vs, _, p⟩ := (show ObjOk X.prog X.w H s.heap a (.dK kvs) from I.hok a _ ea)
    obtain ⟨o, es, ep, h1, h2, _⟩ := p
    exact PySem.W.kia_one PySem.W.kitx_dict I.kIn ⟨o, h1, h2.1⟩ e (fun z => nomatch z) h
  | @dT a kvs ea =>
    cases (show u = Value.ref a from rx)
    obtain ⟨_, _, xs, _, o, es, ep, h1, h2, _⟩ := (show ObjOk X.prog X.w H s.heap a (.dT kvs) from I.hok a _ ea)
    exact PySem.W.kia_one PySem.W.kitx_dict I.kIn ⟨o, h1, h2.1⟩ e (fun z => nomatch z) h
  | @ins a C dx fs ea cl ha hn htk hm =>
    cases (show u = Value.ref a from rx)
    obtain ⟨mA, O, _⟩ := ins_get I.hok ea
    obtain ⟨od, J, _⟩ := O.look
    exact PySem.W.kia_one (PySem.W.kitx_own (cl.get _) cl.hd ha hn htk hm) I.kIn J e (fun z => nomatch z) h
end
end L2

namespace L2
open PySem PySem.Spec PyProof.Rows

/-! ### room -/
structure Room (k : Nat) (A : Around) : Prop where
  hd : A.handled = none
  dp : A.depth + 3 * k + 5 < recursionLimit
  un : A.units + 16 * k + 200 < cLine
theorem Room.mono {j k : Nat} {A : Around} (r : Room k A) (h : j ≤ k) : Room j A := ⟨r.hd, by have := r.dp; omega, by have := r.un; omega⟩
theorem Room.deeper {k : Nat} {A : Around} (r : Room (k + 1) A) (env : Env) : Room k (A.deeper env) :=
  ⟨r.hd, by have := r.dp; show A.depth + 1 + 3 * k + 5 < _; omega, by have := r.un; show A.units + 3 + 16 * k + 200 < _; omega⟩
theorem Room.in1 {k : Nat} {A : Around} (r : Room (k + 1) A) : Room k A.in1 :=
  ⟨r.hd, by have := r.dp; show A.depth + 3 * k + 5 < _; omega, by have := r.un; show A.units + 1 + 16 * k + 200 < _; omega⟩
theorem make_depth {A : Around} {C : Addr} {us : List Value} {kw : List (Str × Value)} : (A.under (.builtin "type.__call__" ⟨.ref C :: us, kw⟩)).depth = A.depth + 1 := by
  first | rfl | simp [Around.under, Code.weight, Code.isCreation, Code.isGuard, Code.isCaller, Code.frames, Code.isFrame, guardIds]
theorem make_units {A : Around} {C : Addr} {us : List Value} {kw : List (Str × Value)} : (A.under (.builtin "type.__call__" ⟨.ref C :: us, kw⟩)).units = A.units + 1 := by
  first | rfl | simp [Around.under, Code.cUnits, Code.frames, Code.isFrame]
theorem Room.make {k : Nat} {A : Around} (r : Room (k + 1) A) (C : Addr) (us : List Value) (kw : List (Str × Value)) : Room k (A.under (.builtin "type.__call__" ⟨.ref C :: us, kw⟩)) :=
  ⟨r.hd, by have := r.dp; rw [make_depth]; omega, by have := r.un; rw [make_units]; omega⟩
theorem Room.depth {k : Nat} {A : Around} (r : Room k A) : A.depth < recursionLimit := by have := r.dp; omega
theorem Room.units {k : Nat} {A : Around} (r : Room k A) : A.units + 64 < cLine := by have := r.un; omega
/-! ### argument lists and displays -/
def tNil : TA := fun _ H Q => Q [] H
def tCons (ta : TE) (tr : TA) : TA := fun σ H Q => ta σ H fun x H1 => tr σ H1 fun xs H2 => Q (x :: xs) H2
section
variable {X : Cx} {e : Expr} {es : List Expr} {te : TE} {t : TA} {pos : Pos}
theorem pa_nil : PA X [] tNil := fun _ _ _ _ H Q I h => Calls.spliced_nil ⟨[], H, I, .nil, h⟩
theorem pa_cons (ha : PE X e te) (hr : PA X es t) (hs : starEach (e :: es) X.env = (false, eval e X.env) :: starEach es X.env := by rfl) : PA X (e :: es) (tCons te t) := by
  intro pos pins s σ H Q I h
  rw [hs]
  show wpAny _ _ (spliced ((false, eval e X.env) :: backTo pos (starEach es X.env))) _ _ s
  refine Calls.spliced_cons (thn (ha pins s σ H _ I h) fun u s1 ⟨x, H1, I1, r1, q1⟩ => ?_)
  exact thn (hr pos pins s1 σ H1 _ I1 q1) fun us s2 ⟨xs, H2, I2, r2, q2⟩ => ⟨x :: xs, H2, I2, .cons r1 r2, q2⟩

/-- a tuple, a list of written items -/
def tTup (t : TA) : TE := fun σ H Q => t σ H fun xs H1 => xs.length ≤ sizeLine ∧ ∀ p, H1 p = none → Q (.ref p) (upd H1 p (.tup xs))
def tLst (t : TA) : TE := fun σ H Q => t σ H fun xs H1 => xs.length ≤ sizeLine ∧ ∀ p, H1 p = none → Q (.ref p) (upd H1 p (.lst xs))
end

/-! ### what a def promises -/
/-- a def's promise: the bound arguments in the parameters' order, the heap, the wanted end, the wanted exception -/
abbrev Sp := List V → Hp → VK → XK → Prop
/-- how an exception lies behind a call (file 08 gives it): the callers' frames, abstract heap and state ahead of the call, the wish, the exception, the state -/
abbrev CXT := List Env → Hp → Shared → XK → Value → Shared → Prop

/-- the state at a call -/
structure Env0 (P : Program) (w : World) (K : PySem.W.Frag) (mg : Str → Option Value) (base : Heap) (A : Around) (outer : List Env) (s : Shared) (H : Hp) : Prop where
  frames : A.frames = some outer
  mod : Mod K mg base
  bs : ∀ b o, base.get? b = some o → s.heap.get? b = some o ∧ H b = none
  bsz : base.objs.size ≤ s.heap.objs.size
  funs : s.heap.FunFrames base outer
  frf : ∀ b ∈ frs outer, H b = none
  hok : HOk P w H s.heap
  bare : AllBare s.gens
/-- a call's end -/
def CE (outer : List Env) (P : Program) (w : World) (H : Hp) (s : Shared) (Q : VK) (u : Value) (s' : Shared) : Prop :=
  ∃ v H', s'.os = s.os ∧ AllBare s'.gens ∧ Un (frs outer) [] H H' s.heap s'.heap ∧ HOk P w H' s'.heap ∧ RelV v u ∧ Q v H'
def CR (CX : CXT) (outer : List Env) (P : Program) (w : World) (H : Hp) (s : Shared) (Q : VK) (E : XK) (r : Result) (s' : Shared) : Prop :=
  match r with
  | .ok (.ret u) => CE outer P w H s Q u s'
  | .ok _ => False
  | .error e => CX outer H s E e s'
structure FnOk (P : Program) (w : World) (K : PySem.W.Frag) (mg : Str → Option Value) (base : Heap) (CX : CXT) (k : Nat) (f : Addr) (fd : FuncData) (ps : List Str) (sp : Sp) : Prop where
  len : ∀ vs H Q E, sp vs H Q E → vs.length = ps.length
  run : ∀ (A : Around) (outer : List Env) (s : Shared) (H : Hp) (args : Args) (us : List Value) (vs : List V) (Q : VK) (E : XK), Room k A → Env0 P w K mg base A outer s H → BindsTo s fd args (ps.zip us) → Vals vs us → sp vs H Q E →
    codeAny (model P w) A (.call (.ref f) args) (CR CX outer P w H s Q E) s
theorem FnOk.mono {P : Program} {w : World} {K : PySem.W.Frag} {mg : Str → Option Value} {base : Heap} {CX : CXT} {j k : Nat} {f : Addr} {fd : FuncData} {ps : List Str} {sp : Sp} (F : FnOk P w K mg base CX j f fd ps sp) (h : j ≤ k) :
    FnOk P w K mg base CX k f fd ps sp := ⟨F.len, fun A outer s H args us vs Q E hr => F.run A outer s H args us vs Q E (hr.mono h)⟩
/-- a weaker promise -/
theorem FnOk.imp {P : Program} {w : World} {K : PySem.W.Frag} {mg : Str → Option Value} {base : Heap} {CX : CXT} {k : Nat} {f : Addr} {fd : FuncData} {ps : List Str} {sp sp' : Sp} (F : FnOk P w K mg base CX k f fd ps sp)
    (h : ∀ vs H Q E, sp' vs H Q E → sp vs H Q E) : FnOk P w K mg base CX k f fd ps sp' :=
  ⟨fun vs H Q E q => F.len vs H Q E (h _ _ _ _ q), fun A outer s H args us vs Q E hr he hb hv hs => F.run A outer s H args us vs Q E hr he hb hv (h _ _ _ _ hs)⟩

theorem Env0.make {P : Program} {w : World} {K : PySem.W.Frag} {mg : Str → Option Value} {base : Heap} {A : Around} {outer : List Env} {s : Shared} {H : Hp} (e : Env0 P w K mg base A outer s H) (C : Addr) (us : List Value) (kw : List (Str × Value)) :
    Env0 P w K mg base (A.under (.builtin "type.__call__" ⟨.ref C :: us, kw⟩)) outer s H := ⟨by first | exact e.frames | (simpa [Around.under, Code.envs, Code.isFrame, pushEnvs] using e.frames), e.mod, e.bs, e.bsz, e.funs, e.frf, e.hok, e.bare⟩
theorem Env0.in1 {P : Program} {w : World} {K : PySem.W.Frag} {mg : Str → Option Value} {base : Heap} {A : Around} {outer : List Env} {s : Shared} {H : Hp} (e : Env0 P w K mg base A outer s H) :
    Env0 P w K mg base A.in1 outer s H := ⟨e.frames, e.mod, e.bs, e.bsz, e.funs, e.frf, e.hok, e.bare⟩

section
variable {X : Cx} {pins : List (Addr × Obj)} {σ : St} {H : Hp} {s s' : Shared}
/-- from a body: what a callee wants -/
theorem Inv.env0 (I : Inv X pins σ H s) : Env0 X.prog X.w X.K X.mg X.base X.A X.stack s H :=
  ⟨I.ok.frames, I.ok.mod, I.bs, Nat.le_trans I.ok.bsz I.sz, I.stack, I.stkFree, I.hok, I.bare⟩
/-- behind a call -/
theorem Inv.after {Q : VK} {u : Value} (I : Inv X pins σ H s) (h : CE X.stack X.prog X.w H s Q u s') : EP X pins σ Q u s' := by
  obtain ⟨v, H', os, bare, un, hok, r, q⟩ := h
  obtain ⟨hh, g, d, t, os'⟩ := s'
  obtain rfl : os' = s.os := os
  exact ⟨v, H', I.call (h' := hh) (g' := g) (d' := d) (t' := t) (ch := []) un hok bare (fun b z => absurd z (by simp)), r, q⟩
end

/-! ### calls -/
/-- f(..): the written arguments, then the defaults dvs; E: what is wanted of an exception -/
def tCall (sp : Sp) (dvs : List V) (E : XK) (t : TA) : TE := fun σ H Q => t σ H fun vs H1 => sp (vs ++ dvs) H1 Q E
/-- how the parameters are bound: us the positional arguments, kw the keywords' values by name, ds the defaults that fill up -/
def Binds (K : PySem.W.Frag) (fd : FuncData) (ps : List Str) (ds : List Value) : Prop :=
  ∀ (s : Shared) (us : List Value), K.In s.heap → (us ++ ds).length = ps.length → BindsTo s fd ⟨us, []⟩ (ps.zip (us ++ ds))
/-- every parameter is given -/
theorem Binds.all {K : PySem.W.Frag} {fd : FuncData} {ps : List Str} (h : ∀ us : List Value, us.length = ps.length → bindArgs fd ⟨us, []⟩ = pure (ps.zip us)) : Binds K fd ps [] := fun s us _ hl => by
  rw [List.append_nil] at hl ⊢
  exact .of_eq (h us hl)

/-- an exception of a callee reaches what this body wants of exceptions -/
def Passes (CX : CXT) (X : Cx) (E : XK) : Prop := ∀ (pins : List (Addr × Obj)) (σ : St) (H : Hp) (s : Shared) (e : Value) (s' : Shared), Inv X pins σ H s → CX X.stack H s E e s' → X.xe e s'

section
variable {X : Cx} {CX : CXT} {k : Nat} {f C : Addr} {fd : FuncData} {ps : List Str} {sp : Sp} {dvs : List V} {ds : List Value} {E : XK} {x m : Str} {p pos apos : Pos} {e o : Expr} {es : List Expr} {ta : TE} {t : TA}

/-- the callee runs -/
theorem run_fn {pins : List (Addr × Obj)} {σ : St} {H : Hp} {s : Shared} {Q : VK} {us : List Value} {vs : List V} (F : FnOk X.prog X.w X.K X.mg X.base CX k f fd ps sp) (hr : Room k X.A) (hb : Binds X.K fd ps ds) (hd : Vals dvs ds) (hx : Passes CX X E)
    (I : Inv X pins σ H s) (r : Vals vs us) (h : sp (vs ++ dvs) H Q E) : wpAny (model X.prog X.w) X.A (call (.ref f) us) (EP X pins σ Q) X.xe s := by
  have r2 : Vals (vs ++ dvs) (us ++ ds) := r.append hd
  have hl : (us ++ ds).length = ps.length := by rw [← r2.length]; exact F.len _ _ _ _ h
  refine wpAny_call (codeAny_mono (F.run X.A X.stack s H ⟨us, []⟩ (us ++ ds) (vs ++ dvs) Q E hr I.env0 (hb s us I.kIn hl) r2 h) fun r s' hq => ?_)
  cases r with
  | error e => exact hx pins σ H s e s' I hq
  | ok fl =>
    cases fl with
    | ret u => exact I.after hq
    | next => exact False.elim hq
    | brk => exact False.elim hq
    | cont => exact False.elim hq

theorem pe_call (F : FnOk X.prog X.w X.K X.mg X.base CX k f fd ps sp) (hr : Room k X.A) (hg : Gl X x) (hm : X.mg x = some (.ref f)) (hk : PySem.W.keepIn X.K (.ref f) = true) (hb : Binds X.K fd ps ds) (hd : Vals dvs ds) (hx : Passes CX X E)
    (ha : PA X (e :: es) t) (hdb : (x == ("__debug__" : Str)) = false := by decide) (he : starEach (e :: es) X.env = (false, eval e X.env) :: starEach es X.env := by rfl) (hpl : (backTo pos (starEach es X.env)).any (·.1) = false := by rfl) :
    PE X (.Call (.Name x p) (e :: es) [] pos) (tCall sp dvs E t) := by
  intro pins s σ H Q I h
  refine wpAny_Call_Name_kw (ld_glob I hg hm ?_ hdb)
  refine PySem.W.callWith_K (h₀ := X.base) I.ok.mod.kin hk (thn (ha pos pins s σ H _ I h) fun us s1 ⟨vs, H1, I1, r, q⟩ => ⟨I1.kIn, ?_⟩) he hpl
  exact run_fn F hr hb hd hx I1 r q
/-- what a class must have to be made -/
structure Mk (K : PySem.W.Frag) (C f : Addr) : Prop where
  makes : PySem.W.makesIn K C = true
  init : PySem.W.findIn K (.ref C) "__init__" = some (some (.ref f))
  fn : PySem.W.isFn K (.ref f) = true
  kp : PySem.W.keepIn K (.ref C) = true

end

/-! ### keywords -/
section
variable {X : Cx} {CX : CXT} {k : Nat} {f C : Addr} {fd : FuncData} {ps ks : List Str} {sp : Sp} {E : XK} {x m : Str} {p pos apos kpos : Pos} {e o : Expr} {es : List Expr} {kws : List Keyword} {te ta : TE} {t tk : TA} {nm : Option Str}
/-- how a call with keywords binds: g puts the positional values us and the keywords' values ws (names ks) in the parameters' order, defaults among them -/
structure KBinds (K : PySem.W.Frag) (fd : FuncData) (ps ks : List Str) (g : List Value → List Value → List Value) (gV : List V → List V → List V) : Prop where
  to : ∀ (s : Shared) (us ws : List Value), K.In s.heap → (g us ws).length = ps.length → BindsTo s fd ⟨us, ks.zip ws⟩ (ps.zip (g us ws))
  rel : ∀ {vs : List V} {us : List Value} {zs : List V} {ws : List Value}, Vals vs us → Vals zs ws → Vals (gV vs zs) (g us ws)
variable {g : List Value → List Value → List Value} {gV : List V → List V → List V}
end

/-! ### a def's body keeps its promise -/
/-- names: the parameters first -/
structure FnScope (N P : List Str) (sc : Scope) : Prop where
  kind : sc.kind = .function
  co : sc.isCoroutine = false
  gen : sc.isGenerator = false
  nd : N.Nodup
  pre : N.take P.length = P
  par : ∀ x ∈ P, sc.names.lookup x = some .local ∨ sc.names.lookup x = some .cell
  nofree : ∀ y ∈ sc.names, y.2 ≠ .free

theorem bindL_out {kindOf : Str → Option NameKind} {x : Str} : ∀ {binds : List (Str × Value)} {m : Str → Option Value}, (∀ v, (x, v) ∉ binds) → bindL kindOf binds m x = m x
  | [], _, _ => rfl
  | (n, v) :: r, m, h => by
    unfold bindL
    rw [bindL_out fun w hw => h w (List.mem_cons_of_mem _ hw)]
    split
    · have : x ≠ n := by rintro rfl; exact h v List.mem_cons_self
      simp [this]
    · rfl
theorem bindC_out {kindOf : Str → Option NameKind} {x : Str} : ∀ {binds : List (Str × Value)} {m : Str → Option Value}, (∀ v, (x, v) ∉ binds) → bindC kindOf binds m x = m x
  | [], _, _ => rfl
  | (n, v) :: r, m, h => by
    unfold bindC
    rw [bindC_out fun w hw => h w (List.mem_cons_of_mem _ hw)]
    split
    · rfl
    · have : x ≠ n := by rintro rfl; exact h v List.mem_cons_self
      simp [this]
theorem bindL_get {kindOf : Str → Option NameKind} {x : Str} {v : Value} : ∀ {P : List Str} {vs : List Value} {i : Nat} {m : Str → Option Value}, P.Nodup → P[i]? = some x → vs[i]? = some v → kindOf x = some .local →
    bindL kindOf (P.zip vs) m x = some v
  | [], _, _, _, _, h, _, _ => by simp at h
  | _ :: _, [], _, _, _, _, h, _ => by simp at h
  | p :: P, w :: vs, 0, m, nd, h1, h2, hk => by
    simp at h1 h2; subst h1; subst h2
    show bindL kindOf ((p, w) :: P.zip vs) m p = _
    unfold bindL
    rw [bindL_out fun v hv => (List.nodup_cons.mp nd).1 (List.of_mem_zip hv).1, if_pos hk]
    simp
  | p :: P, w :: vs, i + 1, m, nd, h1, h2, hk => by
    show bindL kindOf ((p, w) :: P.zip vs) m x = _
    unfold bindL
    exact bindL_get (i := i) (List.nodup_cons.mp nd).2 (by simpa using h1) (by simpa using h2) hk
theorem bindC_get {kindOf : Str → Option NameKind} {x : Str} {v : Value} : ∀ {P : List Str} {vs : List Value} {i : Nat} {m : Str → Option Value}, P.Nodup → P[i]? = some x → vs[i]? = some v → kindOf x ≠ some .local →
    bindC kindOf (P.zip vs) m x = some v
  | [], _, _, _, _, h, _, _ => by simp at h
  | _ :: _, [], _, _, _, _, h, _ => by simp at h
  | p :: P, w :: vs, 0, m, nd, h1, h2, hk => by
    simp at h1 h2; subst h1; subst h2
    show bindC kindOf ((p, w) :: P.zip vs) m p = _
    unfold bindC
    rw [bindC_out fun v hv => (List.nodup_cons.mp nd).1 (List.of_mem_zip hv).1, if_neg hk]
    simp
  | p :: P, w :: vs, i + 1, m, nd, h1, h2, hk => by
    show bindC kindOf ((p, w) :: P.zip vs) m x = _
    unfold bindC
    exact bindC_get (i := i) (List.nodup_cons.mp nd).2 (by simpa using h1) (by simpa using h2) hk

/-- the names' values at the entry -/
def start (N : List Str) (vs : List V) : St := vs.map some ++ List.replicate (N.length - vs.length) none

/-- the context of a def's body, at its entry; an exception leaves the frame, then lies as CX says -/
def cxOf (CX : CXT) (P : Program) (w : World) (K : PySem.W.Frag) (mg : Str → Option Value) (base : Heap) (N : List Str) (qual : Str) (scope : Scope) (f : Addr) (cd : Value) (A : Around) (outer : List Env) (s : Shared) (H : Hp) (E : XK) : Cx where
  prog := P
  w := w
  K := K
  mg := mg
  base := base
  A := A.deeper (envOfC qual scope s.heap.objs.size f cd)
  N := N
  s₀ := s
  H₀ := H
  env := envOfC qual scope s.heap.objs.size f cd
  outer := outer
  stack := envOfC qual scope s.heap.objs.size f cd :: outer
  ex := []
  calm := true
  fn := fun _ => true
  pn := []
  xe := fun e s' => wpAny (model P w) (A.deeper (envOfC qual scope s.heap.objs.size f cd)) (leaving (envOfC qual scope s.heap.objs.size f cd) e) (fun _ s'' => CX outer H s E e s'') (fun e' s'' => CX outer H s E e' s'') s'

theorem cell_has {sc : Scope} {n : Nat} {x : Str} (h : sc.names.lookup x = some .cell) : ∃ c, (cellsFrom n sc.names []).lookup x = some c := by
  have q := PySem.W.cellsFrom_some sc.names n [] (.inl h)
  exact Option.isSome_iff_exists.mp q

theorem inv_start {CX : CXT} {P : Program} {w : World} {K : PySem.W.Frag} {mg : Str → Option Value} {base : Heap} {N ps : List Str} {qual : Str} {scope : Scope} {f : Addr} {cd : Value} {A : Around} {outer : List Env} {s s1 : Shared} {H : Hp} {E : XK} {us : List Value} {vs : List V}
    (S : FnScope N ps scope) (hd : A.handled = none) (e0 : Env0 P w K mg base A outer s H) (hl : vs.length = ps.length) (r : Vals vs us)
    (x : InCallC s s.heap.objs.size (bindL (envOfC qual scope s.heap.objs.size f cd).kindOf (ps.zip us) fun _ => none) (cellsFrom (s.heap.objs.size + 1) scope.names []) (bindC (envOfC qual scope s.heap.objs.size f cd).kindOf (ps.zip us) fun _ => none) s1) :
    Inv (cxOf CX P w K mg base N qual scope f cd A outer s H E) [] (start N vs) H s1 := by
  have hpl : ps.length ≤ N.length := by have := congrArg List.length S.pre; rw [List.length_take] at this; omega
  obtain ⟨h1, tk, rfl, hk⟩ := x.done
  have noA : ∀ b : Addr, b ∉ (cxOf CX P w K mg base N qual scope f cd A outer s H E).ex := fun b z => absurd (show b ∈ ([] : List Addr) from z) (by simp)
  refine ⟨⟨e0.mod, S.kind, rfl, rfl, Nat.le_refl _, fun y z c h1 h2 => ?_, fun y hy => ?_, fun y c _ h => ?_, fun _ => hd, Around.frames_deeper e0.frames, .inr ⟨rfl, rfl⟩, fun b z => absurd z (noA b), e0.bs, e0.bsz, fun b _ _ => noA b, fun b z => absurd z (noA b), e0.funs, e0.frf⟩,
    rfl, e0.bare, Un.kept hk, ⟨_, x.toInCall.ns, fun i y v h1 h2 h3 => ?_⟩, fun y c h => ⟨_, x.cell y c h⟩, e0.hok.fresh (Nat.le_refl _), fun y c h => ?_, fun p hp => absurd (show p ∈ ([] : List (Addr × Obj)) from hp) (by simp), e0.hok.kept hk, ?_⟩
  · exact name_of_addr x.apart (PySem.mem_of_lookup h1) (PySem.mem_of_lookup h2)
  · have hy : scope.names.lookup y = some .cell ∨ scope.names.lookup y = some .free := hy
    rcases hy with hy | hy
    · exact cell_has hy
    · exact absurd rfl (S.nofree _ (PySem.mem_of_lookup hy))
  · exact Nat.le_of_lt (x.above y c (PySem.mem_of_lookup h))
  · have hi : i < vs.length := by
      unfold start at h2
      by_cases hi : i < vs.length
      · exact hi
      · rw [List.getElem?_append_right (by simpa using hi)] at h2
        rw [List.getElem?_replicate] at h2
        split at h2 <;> cases h2
    have ha : vs[i]? = some v := by
      unfold start at h2
      rw [List.getElem?_append_left (by simpa using hi), List.getElem?_map] at h2
      cases e : vs[i]? with
      | none => rw [e] at h2; cases h2
      | some a => rw [e] at h2; cases h2; rfl
    obtain ⟨u, hu, rv⟩ := r.get ha
    have hp : ps[i]? = some y := by
      rw [← S.pre, List.getElem?_take_of_lt (by omega)]; exact h1
    have ndP : ps.Nodup := by rw [← S.pre]; exact S.nd.sublist (List.take_sublist _ _)
    refine ⟨u, rv, ?_⟩
    rcases S.par y (List.mem_of_getElem? hp) with k | k
    · exact .inl ⟨k, bindL_get ndP hp hu k⟩
    · obtain ⟨c, e⟩ := cell_has (n := s.heap.objs.size + 1) k
      refine .inr ⟨.inl k, c, e, ?_⟩
      have q := x.cell y c e
      rw [bindC_get ndP hp hu (by show scope.names.lookup y ≠ _; rw [k]; decide)] at q
      exact q
  · exact e0.hok.fresh (Nat.le_of_lt (x.above y c (PySem.mem_of_lookup h)))
  · unfold start
    show _ = N.length
    rw [List.length_append, List.length_map, List.length_replicate]
    omega

/-- THE RULE: a def (or a method) of the text, by its body. The body's reading t is chosen for each entry; it is run at the parameters' values -/
theorem fn_of {CX : CXT} {P : Program} {w : World} {K : PySem.W.Frag} {mg : Str → Option Value} {base : Heap} {k : Nat} {f : Addr} {name qual : Str} {params : Arguments} {body : List Stmt} {scope : Scope} {dV kV doc pm cdv ct oc : Value} {an od : Option Addr}
    {osl : Array (Option Value)} {N ps : List Str} {sp : Sp} (lk : K.lookup f = some ⟨oc, od, .func (PySem.W.fnOf name qual params body scope dV kV doc pm an cdv ct), osl⟩) (hcd : PySem.W.codeIn K cdv qual = true) (S : FnScope N ps scope)
    (len : ∀ vs H Q E, sp vs H Q E → vs.length = ps.length)
    (hbody : ∀ (A : Around) (outer : List Env) (s : Shared) (H : Hp) (vs : List V) (Q : VK) (E : XK), Room k (A.deeper (envOfC qual scope s.heap.objs.size f cdv)) → sp vs H Q E →
      ∃ t, PSs (cxOf CX P w K mg base N qual scope f cdv A outer s H E) body t ∧ t { nx := fun _ H' => Q .non H', rt := Q } (start N vs) H) :
    FnOk P w K mg base CX (k + 1) f (PySem.W.fnOf name qual params body scope dV kV doc pm an cdv ct) ps sp := by
  refine ⟨len, fun A outer s H args us vs Q E hr e0 hb r hsp => ?_⟩
  have hl := len _ _ _ _ hsp
  have KX : K.In s.heap := e0.mod.kin.keeps fun b o e => (e0.bs b o e).1
  have lim : s.heap.NoLimit := e0.mod.nolimit.keeps fun b o e => (e0.bs b o e).1
  have hkind : ∀ y ∈ ps.zip us, scope.names.lookup y.1 = some .local ∨ (scope.names.lookup y.1 = some .cell ∧ ((cellsFrom (s.heap.objs.size + 1) scope.names []).lookup y.1).isSome = true) := fun ⟨n, v⟩ hy => by
    rcases S.par n (List.of_mem_zip hy).1 with q | q
    · exact .inl q
    · exact .inr ⟨q, PySem.W.cellsFrom_some _ _ _ (.inl q)⟩
  refine codeAny_call_function hr.depth (KX _ _ lk) rfl S.co S.gen rfl (PySem.W.codeRec_of KX hcd) (hb _ _ _ _ ?_)
  refine wpAny_newFunctionEnv_cells S.kind hkind fun env he s1 x => ?_
  subst he
  refine ⟨lim.keeps x.toInCall.keep, codeAny_func ?_⟩
  obtain ⟨t, ht, hq⟩ := hbody A outer s H vs Q E (hr.deeper _) hsp
  have I : Inv (cxOf CX P w K mg base N qual scope f cdv A outer s H E) [] (start N vs) H s1 := inv_start S hr.hd e0 hl r x
  refine wpAny_mono (ht [] s1 (start N vs) H _ I hq) (fun fl s' hs => ?_) fun e s' hs => hs
  have fin : ∀ {σ' : St} {H' : Hp} {v : V} {u : Value}, Inv (cxOf CX P w K mg base N qual scope f cdv A outer s H E) [] σ' H' s' → RelV v u → Q v H' → CE outer P w H s Q u s' :=
    fun {σ' H' v u} J rv q => ⟨v, H', J.os, J.bare, J.base, J.hok, rv, q⟩
  cases fl with
  | ret u =>
    obtain ⟨v, σ', H', J, rv, q⟩ := hs
    exact fin J rv q
  | next =>
    obtain ⟨σ', H', J, q⟩ := hs
    exact fin (v := V.non) (u := Value.none) J rfl q
  | brk =>
    obtain ⟨_, _, _, q⟩ := hs
    exact False.elim q
  | cont =>
    obtain ⟨_, _, _, q⟩ := hs
    exact False.elim q
end L2

namespace L2
open PySem PySem.Spec PyProof.Rows
section
variable {X : Cx} {x : Str} {p pos : Pos} {e : Expr} {es : List Expr} {t : TA} {id T : String} {r : List V → Hp → VK → Prop}

def tCB (r : List V → Hp → VK → Prop) (t : TA) : TE := fun σ H Q => t σ H fun vs H1 => r vs H1 Q
/-- f(e, ..), f a built-in function -/
theorem pe_callB (hc : CallR X (.builtin id) r) (hg : Gl X x) (hm : X.mg x = none) (hv : bootBuiltins x = some (.builtin id)) (ha : PA X (e :: es) t) (hn : x ≠ "__name__" := by decide) (hdb : (x == ("__debug__" : Str)) = false := by decide)
    (he : starEach (e :: es) X.env = (false, eval e X.env) :: starEach es X.env := by rfl) (hpl : (backTo pos (starEach es X.env)).any (·.1) = false := by rfl) : PE X (.Call (.Name x p) (e :: es) [] pos) (tCB r t) := by
  intro pins s σ H Q I h
  refine wpAny_Call_Name_kw (ld_blt I hg hm hv ?_ hn hdb)
  exact PyProof.Rows.callWith_builtin1 (thn (ha pos pins s σ H _ I h) fun us s1 ⟨vs, H1, I1, r1, q1⟩ => hc pins s1 σ H1 vs us Q I1 r1 q1) he hpl
/-- T(e, ..), T a built-in type -/
theorem pe_callTy (hc : CallR X (.type T) r) (hg : Gl X x) (hm : X.mg x = none) (hv : bootBuiltins x = some (.type T)) (ha : PA X (e :: es) t) (hn : x ≠ "__name__" := by decide) (hdb : (x == ("__debug__" : Str)) = false := by decide)
    (he : starEach (e :: es) X.env = (false, eval e X.env) :: starEach es X.env := by rfl) (hpl : (backTo pos (starEach es X.env)).any (·.1) = false := by rfl) : PE X (.Call (.Name x p) (e :: es) [] pos) (tCB r t) := by
  intro pins s σ H Q I h
  refine wpAny_Call_Name_kw (ld_blt I hg hm hv ?_ hn hdb)
  exact PyProof.Rows.callWith_type1 (thn (ha pos pins s σ H _ I h) fun us s1 ⟨vs, H1, I1, r1, q1⟩ => hc pins s1 σ H1 vs us Q I1 r1 q1) he hpl
end
end L2

namespace HT
open PySem PyProof.Rows

section
open PySem.SeqAt
open PySem.AutoSeq1 (wpAny_loadPart')
open PySem.MeetsSeq PySem.MeetsSeq2 PySem.MeetsSeq3

end

section
variable {prog : Program} {w : World} {A : Around} {E : Value → Shared → Prop} {s : Shared}

/-! ### t[a:b], not the whole -/
/-- a slice's bound as a place among n (d where it is left out) -/
def sIx (n d : Nat) : Option Int → Nat
  | none => d
  | some v => if v < 0 then (v + (n : Int)).toNat else min v.toNat n
theorem sIx_none (n d : Nat) : sIx n d none = d := rfl
theorem sIx_nat (n d k : Nat) : sIx n d (some (k : Int)) = min k n := by
  show (if (k : Int) < 0 then ((k : Int) + (n : Int)).toNat else min (k : Int).toNat n) = min k n
  rw [if_neg (by omega), Int.toNat_natCast]
theorem sIx_le (n d : Nat) (hd : d ≤ n) (o : Option Int) : sIx n d o ≤ n := by
  cases o with
  | none => exact hd
  | some v =>
    show (if v < 0 then (v + (n : Int)).toNat else min v.toNat n) ≤ n
    by_cases hv : v < 0
    · rw [if_pos hv]; omega
    · rw [if_neg hv]; exact Nat.min_le_right _ _
theorem clip_eq (v : Int) (n d : Nat) : (if v < 0 then max (v + (n : Int)) 0 else min v (n : Int)) = ((sIx n d (some v) : Nat) : Int) := by
  show (if v < 0 then max (v + (n : Int)) 0 else min v (n : Int)) = (((if v < 0 then (v + (n : Int)).toNat else min v.toNat n) : Nat) : Int)
  by_cases hv : v < 0
  · simp only [if_pos hv]; omega
  · simp only [if_neg hv]; omega
theorem adjust_gen (lo hi : Option Int) (n : Nat) : Builtin.Slice.sliceAdjust lo hi 1 (n : Int) = (((sIx n 0 lo : Nat) : Int), ((sIx n n hi : Nat) : Int)) := by
  have h1 : ¬ ((1 : Int) < 0) := by omega
  unfold Builtin.Slice.sliceAdjust
  simp only [h1, if_false]
  refine Prod.ext ?_ ?_
  · cases lo with
    | none => rfl
    | some v => exact clip_eq v n 0
  · cases hi with
    | none => rfl
    | some v => exact clip_eq v n n
theorem places_gen (i j : Nat) : Builtin.Slice.slicePlaces (i : Int) (j : Int) 1 = j - i := by
  unfold Builtin.Slice.slicePlaces
  have h1 : (1 : Int) > 0 := by omega
  simp only [h1, if_true, Int.ediv_one]
  split <;> omega
theorem slicePart_ {v : Value} {o : Option Int} {Q : Option Int → Shared → Prop} (p : IsPart v o) (h : Q o s) : wpAny (model prog w) A (Builtin.Slice.slicePartIndex v) Q E s := by
  cases p with
  | none => exact slicePart_none h
  | int i t => exact slicePart_int h
theorem sliceApplied_gen {sl : Addr} {vl vu : Value} {lo hi : Option Int} {n : Nat} {Q : Int × Int × Nat → Shared → Prop} (hs : s.heap.IsSliceOf sl vl vu .none) (pl : IsPart vl lo) (pu : IsPart vu hi)
    (h : Q (((sIx n 0 lo : Nat) : Int), 1, sIx n n hi - sIx n 0 lo) s) : wpAny (model prog w) A (Builtin.Slice.sliceApplied (.ref sl) (pure (n : Int))) Q E s := by
  obtain ⟨os, hos, hcs, hds⟩ := id hs
  unfold Builtin.Slice.sliceApplied Builtin.Slice.sliceFields
  refine wpAny_bind (wpAny_bind (wpAny_field hos hds (x := vl) rfl (wpAny_bind (wpAny_field hos hds (x := vu) rfl (wpAny_bind (wpAny_field hos hds (x := .none) rfl (wpAny_pure ?_)))))))
  refine wpAny_bind (slicePart_none ?_)
  show wpAny _ _ (if ((1 : Int) == 0) = true then _ else _) _ _ s
  rw [if_neg (by decide)]
  refine wpAny_bind (slicePart_ pl (wpAny_bind (slicePart_ pu (wpAny_bind (wpAny_pure ?_)))))
  show wpAny _ _ (match Builtin.Slice.sliceAdjust lo hi 1 (n : Int) with | (lo, hi) => pure (lo, (1 : Int), Builtin.Slice.slicePlaces lo hi 1)) _ _ s
  rw [adjust_gen lo hi n]
  show wpAny _ _ (pure (((sIx n 0 lo : Nat) : Int), (1 : Int), Builtin.Slice.slicePlaces ((sIx n 0 lo : Nat) : Int) ((sIx n n hi : Nat) : Int) 1)) _ _ s
  rw [places_gen]
  exact wpAny_pure h
theorem pick_gen (xs : Array Value) (i k : Nat) : ((List.range k).filterMap fun (m : Nat) => xs[((i : Int) + (m : Int) * 1).toNat]?).toArray = ((xs.toList.drop i).take k).toArray := by
  have e : (fun (m : Nat) => xs[((i : Int) + (m : Int) * 1).toNat]?) = fun m => xs[i + m]? := by
    funext m
    have : ((i : Int) + (m : Int) * 1).toNat = i + m := by omega
    rw [this]
  rw [e]
  have := pick_run xs i k
  rw [List.filterMap_map] at this
  have e2 : ((fun x => xs[x]?) ∘ fun x => i + x) = fun m => xs[i + m]? := rfl
  rw [e2] at this
  rw [this]

theorem getItem_tuple_cut {t sl : Addr} {items : Array Value} {vl vu : Value} {lo hi : Option Int} {Q : Value → Shared → Prop} (ht : IsTup s.heap t items) (hs : s.heap.IsSliceOf sl vl vu .none) (pl : IsPart vl lo) (pu : IsPart vu hi)
    (hw : ¬ (sIx items.size 0 lo = 0 ∧ sIx items.size items.size hi = items.size))
    (h : Q (.ref s.heap.objs.size) { s with heap := s.heap.push { cls := .type "tuple", data := .seq ((items.toList.drop (sIx items.size 0 lo)).take (sIx items.size items.size hi - sIx items.size 0 lo)).toArray } })
    (hsz : items.size ≤ sizeLine) : wpAny (model prog w) A (getItem (.ref t) (.ref sl)) Q E s := by
  have htake : sizeOk (.seq ((items.toList.drop (sIx items.size 0 lo)).take (sIx items.size items.size hi - sIx items.size 0 lo)).toArray) := by
    show ((items.toList.drop (sIx items.size 0 lo)).take (sIx items.size items.size hi - sIx items.size 0 lo)).toArray.size ≤ sizeLine
    rw [List.size_toArray, List.length_take, List.length_drop, Array.length_toList]
    omega
  have hj : sIx items.size items.size hi ≤ items.size := sIx_le _ _ (Nat.le_refl _) hi
  obtain ⟨os, hos, hcs, hds⟩ := id hs
  have hTs : s.TypeIs (.ref sl) "slice" := ⟨os, hos, hcs⟩
  unfold getItem
  try with_reducible refine wpAny_holding ?_
  first | refine wpAny_bind (wpAny_pure ?_) | skip
  refine wpAny_bind (wpAny_sequenceKey ht.typeIs (by decide) ?_)
  refine wpAny_bind (wpAny_callSpecial?_slot (name := Str.ofString "__getitem__") ht.typeIs PyProof.Rows.slot_tuple_getitem
    (wpAny_call_entry PyProof.Rows.slot_tuple_getitem ht.typeIs entry_tuple_getitem ?_ (args_tuple_getitem _ _)))
  show wpAny _ _ (Builtin.Tuple.tupleItemsOf (.ref t) >>= _) _ _ s
  refine wpAny_bind (tupleItemsOf_ ht ?_)
  refine wpAny_bind (wpAny_typeOf hTs ?_)
  rw [if_pos (by decide)]
  refine wpAny_bind (sliceApplied_gen hs pl pu ?_)
  have hno : ¬ ((((sIx items.size 0 lo : Nat) : Int) == 0 && (1 : Int) == 1 && (sIx items.size items.size hi - sIx items.size 0 lo) == items.size) = true) := by
    intro q
    rw [Bool.and_eq_true, Bool.and_eq_true] at q
    have q1 : ((sIx items.size 0 lo : Nat) : Int) = 0 := eq_of_beq q.1.1
    have q2 : sIx items.size items.size hi - sIx items.size 0 lo = items.size := eq_of_beq q.2
    exact hw ⟨by omega, by omega⟩
  show wpAny _ _ (if (((sIx items.size 0 lo : Nat) : Int) == 0 && (1 : Int) == 1 && (sIx items.size items.size hi - sIx items.size 0 lo) == items.size) = true then _ else _) _ _ s
  rw [if_neg hno, pick_gen]
  first
    | exact wpAny_bind (m := Builtin.Tuple.tupleExact _) (wpAny_newObj_type (wpAny_pure ⟨_, rfl, wpAny_pure h⟩) htake)
    | exact wpAny_bind (m := Builtin.Tuple.tupleExact _) (wpAny_newObj_type (wpAny_bind (wpAny_pure (wpAny_pure ⟨_, rfl, wpAny_pure h⟩))) htake)
    | exact wpAny_bind (wpAny_bind (m := Builtin.Tuple.tupleExact _) (wpAny_newObj_type (wpAny_pure (wpAny_pure ⟨_, rfl, wpAny_pure h⟩)) htake))
    | exact wpAny_bind (wpAny_bind (m := Builtin.Tuple.tupleExact _) (wpAny_newObj_type (wpAny_pure ⟨_, rfl, wpAny_pure h⟩) htake))
end
end HT

namespace L2
open PySem PySem.Spec PyProof.Rows

/-! ### the parts of a slice -/
abbrev TO := St → Hp → (Option Int → Hp → Prop) → Prop
/-- a slice's part (left out, or an int) -/
def PO (X : Cx) (e : Option Expr) (t : TO) : Prop :=
  ∀ (pins : List (Addr × Obj)) (s : Shared) (σ : St) (H : Hp) (Q : Option Int → Hp → Prop), Inv X pins σ H s → t σ H Q →
    wpAny (model X.prog X.w) X.A (evalPart e X.env) (fun u s' => ∃ o H', Inv X pins σ H' s' ∧ IsPart u o ∧ Q o H') X.xe s
def tNoPart : TO := fun _ H Q => Q none H
def tPart (t : TE) : TO := fun σ H Q => t σ H fun x H1 => ∃ i, x = .int i ∧ Q (some i) H1

theorem intsAre_of {ns : List Int} : ∀ {us : List Value}, Vals (ns.map V.int) us → IntsAre us ns := by
  induction ns with
  | nil => intro us r; rw [List.map_nil] at r; cases r; exact .nil
  | cons n ns ih =>
    intro us r
    rw [List.map_cons] at r
    cases r with
    | cons r1 r2 =>
      obtain ⟨t, e⟩ := r1
      subst e
      exact .cons n t (ih r2)

section
variable {X : Cx} {e : Expr} {te : TE} {lo hi : Option Expr} {tl th : TO} {pos p2 : Pos}

theorem po_none : PO X none tNoPart := by
  intro pins s σ H Q I h
  rw [evalPart_none]
  exact wpAny_pure ⟨none, H, I, .none, h⟩
theorem po_some (h : PE X e te) : PO X (some e) (tPart te) := by
  intro pins s σ H Q I hw
  rw [evalPart_some]
  refine thn (h pins s σ H _ I hw) fun u s1 ⟨x, H1, I1, r1, q1⟩ => ?_
  obtain ⟨i, rfl, q⟩ := q1
  obtain ⟨t, rfl⟩ := r1
  exact ⟨some i, H1, I1, .int i t, q⟩

/-- what a slice of a value is, by values: the slice object stands at sl -/
def SlR (X : Cx) (r : V → Option Int → Option Int → Hp → VK → Prop) : Prop :=
  ∀ (pins : List (Addr × Obj)) (s : Shared) (σ : St) (H : Hp) (x : V) (v vl vu : Value) (lo hi : Option Int) (sl : Addr) (Q : VK), Inv X pins σ H s → RelV x v → s.heap.IsSliceOf sl vl vu .none → IsPart vl lo → IsPart vu hi → r x lo hi H Q →
    ∃ T id, typeLookup (.type T) "__getitem__" = pure (some (.builtin id)) ∧ s.TypeIs v T ∧ wpAny (model X.prog X.w) X.A (getItem v (.ref sl)) (EP X pins σ Q) X.xe s
theorem SlR.or {r r' : V → Option Int → Option Int → Hp → VK → Prop} (h : SlR X r) (h' : SlR X r') : SlR X (fun x lo hi H Q => r x lo hi H Q ∨ r' x lo hi H Q) := by
  intro pins s σ H x v vl vu lo hi sl Q I rx hs pl pu q
  rcases q with q | q
  · exact h pins s σ H x v vl vu lo hi sl Q I rx hs pl pu q
  · exact h' pins s σ H x v vl vu lo hi sl Q I rx hs pl pu q
def tSl (r : V → Option Int → Option Int → Hp → VK → Prop) (te : TE) (tl th : TO) : TE := fun σ H Q => te σ H fun x H1 => tl σ H1 fun l H2 => th σ H2 fun u H3 => r x l u H3 Q
/-- a[lo:hi], any a -/
theorem pe_slice {r : V → Option Int → Option Int → Hp → VK → Prop} (hr : SlR X r) (he : PE X e te) (hl : PO X lo tl) (hu : PO X hi th) : PE X (.Subscript e (.Slice lo hi none p2) pos) (tSl r te tl th) := by
  intro pins s σ H Q I h
  refine Subscript_ (thn (he pins s σ H _ I h) fun v s1 ⟨x, H1, I1, r1, q1⟩ => ?_)
  refine wpAny_Slice (thn (hl pins s1 σ H1 _ I1 q1) fun vl s2 ⟨l, H2, I2, pl, q2⟩ => thn (hu pins s2 σ H2 _ I2 q2) fun vu s3 ⟨u, H3, I3, pu, q3⟩ => ?_)
  rw [evalPart_none]
  refine wpAny_pure ?_
  have I4 : Inv X pins σ H3 { s3 with heap := s3.heap.push { cls := .type "slice", data := .fields #[vl, vu, .none] } } := I3.kept (t' := s3.toks) fun b ob q => Heap.get?_push_of_some _ q
  obtain ⟨T, id, hT, ht, hg⟩ := hr pins { s3 with heap := s3.heap.push { cls := .type "slice", data := .fields #[vl, vu, .none] } } σ H3 x v vl vu l u s3.heap.objs.size Q I4 r1 (Heap.IsSliceOf.new ..) pl pu q3
  show wpAny (model X.prog X.w) X.A (subscriptTail e (.Slice lo hi none p2) v (.ref s3.heap.objs.size)) (EP X pins σ Q) X.xe { s3 with heap := s3.heap.push { cls := .type "slice", data := .fields #[vl, vu, .none] } }
  exact tail_any (ops := [.ref s3.heap.objs.size, v]) ht hT hg (by with_unfolding_all rfl)

/-- the items of xs[lo:hi] -/
def cutV (xs : List V) (lo hi : Option Int) : List V := (xs.drop (HT.sIx xs.length 0 lo)).take (HT.sIx xs.length xs.length hi - HT.sIx xs.length 0 lo)
theorem cutV_length (xs : List V) (lo hi : Option Int) : (cutV xs lo hi).length ≤ xs.length := by
  unfold cutV
  rw [List.length_take, List.length_drop]
  omega
/-- t[lo:hi], not the whole of it (the whole would be t itself) -/
def rSlT (K : PySem.W.Frag) : V → Option Int → Option Int → Hp → VK → Prop := fun x lo hi H Q => ∃ a xs, x = .ref a ∧ SqT K H a xs ∧
  ¬ (HT.sIx xs.length 0 lo = 0 ∧ HT.sIx xs.length xs.length hi = xs.length) ∧ ∀ p, H p = none → Q (.ref p) (upd H p (.tup (cutV xs lo hi)))
theorem sl_tup : SlR X (rSlT X.K) := by
  intro pins s σ H x v vl vu lo hi sl Q I rx hs pl pu h
  obtain ⟨a, xs, rfl, hx, hw, q⟩ := h
  cases rx
  obtain ⟨its, r, ht, hz⟩ := I.tuple hx
  have hlen : its.toArray.size = xs.length := by rw [List.size_toArray]; exact r.length.symm
  refine ⟨"tuple", _, PyProof.Rows.slot_tuple_getitem.lookup, ht.typeIs, ?_⟩
  refine HT.getItem_tuple_cut ht hs pl pu (by rw [hlen]; exact hw) ?_ (by rw [hlen]; exact hz)
  rw [hlen]
  refine ⟨.ref s.heap.objs.size, _, I.laid (t' := s.toks) (o := .tup (cutV xs lo hi)) (fun b ob q => Heap.get?_push_of_some _ q) (Nat.le_refl _) ?_, rfl, q _ (I.hok.fresh (Nat.le_refl _))⟩
  exact ⟨Nat.le_trans (cutV_length xs lo hi) hz, _, (r.drop (HT.sIx xs.length 0 lo)).take (HT.sIx xs.length xs.length hi - HT.sIx xs.length 0 lo), IsTup.new _ _⟩

/-! ### t < u, t + u -/
end
end L2

namespace L2
open PySem PySem.Spec PyProof.Rows

/-! ### places -/
/-- the place that an index of any sign means -/
def ixN (n : Nat) (i : Int) : Option Nat := if 0 ≤ i then (if i < n then some i.toNat else none) else if -(n : Int) ≤ i then some (i + n).toNat else none
def atI {α : Type} (xs : List α) (i : Int) : Option α := (ixN xs.length i).bind fun j => xs[j]?
theorem ixN_seq {n : Nat} {i : Int} {j : Nat} (h : ixN n i = some j) : seqIndex? i n = some j ∧ j < n ∧ -(n : Int) ≤ i ∧ i < n := by
  unfold ixN at h
  by_cases h0 : 0 ≤ i
  · rw [if_pos h0] at h
    by_cases h1 : i < n
    · rw [if_pos h1] at h
      have e : i.toNat = j := Option.some.inj h
      exact ⟨by rw [seqIndex_of h0 h1, e], by omega, by omega, h1⟩
    · rw [if_neg h1] at h; cases h
  · rw [if_neg h0] at h
    by_cases h1 : -(n : Int) ≤ i
    · rw [if_pos h1] at h
      have e : (i + n).toNat = j := Option.some.inj h
      exact ⟨by rw [seqIndex_neg (by omega) h1, e], by omega, h1, by omega⟩
    · rw [if_neg h1] at h; cases h
theorem atI_get {α : Type} {xs : List α} {i : Int} {v : α} (h : atI xs i = some v) : ∃ j, seqIndex? i xs.length = some j ∧ xs[j]? = some v ∧ j < xs.length ∧ -(xs.length : Int) ≤ i ∧ i < xs.length := by
  unfold atI at h
  cases e : ixN xs.length i with
  | none => rw [e] at h; cases h
  | some j =>
    rw [e] at h
    obtain ⟨h1, h2, h3, h4⟩ := ixN_seq e
    exact ⟨j, h1, h, h2, h3, h4⟩
theorem atI_nat {α : Type} {xs : List α} {j : Nat} {v : α} (h : xs[j]? = some v) : atI xs (j : Int) = some v := by
  have hj : j < xs.length := (List.getElem?_eq_some_iff.mp h).1
  have e : ixN xs.length (j : Int) = some j := by
    unfold ixN
    rw [if_pos (by omega), if_pos (by omega)]; simp
  unfold atI; rw [e]; exact h
theorem atI_last {α : Type} (xs : List α) (v : α) : atI (xs ++ [v]) (-1) = some v := by
  have hl : (xs ++ [v]).length = xs.length + 1 := by simp
  have e : ixN (xs ++ [v]).length (-1) = some xs.length := by
    unfold ixN
    rw [hl, if_neg (by decide), if_pos (by omega)]
    congr 1
    omega
  unfold atI
  rw [e]
  show (xs ++ [v])[xs.length]? = some v
  simp

/-! ### what may be subscripted -/
/-- what stands as an index of a plain subscript -/
def PlainIx (b : Expr) : Prop := ∀ o i, subscripted b false o i = operate [o, i] (getItem o i)
/-- a subscript by values -/
def IxR (X : Cx) (r : R2) : Prop :=
  ∀ (value slice : Expr) (pins : List (Addr × Obj)) (s : Shared) (σ : St) (H : Hp) (x y : V) (v u : Value) (Q : VK), Inv X pins σ H s → RelV x v → RelV y u → r x y H Q →
    subscripted slice false v u = operate [v, u] (getItem v u) → wpAny (model X.prog X.w) X.A (subscriptTail value slice v u) (EP X pins σ Q) X.xe s
/-- a call of a builtin's method by values: the receiver, the arguments -/
def MtR (X : Cx) (id : String) (r : V → List V → Hp → VK → Prop) : Prop :=
  ∀ (pins : List (Addr × Obj)) (s : Shared) (σ : St) (H : Hp) (x : V) (xs : List V) (v : Value) (us : List Value) (Q : VK), Inv X pins σ H s → RelV x v → Vals xs us → r x xs H Q →
    wpAny (model X.prog X.w) X.A (call (.builtin id) (v :: us)) (EP X pins σ Q) X.xe s
section
variable {X : Cx} {a b : Expr} {ta tb : TE} {pos : Pos}
theorem IxR.or {r r' : R2} (h : IxR X r) (h' : IxR X r') : IxR X (fun x y H Q => r x y H Q ∨ r' x y H Q) := by
  intro value slice pins s σ H x y v u Q I rx ry q hs
  rcases q with q | q
  · exact h value slice pins s σ H x y v u Q I rx ry q hs
  · exact h' value slice pins s σ H x y v u Q I rx ry q hs
theorem MtR.or {id : String} {r r' : V → List V → Hp → VK → Prop} (h : MtR X id r) (h' : MtR X id r') : MtR X id (fun x xs H Q => r x xs H Q ∨ r' x xs H Q) := by
  intro pins s σ H x xs v us Q I rx rs q
  rcases q with q | q
  · exact h pins s σ H x xs v us Q I rx rs q
  · exact h' pins s σ H x xs v us Q I rx rs q
/-- a[b] -/
theorem pe_ix {r : R2} (hr : IxR X r) (ha : PE X a ta) (hb : PE X b tb) (hs : PlainIx b) : PE X (.Subscript a b pos) (tOp r ta tb) := by
  intro pins s σ H Q I h
  exact Subscript_ (binT ha hb I h fun v u s2 x y H2 I2 rx ry q => hr a b pins s2 σ H2 x y v u Q I2 rx ry q (hs _ _))

def rIxL (K : PySem.W.Frag) : R2 := fun x y H Q => ∃ p xs i v, x = .ref p ∧ y = .int i ∧ SqL K H p xs ∧ atI xs i = some v ∧ Q v H
def rIxT (K : PySem.W.Frag) : R2 := fun x y H Q => ∃ p xs i v, x = .ref p ∧ y = .int i ∧ SqT K H p xs ∧ atI xs i = some v ∧ Q v H
def rIxS : R2 := fun x y H Q => ∃ z i c, x = .str z ∧ y = .int i ∧ z.length ≤ sizeLine ∧ atI z.cps.toList i = some c ∧ Q (.str ⟨#[c]⟩) H
theorem ix_list : IxR X (rIxL X.K) := by
  intro value slice pins s σ H x y v u Q I rx ry h hs
  obtain ⟨p, xs, i, z, rfl, rfl, hq, he, q⟩ := h
  cases rx
  obtain ⟨t, rfl⟩ := ry
  obtain ⟨its, r, pl, hz⟩ := I.list hq
  obtain ⟨j, h1, h2, h3, h4, h5⟩ := atI_get he
  obtain ⟨w, ew, rw'⟩ := r.get h2
  have hl := r.length
  have hn := line63
  have fin : EP X pins σ Q w s := ⟨z, H, I, rw', q⟩
  by_cases h0 : 0 ≤ i
  · have hj : i.toNat = j := by
      rw [seqIndex_of h0 h5] at h1
      exact Option.some.inj h1
    exact item_listR pl.isList h0 (by omega) (by rw [hj]; simpa using ew) fin hs
  · have hj : (i + (its.toArray.size : Int)).toNat = j := by
      rw [seqIndex_neg (by omega) h4] at h1
      rw [List.size_toArray, ← hl]
      exact Option.some.inj h1
    exact subscriptTail_builtinR (x := w) pl.isList.typeIs slot_list_getitem.lookup
      (wpAny_getItem_list_neg (Q := fun r s' => r = w ∧ EP X pins σ Q r s') pl.isList (by omega) (by rw [List.size_toArray] <;> omega) (by omega) (by rw [hj]; simpa using ew) ⟨rfl, fin⟩) hs
theorem ix_tup : IxR X (rIxT X.K) := by
  intro value slice pins s σ H x y v u Q I rx ry h hs
  obtain ⟨p, xs, i, z, rfl, rfl, hq, he, q⟩ := h
  cases rx
  obtain ⟨t, rfl⟩ := ry
  obtain ⟨its, r, pl, hz⟩ := I.tuple hq
  obtain ⟨j, h1, h2, h3, h4, h5⟩ := atI_get he
  obtain ⟨w, ew, rw'⟩ := r.get h2
  have hl := r.length
  have hn := line63
  have fin : EP X pins σ Q w s := ⟨z, H, I, rw', q⟩
  exact subscriptTail_builtinR (x := w) pl.typeIs slot_tuple_getitem.lookup
    (getItem_tuple (j := j) (Q := fun r s' => r = w ∧ EP X pins σ Q r s') pl (by omega) (by omega) (by rw [List.size_toArray, ← hl]; exact h1) (by simpa using ew) ⟨rfl, fin⟩) hs
theorem ix_str : IxR X rIxS := by
  intro value slice pins s σ H x y v u Q I rx ry h hs
  obtain ⟨z, i, c, rfl, rfl, hz, he, q⟩ := h
  obtain ⟨t, rfl⟩ := rx
  obtain ⟨t', rfl⟩ := ry
  obtain ⟨j, h1, h2, h3, h4, h5⟩ := atI_get he
  have hl : z.cps.toList.length = z.length := by simp [Str.length]
  rw [hl] at h1 h4 h5
  have hn := line63
  exact tail_any (typeIs_str s z t) slot_str_getitem.lookup (getItem_str (c := c) (by
    have e1 : decide (i < -(2 ^ 63 : Int)) = false := decide_eq_false (by omega)
    have e2 : decide (i ≥ 2 ^ 63) = false := decide_eq_false (by omega)
    rw [e1, e2, Bool.or_false]) (by rw [h1]; simpa using h2) ⟨.str ⟨#[c]⟩, H, I.tok _, ⟨_, rfl⟩, q⟩) hs
/-! ### xs[i] = v, any sign -/
theorem Inv.lst {pins : List (Addr × Obj)} {σ : St} {H : Hp} {s : Shared} {p : Addr} {xs : List V} (I : Inv X pins σ H s) (h : H p = some (.lst xs)) :
    ∃ (its : List Value) (n : Nat), Vals xs its ∧ s.heap.get? p = some { cls := .type "list", data := .seq its.toArray n } ∧ xs.length ≤ sizeLine := by
  obtain ⟨z, its, n, r, e⟩ := I.hok p _ h
  exact ⟨its, n, r, e, z⟩
def rSetL : V → V → V → Hp → (Hp → Prop) → Prop := fun o i v H Q => ∃ p xs k j, o = .ref p ∧ i = .int k ∧ H p = some (.lst xs) ∧ ixN xs.length k = some j ∧ Q (upd H p (.lst (xs.set j v)))
/-! ### slices -/
theorem slice_bounds (lo hi : Option Int) (n : Nat) : (sliceBounds lo hi none n).1 = ((HT.sIx n 0 lo : Nat) : Int) ∧ (sliceBounds lo hi none n).2.1 = ((HT.sIx n n hi : Nat) : Int) ∧ (sliceBounds lo hi none n).2.2 = 1 := by
  refine ⟨?_, ?_, rfl⟩
  · cases lo with
    | none => simp [sliceBounds, HT.sIx]
    | some i =>
      simp only [sliceBounds, HT.sIx, Option.getD_none, show (1 : Int) > 0 by decide, if_true]
      by_cases h : i < 0
      · simp only [h, if_true] <;> omega
      · simp only [h, if_false] <;> omega
  · cases hi with
    | none => simp [sliceBounds, HT.sIx]
    | some i =>
      simp only [sliceBounds, HT.sIx, Option.getD_none, show (1 : Int) > 0 by decide, if_true]
      by_cases h : i < 0
      · simp only [h, if_true] <;> omega
      · simp only [h, if_false] <;> omega
theorem slicePick_cut (its : List Value) (lo hi : Option Int) : slicePick its.toArray lo hi none = ((its.drop (HT.sIx its.length 0 lo)).take (HT.sIx its.length its.length hi - HT.sIx its.length 0 lo)).toArray := by
  obtain ⟨h1, h2, h3⟩ := slice_bounds lo hi its.toArray.size
  unfold slicePick
  rw [h1, h2, h3]
  simp only [sliceRange_one, pick_run, List.size_toArray] <;> rfl
/-- xs[lo:hi] of a list: a new list -/
def rSlL (K : PySem.W.Frag) : V → Option Int → Option Int → Hp → VK → Prop := fun x lo hi H Q => ∃ a xs, x = .ref a ∧ SqL K H a xs ∧ ∀ p, H p = none → Q (.ref p) (upd H p (.lst (cutV xs lo hi)))
theorem sl_list : SlR X (rSlL X.K) := by
  intro pins s σ H x v vl vu lo hi sl Q I rx hs pl pu h
  obtain ⟨a, xs, rfl, hx, q⟩ := h
  cases rx
  obtain ⟨its, r, ht, hz⟩ := I.list hx
  have hlen := r.length
  refine ⟨"list", _, slot_list_getitem.lookup, ht.isList.typeIs, ?_⟩
  refine wpAny_getItem_list_slice ht.isList hs pl pu .none (by simp) ?_ (by rw [List.size_toArray] <;> omega)
  rw [slicePick_cut, ← hlen]
  refine ⟨.ref s.heap.objs.size, _, I.laid (t' := s.toks) (o := .lst (cutV xs lo hi)) (fun b ob q => Heap.get?_push_of_some _ q) (Nat.le_refl _) ?_, rfl, q _ (I.hok.fresh (Nat.le_refl _))⟩
  exact ⟨Nat.le_trans (cutV_length xs lo hi) hz, _, 0, (r.drop (HT.sIx xs.length 0 lo)).take (HT.sIx xs.length xs.length hi - HT.sIx xs.length 0 lo), Heap.get?_push_size _ rfl⟩

/-! ### in, not in: flat items -/
def flatV : V → Bool
  | .non => true
  | .bl _ => true
  | .int _ => true
  | .str _ => true
  | _ => false
/-- == of flat values -/
def eqV : V → V → Bool
  | .non, .non => true
  | .bl a, .bl b => a == b
  | .bl a, .int b => (if a then 1 else 0) == b
  | .int a, .bl b => a == (if b then 1 else 0)
  | .int a, .int b => a == b
  | .str a, .str b => a == b
  | _, _ => false
theorem eqAt_V {A : Around} {s : Shared} {y x : V} {u v : Value} (ry : RelV y u) (rx : RelV x v) (fy : flatV y = true) (fx : flatV x = true) : SeqAt.EqAt A s u v (eqV y x) := by
  cases y with
  | non =>
    cases ry
    cases x with
    | non => cases rx; exact SeqAt.EqAt.same _
    | bl b => cases rx; exact SeqAt.EqAt.none_bool b
    | int b => obtain ⟨t, rfl⟩ := rx; exact SeqAt.EqAt.none_int b t
    | str b => obtain ⟨t, rfl⟩ := rx; exact SeqAt.EqAt.none_str b t
    | _ => exact absurd (show false = true from fx) Bool.false_ne_true
  | bl a =>
    cases ry
    cases x with
    | non => cases rx; exact SeqAt.EqAt.bool_none a
    | bl b => cases rx; exact SeqAt.EqAt.bool_bool a b
    | int b => obtain ⟨t, rfl⟩ := rx; exact SeqAt.EqAt.bool_int a b t
    | str b => obtain ⟨t, rfl⟩ := rx; exact SeqAt.EqAt.bool_str a b t
    | _ => exact absurd (show false = true from fx) Bool.false_ne_true
  | int a =>
    obtain ⟨t', rfl⟩ := ry
    cases x with
    | non => cases rx; exact SeqAt.EqAt.int_none a t'
    | bl b => cases rx; exact SeqAt.EqAt.int_bool a t' b
    | int b => obtain ⟨t, rfl⟩ := rx; exact SeqAt.EqAt.int_int a t' b t
    | str b => obtain ⟨t, rfl⟩ := rx; exact SeqAt.EqAt.int_str a t' b t
    | _ => exact absurd (show false = true from fx) Bool.false_ne_true
  | str a =>
    obtain ⟨t', rfl⟩ := ry
    cases x with
    | non => cases rx; exact SeqAt.EqAt.str_none a t'
    | bl b => cases rx; exact SeqAt.EqAt.str_bool a t' b
    | int b => obtain ⟨t, rfl⟩ := rx; exact SeqAt.EqAt.str_int a t' b t
    | str b => obtain ⟨t, rfl⟩ := rx; exact SeqAt.EqAt.str_str a t' b t
    | _ => exact absurd (show false = true from fx) Bool.false_ne_true
  | _ => exact absurd (show false = true from fy) Bool.false_ne_true
def inV (x : V) (xs : List V) : Bool := xs.any fun y => eqV y x
/-- x in a list or tuple of flat items -/
def rIn (K : PySem.W.Frag) (neg : Bool) : R2 := fun x y H Q => ∃ p xs, y = .ref p ∧ (SqL K H p xs ∨ SqT K H p xs) ∧ flatV x = true ∧ xs.all flatV = true ∧ Q (.bl (if neg then !inV x xs else inV x xs)) H
/-! ### len, list(x), tuple(x) of any list or tuple that is read -/
theorem call_len_seq : CallR X (.builtin "len") (fun xs H Q => ∃ p ys, xs = [.ref p] ∧ (SqL X.K H p ys ∨ SqT X.K H p ys) ∧ Q (.int ys.length) H) := by
  intro pins s σ H xs us Q I r h
  obtain ⟨p, ys, rfl, hq, q⟩ := h
  obtain ⟨u, rfl, rx⟩ := vals1 r
  cases rx
  have hn := line63
  rcases hq with hq | hq
  · obtain ⟨its, r', pl, hz⟩ := I.list hq
    have hlen := r'.length
    exact Calls.call_len_list pl.isList (by simp only [List.size_toArray] <;> omega) ⟨.int ys.length, H, I.tok _, ⟨s.toks + 1, by rw [List.size_toArray, hlen]⟩, q⟩
  · obtain ⟨its, r', pl, hz⟩ := I.tuple hq
    have hlen := r'.length
    exact len_tuple pl (by simp only [List.size_toArray] <;> omega) ⟨.int ys.length, H, I.tok _, ⟨s.toks + 1, by rw [List.size_toArray, hlen]⟩, q⟩
theorem call_len_str : CallR X (.builtin "len") (fun xs H Q => ∃ z, xs = [.str z] ∧ z.length ≤ sizeLine ∧ Q (.int z.length) H) := by
  intro pins s σ H xs us Q I r h
  obtain ⟨z, rfl, hz, q⟩ := h
  obtain ⟨u, rfl, t, rfl⟩ := vals1 r
  have hn := line63
  exact len_str (by omega) ⟨.int z.length, H, I.tok _, ⟨_, rfl⟩, q⟩
theorem CallR.or {f : Value} {r r' : List V → Hp → VK → Prop} (h : CallR X f r) (h' : CallR X f r') : CallR X f (fun xs H Q => r xs H Q ∨ r' xs H Q) := by
  intro pins s σ H xs us Q I rs q
  rcases q with q | q
  · exact h pins s σ H xs us Q I rs q
  · exact h' pins s σ H xs us Q I rs q
theorem call_list_of : CallR X (.type "list") (fun xs H Q => ∃ p ys, xs = [.ref p] ∧ (SqL X.K H p ys ∨ SqT X.K H p ys) ∧ ∀ l, H l = none → Q (.ref l) (upd H l (.lst ys))) := by
  intro pins s σ H xs us Q I r h
  obtain ⟨p, ys, rfl, hq, q⟩ := h
  obtain ⟨u, rfl, rx⟩ := vals1 r
  cases rx
  have fin : ∀ (its : List Value), Vals ys its → ys.length ≤ sizeLine → ∀ (h' : Heap) (c' : Nat), (∀ b o', s.heap.get? b = some o' → h'.get? b = some o') →
      h'.get? s.heap.objs.size = some { cls := .type "list", dict := none, data := .seq its.toArray c', slots := #[] } → EP X pins σ Q (.ref s.heap.objs.size) { s with heap := h' } := fun its r' hz h' c' kp e =>
    ⟨.ref s.heap.objs.size, _, I.laid (t' := s.toks) kp (Nat.le_refl _) (show ObjOk X.prog X.w _ h' _ (.lst ys) from ⟨hz, its, c', r', e⟩), rfl, q _ (I.hok.fresh (Nat.le_refl _))⟩
  rcases hq with hq | hq
  · obtain ⟨its, r', pl, hz⟩ := I.list hq
    have hlen := r'.length
    obtain ⟨o, ho, hc, n, hd⟩ := pl.isList
    exact call_list_seq p (.inl rfl) ho hc hd (fun h' c' kp e => fin its r' hz h' c' kp e) (by simp only [List.size_toArray] <;> omega)
  · obtain ⟨its, r', pl, hz⟩ := I.tuple hq
    have hlen := r'.length
    obtain ⟨o, ho, hc, n, hd⟩ := pl
    exact call_list_seq p (.inr rfl) ho hc hd (fun h' c' kp e => fin its r' hz h' c' kp e) (by simp only [List.size_toArray] <;> omega)
/-! ### the call of a builtin's method: o.m(..) -/
/-- the value is of that builtin type -/
def tyV (K : PySem.W.Frag) (T : String) (x : V) (H : Hp) : Prop := match x with
  | .str _ => T = "str"
  | .int _ => T = "int"
  | .ref p => (T = "list" ∧ ∃ xs, SqL K H p xs) ∨ (T = "tuple" ∧ ∃ o, K.lookup p = some o ∧ o.cls = .type "tuple" ∧ o.dict = none) ∨
      (T = "dict" ∧ ((∃ kvs, H p = some (.dK kvs)) ∨ ∃ kvs, H p = some (.dT kvs))) ∨ (T = "set" ∧ ∃ S n, H p = some (.set S n))
  | _ => False
theorem tyV_is {pins : List (Addr × Obj)} {σ : St} {H : Hp} {s : Shared} {T : String} {x : V} {v : Value} (I : Inv X pins σ H s) (r : RelV x v) (ty : tyV X.K T x H) :
    s.TypeIs v T ∧ ∀ a, v = .ref a → ∃ ob, s.heap.get? a = some ob ∧ ob.dict = none := by
  cases x with
  | str z =>
    obtain ⟨t, rfl⟩ := r
    cases (show T = "str" from ty)
    exact ⟨typeIs_str s z t, fun _ e => nomatch e⟩
  | int i =>
    obtain ⟨t, rfl⟩ := r
    cases (show T = "int" from ty)
    exact ⟨typeIs_int s i t, fun _ e => nomatch e⟩
  | ref p =>
    cases r
    rcases ty with ⟨rfl, xs, hq⟩ | ⟨rfl, o, hk, hc, hd⟩ | ⟨rfl, hk⟩ | ⟨rfl, S, n, hk⟩
    · obtain ⟨its, _, pl, _⟩ := I.list hq
      refine ⟨pl.isList.typeIs, fun a e => ?_⟩
      cases e
      obtain ⟨o, n, e, c, hd, _⟩ := pl
      exact ⟨o, e, hd⟩
    · refine ⟨⟨o, I.kIn p o hk, hc⟩, fun a e => ?_⟩
      cases e
      exact ⟨o, I.kIn _ o hk, hd⟩
    · have z : ∃ o, s.heap.get? p = some o ∧ o.ExactDict := by
        rcases hk with ⟨kvs, hk⟩ | ⟨kvs, hk⟩
        · obtain ⟨_, _, _, _, o, _, _, e, ex, _⟩ := I.hok p _ hk
          exact ⟨o, e, ex⟩
        · obtain ⟨_, _, _, _, o, _, _, e, ex, _⟩ := I.hok p _ hk
          exact ⟨o, e, ex⟩
      obtain ⟨o, e, ex⟩ := z
      refine ⟨⟨o, e, ex.1⟩, fun a e2 => ?_⟩
      cases e2
      exact ⟨o, e, ex.2.1⟩
    · obtain ⟨o, _, _, _, e, ex, _⟩ := I.hok p _ hk
      refine ⟨⟨o, e, ex.1⟩, fun a e2 => ?_⟩
      cases e2
      exact ⟨o, e, ex.2.1⟩
  | _ => exact False.elim ty
def tBM0 (K : PySem.W.Frag) (T : String) (r : V → List V → Hp → VK → Prop) (to : TE) : TE := fun σ H Q => to σ H fun x H1 => tyV K T x H1 ∧ r x [] H1 Q
def tBM (K : PySem.W.Frag) (T : String) (r : V → List V → Hp → VK → Prop) (to : TE) (t : TA) : TE := fun σ H Q => to σ H fun x H1 => tyV K T x H1 ∧ t σ H1 fun xs H2 => r x xs H2 Q
variable {o e : Expr} {es : List Expr} {to : TE} {t : TA} {name : Str} {apos cpos : Pos} {T id : String} {r : V → List V → Hp → VK → Prop}
theorem pe_bm0 (pa : PlainAttrs T) (slot : Slot T name id) (hty : typeOf (.builtin id) = pure (.type "method_descriptor")) (hm : MtR X id r) (ho : PE X o to)
    (hbase : attributeBase o name X.env (eval o X.env) = eval o X.env := by rfl) (hline : (apos.endLine == cpos.line) = true := by rfl) : PE X (.Call (.Attribute o name apos) [] [] cpos) (tBM0 X.K T r to) := by
  intro pins s σ H Q I h
  refine wpAny_Call_method0_late hbase hline (thn (ho pins s σ H _ I h) fun v s1 ⟨x, H1, I1, r1, ty, q1⟩ => ?_)
  obtain ⟨h1, h2⟩ := tyV_is I1 r1 ty
  exact ⟨T, id, pa, slot, hty, h1, h2, Calls.callWith_builtin rfl (PySem.evalArgs_none (hm pins s1 σ H1 x [] v [] Q I1 r1 .nil q1))⟩
theorem pe_bm (pa : PlainAttrs T) (slot : Slot T name id) (hty : typeOf (.builtin id) = pure (.type "method_descriptor")) (hm : MtR X id r) (ho : PE X o to) (ha : PA X (e :: es) t)
    (hbase : attributeBase o name X.env (eval o X.env) = eval o X.env := by rfl)
    (hfew : ((backTo cpos (starEach (e :: es) X.env)).all (fun x => !x.1) && (backToKw cpos (keywordEach [] X.env)).all (fun x => x.1.isSome)
      && decide ((e :: es).length + ([] : List Keyword).length + (if ([] : List Keyword).isEmpty then 0 else 1) < 30)) = true := by rfl)
    (hline : (apos.endLine == cpos.line) = true := by rfl) (hs : starEach (e :: es) X.env = (false, eval e X.env) :: starEach es X.env := by rfl) (hplain : (backTo cpos (starEach es X.env)).any (·.1) = false := by rfl) :
    PE X (.Call (.Attribute o name apos) (e :: es) [] cpos) (tBM X.K T r to t) := by
  intro pins s σ H Q I h
  refine wpAny_Call_method_late hbase hfew hline rfl (thn (ho pins s σ H _ I h) fun v s1 ⟨x, H1, I1, r1, ty, q1⟩ => ?_)
  obtain ⟨h1, h2⟩ := tyV_is I1 r1 ty
  refine ⟨T, id, pa, slot, hty, h1, h2, ?_⟩
  have hA := ha cpos pins s1 σ H1 _ I1 q1
  rw [hs] at hA ⊢
  refine Calls.callWith_builtin (by show (false || (backTo cpos (starEach es X.env)).any (·.1)) = false; rw [hplain] <;> rfl) (Calls.evalArgs_plain ?_)
  exact thn hA fun us s2 ⟨vs, H2, I2, r2, q2⟩ => hm pins s2 σ H2 x vs v us Q I2 r1 r2 q2
/- xs.append(e), list.index on a module's tuple .. are MtR facts of 06m -/
end
end L2

namespace L2
open PySem PySem.Spec PyProof.Rows

def MtM (X : Cx) (id : String) (r : V → List V → Hp → VK → Prop) : Prop :=
  ∀ (pins : List (Addr × Obj)) (s : Shared) (σ : St) (H : Hp) (x : V) (xs : List V) (v : Value) (us : List Value) (Q : VK), Inv X pins σ H s → RelV x v → Vals xs us → r x xs H Q →
    wpAny (model X.prog X.w) X.A (call (.builtin id) (v :: us)) (EP X pins σ Q) X.xe s

/-! ### lists of values -/
theorem Vals.one : ∀ {x : V} {us : List Value}, Vals [x] us → ∃ u, us = [u] ∧ RelV x u
  | _, _, .cons r .nil => ⟨_, rfl, r⟩
theorem Vals.two : ∀ {x y : V} {us : List Value}, Vals [x, y] us → ∃ u v, us = [u, v] ∧ RelV x u ∧ RelV y v
  | _, _, _, .cons r (.cons q .nil) => ⟨_, _, rfl, r, q⟩
theorem Vals.zero : ∀ {us : List Value}, Vals [] us → us = []
  | _, .nil => rfl
theorem Vals.dropLast {xs : List V} {us : List Value} (h : Vals xs us) : Vals xs.dropLast us.dropLast := by
  induction h with
  | nil => exact .nil
  | cons r t ih =>
    cases t with
    | nil => exact .nil
    | cons q t' => exact .cons r ih
theorem Vals.eraseIdx : ∀ {xs : List V} {us : List Value} (i : Nat), Vals xs us → Vals (xs.eraseIdx i) (us.eraseIdx i)
  | _, _, _, .nil => .nil
  | _, _, 0, .cons _ t => t
  | _, _, i + 1, .cons r t => .cons r (Vals.eraseIdx i t)
theorem Vals.reverse {xs : List V} {us : List Value} (h : Vals xs us) : Vals xs.reverse us.reverse := by
  induction h with
  | nil => exact .nil
  | cons r t ih => rw [List.reverse_cons, List.reverse_cons]; exact Vals.append ih (.cons r .nil)
theorem Vals.rep {xs : List V} {us : List Value} (h : Vals xs us) : ∀ k : Nat, Vals (List.replicate k xs).flatten (List.replicate k us).flatten
  | 0 => .nil
  | k + 1 => by
    rw [List.replicate_succ, List.replicate_succ, List.flatten_cons, List.flatten_cons]
    exact Vals.append h (Vals.rep h k)
theorem erase_last {α : Type} (l : List α) : l.eraseIdx (l.length - 1) = l.dropLast := by
  induction l with
  | nil => rfl
  | cons a r ih =>
    cases r with
    | nil => rfl
    | cons b r =>
      have e : (a :: b :: r).length - 1 = ((b :: r).length - 1) + 1 := by
        have h1 : (a :: b :: r).length = r.length + 2 := rfl
        have h2 : (b :: r).length = r.length + 1 := rfl
        omega
      rw [e, List.eraseIdx_cons_succ, ih]
      all_goals rfl
theorem foldl_rep (its : List Value) : ∀ (k : Nat) (acc : List Value),
    List.foldl (fun x1 x2 => x1 ++ x2) acc.toArray (List.replicate k its.toArray) = (acc ++ (List.replicate k its).flatten).toArray
  | 0, acc => by simp
  | k + 1, acc => by
    have e : acc.toArray ++ its.toArray = (acc ++ its).toArray := by simp
    have e2 : (acc ++ its) ++ (List.replicate k its).flatten = acc ++ (List.replicate (k + 1) its).flatten := by
      rw [List.replicate_succ, List.flatten_cons, List.append_assoc]
    rw [← e2, ← foldl_rep its k (acc ++ its), ← e, List.replicate_succ, List.foldl_cons]

section
variable {X : Cx} {pins : List (Addr × Obj)} {σ : St} {H : Hp} {s : Shared} {l b : Addr} {xs ys zs : List V}

/-! ### the two steps: a tracked list is rewritten, a new list is laid -/
theorem Inv.lset {its its' : List Value} {n : Nat} {f : Array Value → Array Value} {t' : Nat} (I : Inv X pins σ H s) (hH : H l = some (.lst xs))
    (e : s.heap.get? l = some { cls := .type "list", data := .seq its.toArray n }) (hf : f its.toArray = its'.toArray) (hv : Vals ys its') (hz : ys.length ≤ sizeLine) :
    Inv X pins σ (upd H l (.lst ys)) { s with heap := s.heap.update l (Obj.mapSeq f), toks := t' } := by
  have q := PySem.IsL.update e f
  rw [hf] at q
  refine I.write (x := l) (e := l) (by rw [hH]; exact trivial) (.inl rfl) (fun b' u hb hu => (Heap.get?_update_other s.heap (Obj.mapSeq f) (Ne.symm hb)).trans hu) ⟨_, q⟩ ?_
  exact ⟨hz, its', _, hv, q⟩
theorem Inv.lnew {its : List Value} {t' : Nat} (I : Inv X pins σ H s) (hv : Vals ys its) (hz : ys.length ≤ sizeLine) :
    Inv X pins σ (upd H s.heap.objs.size (.lst ys)) { s with heap := s.heap.push { cls := .type "list", data := .seq its.toArray }, toks := t' } :=
  I.laid (fun _ _ q => Heap.get?_push_of_some _ q) (Nat.le_refl _) ⟨hz, its, 0, hv, Heap.get?_push_size _ rfl⟩
theorem Inv.fresh (I : Inv X pins σ H s) : H s.heap.objs.size = none := I.hok.fresh (Nat.le_refl _)
theorem Inv.lstM (I : Inv X pins σ H s) (hH : H l = some (.lst xs)) : xs.length ≤ sizeLine ∧ ∃ (its : List Value) (n : Nat), Vals xs its ∧ xs.length = its.length ∧ s.heap.get? l = some { cls := .type "list", data := .seq its.toArray n } := by
  obtain ⟨z, its, n, r, e⟩ := I.hok l _ hH
  exact ⟨z, its, n, r, r.length, e⟩

theorem notLongL {n : Nat} (h : n ≤ sizeLine) : Builtin.List.listTooLong n = false := by
  unfold Builtin.List.listTooLong
  exact decide_eq_false (by omega)
end

section
variable {X : Cx}

/-! ### methods -/
def rAppend : V → List V → Hp → VK → Prop := fun x vs H Q => ∃ l xs y, x = .ref l ∧ vs = [y] ∧ H l = some (.lst xs) ∧ xs.length < sizeLine ∧ Q .non (upd H l (.lst (xs ++ [y])))
theorem mt_append : MtM X "list.append" rAppend := by
  intro pins s σ H x vs v us Q I rx rv h
  obtain ⟨l, xs, y, rfl, rfl, hH, hz, q⟩ := h
  cases rx
  obtain ⟨u, rfl, ru⟩ := rv.one
  obtain ⟨z, its, n, r, hl, e⟩ := I.lstM hH
  refine call_meets F.slot_list_append ⟨_, e, rfl⟩ F.entry_list_append (F.args_list_append_2 _ _) (PySem.list_append l its.toArray n u (by rw [List.size_toArray]; omega)) ⟨e, ?_⟩
  refine ⟨.non, _, I.lset (its' := its ++ [u]) hH e (by simp) (r.append (.cons ru .nil)) ?_, rfl, q⟩
  rw [List.length_append, List.length_singleton]
  omega

def rExtend : V → List V → Hp → VK → Prop := fun x vs H Q => ∃ l b xs zs, x = .ref l ∧ vs = [.ref b] ∧ H l = some (.lst xs) ∧ H b = some (.lst zs) ∧ xs.length + zs.length ≤ sizeLine ∧ Q .non (upd H l (.lst (xs ++ zs)))
def rPop : V → List V → Hp → VK → Prop := fun x vs H Q => ∃ l xs y, x = .ref l ∧ vs = [] ∧ H l = some (.lst xs) ∧ xs[xs.length - 1]? = some y ∧ Q y (upd H l (.lst xs.dropLast))
theorem mt_pop : MtM X "list.pop" rPop := by
  intro pins s σ H x vs v us Q I rx rv h
  obtain ⟨l, xs, y, rfl, rfl, hH, hy, q⟩ := h
  cases rx
  have hus := rv.zero
  subst hus
  obtain ⟨z, its, n, r, hl, e⟩ := I.lstM hH
  obtain ⟨u, hu, ru⟩ := r.get hy
  have hy' : its.toArray[its.toArray.size - 1]? = some u := by
    show its.toArray[its.length - 1]? = some u
    rw [← Array.getElem?_toList, ← hl]
    exact hu
  refine call_meets F.slot_list_pop ⟨_, e, rfl⟩ F.entry_list_pop (F.args_list_pop_1 _) (MeetsSeq.list_pop_last l its.toArray n u hy' (by rw [List.size_toArray]; omega)) ⟨e, ?_⟩
  refine ⟨y, _, I.lset (its' := its.dropLast) hH e ?_ r.dropLast ?_, ru, q⟩
  · show its.toArray.eraseIdxIfInBounds (its.toArray.size - 1) = its.dropLast.toArray
    rw [List.size_toArray, List.eraseIdxIfInBounds_toArray, erase_last]
  · rw [List.length_dropLast]
    omega

def rPopAt : V → List V → Hp → VK → Prop := fun x vs H Q => ∃ l xs i k y, x = .ref l ∧ vs = [.int i] ∧ H l = some (.lst xs) ∧ -(2 ^ 63) ≤ i ∧ i < 2 ^ 63 ∧ seqIndex? i xs.length = some k ∧ xs[k]? = some y ∧ Q y (upd H l (.lst (xs.eraseIdx k)))
/-! ### list + list, list += list, list * int -/
def rCat : R2 := fun x y H Q => ∃ l b xs zs, x = .ref l ∧ y = .ref b ∧ H l = some (.lst xs) ∧ H b = some (.lst zs) ∧ xs.length + zs.length ≤ sizeLine ∧ ∀ p, H p = none → Q (.ref p) (upd H p (.lst (xs ++ zs)))
theorem op_cat : OpR X (binaryOp .Add) rCat := by
  intro pins s σ H x y v u Q I rx ry h
  obtain ⟨l, b, xs, zs, rfl, rfl, hH, hB, hz, q⟩ := h
  cases rx
  cases ry
  obtain ⟨z, its, n, r, hl, e⟩ := I.lstM hH
  obtain ⟨z2, its2, n2, r2, hl2, e2⟩ := I.lstM hB
  refine PySem.P.add_list e e2 ?_ (by rw [List.size_toArray, List.size_toArray]; omega)
  have ea : its.toArray ++ its2.toArray = (its ++ its2).toArray := by simp
  rw [ea]
  exact ⟨.ref _, _, I.lnew (t' := s.toks) (r.append r2) (by rw [List.length_append]; omega), rfl, q _ I.fresh⟩
/-- a list times an int (a negative one is nothing) -/
def rRep : R2 := fun x y H Q => ∃ l k xs, x = .ref l ∧ y = .int k ∧ H l = some (.lst xs) ∧ -(2 ^ 63) ≤ k ∧ k < 2 ^ 63 ∧ xs.length * k.toNat ≤ sizeLine ∧
  ∀ p, H p = none → Q (.ref p) (upd H p (.lst (List.replicate k.toNat xs).flatten))
theorem len_rep {α : Type} (xs : List α) (k : Nat) : (List.replicate k xs).flatten.length = k * xs.length := by
  induction k with
  | zero => simp
  | succ k ih => rw [List.replicate_succ, List.flatten_cons, List.length_append, ih, Nat.succ_mul, Nat.add_comm]
theorem op_rep : OpR X (binaryOp .Mult) rRep := by
  intro pins s σ H x y v u Q I rx ry h
  obtain ⟨l, k, xs, rfl, rfl, hH, h1, h2, hz, q⟩ := h
  cases rx
  obtain ⟨t, rfl⟩ := ry
  obtain ⟨z, its, n, r, hl, e⟩ := I.lstM hH
  have hlen : its.toArray.size * k.toNat ≤ sizeLine := by rw [List.size_toArray, ← hl]; exact hz
  have hcap : ¬ its.toArray.size * k.toNat > (2 ^ 63 - 1) / 8 := by
    have : (sizeLine : Nat) ≤ (2 ^ 63 - 1) / 8 := by decide
    omega
  have hfit : ¬ (!Builtin.List.listFitsIndex k) = true := by
    rw [fitsIndex_both h1 h2]
    exact Bool.false_ne_true
  have hlong : ¬ Builtin.List.listTooLong (its.toArray.size * k.toNat) = true := by
    rw [notLongL hlen]
    exact Bool.false_ne_true
  have hnew : List.foldl (fun x1 x2 => x1 ++ x2) #[] (List.replicate (if its.toArray.isEmpty = true then 0 else k.toNat) its.toArray) = (List.replicate k.toNat its).flatten.toArray := by
    have f0 : ∀ m : Nat, List.foldl (fun x1 x2 => x1 ++ x2) #[] (List.replicate m its.toArray) = (List.replicate m its).flatten.toArray := fun m => by
      have := foldl_rep its m []
      rw [List.nil_append] at this
      exact this
    rw [f0]
    cases its with
    | nil => simp
    | cons a r' => rw [if_neg (by simp)]
  refine wpAny_binaryOp_repeat_ref (T := "list") (U := "int") (by decide) ⟨_, e, rfl⟩ (fun s' => typeIs_int s' k t) noFill_list_mul F.fills_int_mul F.slot_int_rmul repeat_list F.slot_int_index.lookup
    (call_meets F.slot_int_rmul (typeIs_int s k t) F.entry_int_rmul (F.args_int_rmul_2 _ _) (int___rmul___int_list k t l its.toArray n)
      ⟨e, rfl, ⟨_, e, rfl⟩, call_meets F.slot_list_mul ⟨_, e, rfl⟩ F.entry_list_mul (F.args_list_mul_2 _ _) (AutoListH.list___mul___list_int_3 l its.toArray n k t hfit hcap hlong) ⟨e, ?_⟩⟩)
  rw [hnew]
  exact ⟨.ref _, _, I.lnew (t' := s.toks) (r.rep k.toNat) (by rw [len_rep, Nat.mul_comm]; exact hz), rfl, q _ I.fresh⟩

/-! ### del xs[i] -/
end

/-! ### xs[a:b] = ys -/
section
variable {prog : Program} {w : World} {A : Around} {E : Value → Shared → Prop} {s : Shared}
end

section
variable {X : Cx}
end
end L2

namespace Att
open PySem PySem.W PySem.Calls PyProof.Rows

/-! ### the script -/
theorem ints_of_wellAll {P : Params} {h : Heap} : ∀ (ns : List Int) (vs : List Value), WellAll P h vs (ns.map WData.int) → IntsAre vs ns := by
  intro ns
  induction ns with
  | nil =>
    intro vs w
    rw [List.map_nil] at w
    cases w
    exact .nil
  | cons n ns ih =>
    intro vs w
    rw [List.map_cons] at w
    cases w with
    | cons a b =>
      cases a
      exact .cons _ _ (ih _ b)

theorem script_of {l : OpenLaw} {n : Nat} (hn : l.most = some n) {P : Params} {h : Heap} {args : List WData} {vals : List Value}
    (hpre : l.row.toRowW.claim.pre args = true) (hwl : WellAll P h vals args) :
    ∃ a vs ns, vals = [Value.ref a] ∧ args = [WData.list (ns.map WData.int)] ∧ h.get? a = some { cls := .type "list", data := .seq vs.toArray } ∧ IntsAre vs ns ∧ ns.length ≤ n := by
  have hsh : WShape.hasAll [] args [.list .int] = true := (pre_splitW hpre).1
  have hc : l.pre.holds [] { args := args } = true := (pre_splitW hpre).2
  obtain ⟨d, r, rfl, h1, h2⟩ := hasAllW_cons hsh
  obtain rfl := hasAllW_nil h2
  obtain ⟨xs, rfl, h3⟩ := hasW_list h1
  obtain ⟨ns, rfl⟩ := items_int h3
  have hlen : ns.length ≤ n := by
    unfold OpenLaw.pre at hc
    have h4 : (WTm.not (.lt (.lit (.int (n : Int))) (.len (.arg 0)))).holds [] { args := [.list (ns.map .int)] } = true := by
      have h4 := (holds_andW hc).1
      rw [hn] at h4
      exact h4
    have h5 := condW_of h4 (w_not (w_lt w_lit (w_len_list (w_arg rfl))))
    rw [List.length_map] at h5
    refine Nat.le_of_not_lt fun q => ?_
    have q' : (n : Int) < ((ns.length : Nat) : Int) := by omega
    first
      | (rw [decide_eq_true q'] at h5; exact absurd h5 (by decide))
      | (simp at h5; omega)
  cases hwl with
  | cons w1 w2 =>
    cases w2
    cases w1 with
    | list ho hall => exact ⟨_, _, ns, rfl, rfl, ho, ints_of_wellAll ns _ hall, hlen⟩

theorem post_true (l : OpenLaw) (args : List WData) : l.row.toRowW.claim.post args (.bool true) args = true :=
  postW_of (r := l.row.toRowW) (X := (true == true))
    (show WShape.has [] (.bool true) .bool = true by first | rfl | decide | simp [WShape.has, WShape.arms, WShape.armsAll])
    (show (WTm.eq .res (.lit (.bool true))).value [] { args := args, res := some (.bool true), after := args } = some (.bool (true == true)) from w_eq_bool (w_res rfl) w_lit) rfl

/-! ### the attachment: holds_open's last premise (the goal 'hc' behind k_head) from a wpAny of the law's body -/
/-- the same from a codeAny of the CALL (for a layer whose function contracts speak of calls) -/
theorem attach_call {l : OpenLaw} {n : Nat} {q : Program} {loose : List Str} {XP : (Str → Option Value) → Heap → Prop} {YP : World → Heap → Prop} {d : DefRec}
    (hn : l.most = some n) (hdf : d.params.defaults = [])
    (call : ∀ (w : World) (s₀ s₁ : Shared) (mg mb : Str → Option Value) (fa : Addr) (o : Obj) (pm cd doc : Value) (a : Addr) (vs : List Value) (ns : List Int),
      Ground q loose [] XP w s₀ mg mb s₁.heap → YP w s₁.heap →
      s₁.heap.get? fa = some o → o.data = .func (docDef d.name d.params d.body d.scope pm cd doc) → s₁.heap.CodeRec cd d.name → mg d.name = some (.ref fa) →
      s₁.heap.get? a = some { cls := .type "list", data := .seq vs.toArray } → IntsAre vs ns → ns.length ≤ n → s₁.gens = #[] →
      codeAny (model l.prog w) callerA (.call (.ref fa) ⟨[.ref a], []⟩) (fun r s' => r = .ok (.ret (.bool true)) ∧ OldK s₁.heap s'.heap ∧ s'.os = s₁.os ∧ AllBare s'.gens) s₁) :
    WalkO q loose XP YP l.row.toRowW d [] (fun f vs => PySem.call f vs) := by
  intro w s₀ s₁ mg mb G Y fa o pm cd doc dV kV ho hd hcd hD hmg hg args vals as hpre hlay hrd hwl hlo
  obtain rfl : dV = .none := Dflts.none hD hdf
  obtain rfl : kV = .none := Dflts.noKw hD
  obtain ⟨a, vs, ns, rfl, rfl, hobj, hints, hlen⟩ := script_of hn hpre hwl
  refine enter_call (codeAny_mono (call w s₀ s₁ mg mb fa o pm cd doc a vs ns G Y ho (fd_plain hd) hcd hmg hobj hints hlen hg) fun r s' hq => ?_)
  obtain ⟨rfl, h2, h3, h4⟩ := hq
  exact ⟨.inl ⟨.bool true, .bool true, [], rfl, fun _ => rfl, .bool true, post_true l _, fun _ => ⟨List.Pairwise.nil, fun _ hm => (nomatch hm)⟩⟩, h2, h3, h4⟩

/-! ### rules over ANY heap (no ledger) from facts about the written part K: the library's own take a ledger (News) for what they write -/
section
variable {prog : Program} {w : World} {A : Around} {E : Value → Shared → Prop} {s : Shared} {K : Frag}

/-! the whole heap as the ledger: makes every rule that writes through a ledger a rule over any heap -/
def ledger (h : Heap) (L d : Addr) : List (Addr × Obj) := (List.range h.objs.size).filterMap fun a => if a = L ∨ a = d then none else (h.get? a).map fun o => (a, o)
end
end Att

namespace L2
open PySem PySem.Spec PyProof.Rows

theorem vals_ints : ∀ {vs : List Value} {ns : List Int}, IntsAre vs ns → Vals (ns.map V.int) vs
  | _, _, .nil => .nil
  | _, _, .cons n t h => .cons ⟨t, rfl⟩ (vals_ints h)

/-- nothing is tracked but the script, known to the object (or it is an object of the module) -/
def Only (H : Hp) : Prop := ∀ b, H b = none ∨ ∃ o xs, H b = some (.frz o (.lst xs))

/-- THE HEAD: the law's promise, at the heap behind the top. F, the promise of the law's def, may use that base is part of the heap (so K.In base, base.Ns mainGlobals mg stand in Mod) -/
theorem law_call {P : Program} {w : World} {K : PySem.W.Frag} {mg mb : Str → Option Value} {CX : CXT} {k : Nat} {fa a : Addr} {fd : FuncData} {x : Str} {sp : Sp} {s₁ : Shared} {vs : List Value} {ns : List Int}
    (KX : K.In s₁.heap) (hns : s₁.heap.Ns mainGlobals mg) (hb : s₁.heap.Ns builtinsNs mb) (hbb : ∀ x : Str, x ≠ "__name__" → mb x = bootBuiltins x) (hlim : s₁.heap.NoLimit) (hg : s₁.gens = #[])
    (ha : s₁.heap.get? a = some { cls := .type "list", data := .seq vs.toArray }) (hi : IntsAre vs ns) (hl : ns.length ≤ sizeLine) (hr : Room k callerA)
    (F : ∀ base : Heap, K.In base → base.Ns mainGlobals mg → FnOk P w K mg base CX k fa fd [x] sp) (hbind : ∀ (s : Shared) (u : Value), BindsTo s fd ⟨[u], []⟩ [(x, u)])
    (hsp : ∀ H : Hp, Only H → SqL K H a (ns.map V.int) → sp [.ref a] H (fun v _ => v = .bl true) fun _ _ _ => False)
    (hCX : ∀ H e s', CX [] H s₁ (fun _ _ _ => False) e s' → False) :
    codeAny (model P w) callerA (.call (.ref fa) ⟨[.ref a], []⟩) (fun r s' => r = .ok (.ret (.bool true)) ∧ OldK s₁.heap s'.heap ∧ s'.os = s₁.os ∧ AllBare s'.gens) s₁ := by
  have rv := vals_ints hi
  have lenV := hi.length
  -- from an abstract heap in which nothing but the script may be tracked
  have core : ∀ H : Hp, Only H → SqL K H a (ns.map V.int) → HOk P w H s₁.heap → (∀ b, H b ≠ none → b = a) → (H a ≠ none → K.lookup a = none) →
      codeAny (model P w) callerA (.call (.ref fa) ⟨[.ref a], []⟩) (fun r s' => r = .ok (.ret (.bool true)) ∧ OldK s₁.heap s'.heap ∧ s'.os = s₁.os ∧ AllBare s'.gens) s₁ := by
    intro H hO hS hok hA hK
    have base_of : ∀ {b : Addr} {o : Obj}, s₁.heap.get? b = some o → H b = none → (hidT s₁.heap H).get? b = some o := fun e n => hidT_get e n
    have noA : ∀ {b : Addr} {o : Obj} {es : Array DictEntry} {ep : Nat}, s₁.heap.get? b = some o → o.data = .dict es ep → H b = none := fun {b o es ep} e d => by
      cases q : H b with
      | none => rfl
      | some u =>
        have e' : b = a := hA b (by rw [q]; simp)
        subst e'
        rw [ha] at e; cases e
        have d' : Data.seq vs.toArray _ = Data.dict es ep := d
        cases d'
    have nsK : ∀ {b : Addr} {m : Str → Option Value}, s₁.heap.Ns b m → (hidT s₁.heap H).Ns b m := fun {b m} ⟨o, es, ep, e, d, r⟩ => ⟨o, es, ep, base_of e (noA e d), d, r⟩
    have hKb : K.In (hidT s₁.heap H) := fun b o e => base_of (KX b o e) (by
      cases q : H b with
      | none => rfl
      | some u =>
        have e' : b = a := hA b (by rw [q]; simp)
        subst e'
        rw [hK (by rw [q]; simp)] at e; cases e)
    have hM : Mod K mg (hidT s₁.heap H) := ⟨hKb, nsK hns, ⟨mb, nsK hb, hbb⟩, let ⟨mc, h1, h2⟩ := hlim; ⟨mc, nsK h1, h2⟩⟩
    have e0 : Env0 P w K mg (hidT s₁.heap H) callerA [] s₁ H := ⟨rfl, hM, fun b o e => of_hidT e, Nat.le_of_eq (hidT_size _ _), trivial, fun b hb => absurd (show b ∈ ([] : List Addr) from hb) (by simp), hok, .of_eq hg⟩
    refine codeAny_mono ((F _ hKb (nsK hns)).run callerA [] s₁ H ⟨[.ref a], []⟩ [.ref a] [.ref a] _ _ hr e0 (hbind s₁ (.ref a)) (.cons rfl .nil) (hsp H hO hS)) fun r s' h => ?_
    cases r with
    | error e => exact (hCX H e s' h).elim
    | ok fl =>
      cases fl with
      | next => exact False.elim h
      | brk => exact False.elim h
      | cont => exact False.elim h
      | ret u =>
        obtain ⟨v, H', os, bare, un, hok', r', q⟩ := h
        have q' : v = .bl true := q
        subst q'
        obtain rfl : u = Value.bool true := r'
        refine ⟨rfl, OldK.of_keep fun b o e => ?_, os, bare⟩
        cases q : H b with
        | none => exact un.keep b o e q (by intro z; exact absurd (show b ∈ ([] : List Addr) from z) (by simp)) (by simp)
        | some u =>
          rcases hO b with z | ⟨ob, xs, z⟩
          · rw [q] at z; cases z
          · have z2 := un.frzs b ob _ z
            obtain ⟨e1, _⟩ := hok b _ z
            obtain ⟨e2, _⟩ := hok' b _ z2
            rw [e] at e1; cases e1
            exact e2
  cases hk : K.lookup a with
  | some o =>
    -- the script is one of the module's own objects
    have e := KX a o hk
    rw [ha] at e
    cases e
    refine core (fun _ => none) (fun _ => .inl rfl) (.inr ⟨_, vs.toArray, _, hk, rfl, rfl, rfl, by rw [List.size_toArray, lenV]; exact hl, by simpa using rv⟩) (fun b u z => by have z' : (none : Option HO) = some u := z; cases z') (fun b z => absurd rfl z) fun z => absurd rfl z
  | none =>
    refine core (fun b => if b = a then some (.frz { cls := .type "list", data := .seq vs.toArray } (.lst (ns.map V.int))) else none) (fun b => ?_) (.inl (.inr ⟨{ cls := .type "list", data := .seq vs.toArray }, if_pos rfl⟩)) (fun b u z => ?_) (fun b z => ?_) fun _ => hk
    · by_cases hb : b = a
      · exact .inr ⟨_, _, if_pos hb⟩
      · exact .inl (if_neg hb)
    · by_cases hb : b = a
      · have z' := (if_pos hb).symm.trans z
        cases z'
        subst hb
        exact ⟨ha, by rw [List.length_map]; exact hl, vs, _, rv, ha⟩
      · have z' := (if_neg hb).symm.trans z
        cases z'
    · by_cases hb : b = a
      · exact hb
      · exact absurd (if_neg hb) z
end L2

namespace L2
open PySem PySem.Spec PyProof.Rows

abbrev KOf {K : PySem.W.Frag} {h : Heap} (_ : K.In h) : PySem.W.Frag := K

/-- the goal that k_head leaves (case hc), from the law's promise. F gives the function object fd (K's own) once, then the promise over every base -/
theorem walk_of {l : PySem.W.OpenLaw} {n k : Nat} {q : Program} {loose : List Str} {XP : (Str → Option Value) → Heap → Prop} {YP : World → Heap → Prop} {d : DefRec} {K : Params → PySem.W.Frag} {CX : World → CXT} {sp : World → Sp} {x : Str}
    (hn : l.most = some n) (hn2 : n ≤ sizeLine) (hdf : d.params.defaults = []) (hr : Room k callerA)
    (hY : ∀ (w : World) (h : Heap), YP w h → (K w.params).In h)
    (F : ∀ (w : World) (mg : Str → Option Value) (fa : Addr) (h : Heap), (K w.params).In h → h.Ns mainGlobals mg → mg d.name = some (.ref fa) →
      ∃ fd : FuncData, (∀ (s : Shared) (u : Value), BindsTo s fd ⟨[u], []⟩ [(x, u)]) ∧
        ∀ base : Heap, (K w.params).In base → base.Ns mainGlobals mg → FnOk l.prog w (K w.params) mg base (CX w) k fa fd [x] (sp w))
    (hsp : ∀ (w : World) (H : Hp) (a : Addr) (ns : List Int), ns.length ≤ n → Only H → SqL (K w.params) H a (ns.map V.int) → sp w [.ref a] H (fun v _ => v = .bl true) fun _ _ _ => False)
    (hCX : ∀ (w : World) (H : Hp) (s : Shared) (e : Value) (s' : Shared), CX w [] H s (fun _ _ _ => False) e s' → False) :
    PySem.W.WalkO q loose XP YP l.row.toRowW d [] (fun f vs => PySem.call f vs) := by
  refine Att.attach_call hn hdf fun w s₀ s₁ mg mb fa o pm cd doc a vs ns G Y ho hd hcd hmg hobj hints hlen hg => ?_
  have KX := hY w _ Y
  obtain ⟨fd, hb, hF⟩ := F w mg fa _ KX G.T.g hmg
  exact law_call KX G.T.g G.T.b G.T.builtins G.T.nolimit hg hobj hints (Nat.le_trans hlen hn2) hr hF hb (fun H hO hS => hsp w H a ns hlen hO hS) fun H e s' => hCX w H s₁ e s'
/-- the same where the promise hangs on the written part alone: (sp := My.sp_law), no hole under a binder -/
theorem walk_ofK {l : PySem.W.OpenLaw} {n k : Nat} {q : Program} {loose : List Str} {XP : (Str → Option Value) → Heap → Prop} {YP : World → Heap → Prop} {d : DefRec} {K : Params → PySem.W.Frag} {CX : CXT} {sp : PySem.W.Frag → Sp} {x : Str}
    (hn : l.most = some n) (hn2 : n ≤ sizeLine) (hdf : d.params.defaults = []) (hr : Room k callerA)
    (hY : ∀ (w : World) (h : Heap), YP w h → (K w.params).In h)
    (F : ∀ (w : World) (mg : Str → Option Value) (fa : Addr) (h : Heap), (K w.params).In h → h.Ns mainGlobals mg → mg d.name = some (.ref fa) →
      ∃ fd : FuncData, (∀ (s : Shared) (u : Value), BindsTo s fd ⟨[u], []⟩ [(x, u)]) ∧
        ∀ base : Heap, (K w.params).In base → base.Ns mainGlobals mg → FnOk l.prog w (K w.params) mg base CX k fa fd [x] (sp (K w.params)))
    (hsp : ∀ (K : PySem.W.Frag) (H : Hp) (a : Addr) (ns : List Int), ns.length ≤ n → Only H → SqL K H a (ns.map V.int) → sp K [.ref a] H (fun v _ => v = .bl true) fun _ _ _ => False)
    (hCX : ∀ (H : Hp) (s : Shared) (e : Value) (s' : Shared), CX [] H s (fun _ _ _ => False) e s' → False) :
    PySem.W.WalkO q loose XP YP l.row.toRowW d [] (fun f vs => PySem.call f vs) :=
  walk_of (K := K) (CX := fun _ => CX) (sp := fun w => sp (K w.params)) hn hn2 hdf hr hY F (fun w H a ns h1 h2 h3 => hsp (K w.params) H a ns h1 h2 h3) fun _ H s e s' => hCX H s e s'
end L2


/-! SHORT WORDS over the layer: a def of the text, its body, what a loop and a test want. -/
namespace L2
open PySem PySem.Spec PyProof.Rows

/-! ### the text by places -/
def defArgs (s : Stmt) : Arguments := match s with
  | .FunctionDef _ a _ _ _ _ _ _ _ _ => a
  | _ => { posonlyargs := [], args := [], vararg := none, kwonlyargs := [], kw_defaults := [], kwarg := none, defaults := [] }
def defBody (s : Stmt) : List Stmt := match s with
  | .FunctionDef _ _ b _ _ _ _ _ _ _ => b
  | _ => []
def defScope (s : Stmt) : Scope := match s with
  | .FunctionDef _ _ _ _ _ _ sc _ _ _ => sc
  | _ => { kind := .function, names := [], isGenerator := false, isCoroutine := false }

/-! ### no exception leaves a def -/
abbrev CX0 : CXT := fun _ _ _ _ _ _ => False
abbrev E0 : XK := fun _ _ _ => False
theorem pass0 {X : Cx} : Passes CX0 X E0 := fun _ _ _ _ _ _ _ h => h.elim

/-! ### a def (or method) of the text as it stands behind the top -/
structure Fun (K : PySem.W.Frag) (x qual : Str) (st : Stmt) (f : Addr) (fd : FuncData) : Prop where
  ex : ∃ (oc : Value) (od : Option Addr) (kV doc pm : Value) (an : Option Addr) (cdv ct : Value) (osl : Array (Option Value)),
    fd = PySem.W.fnOf x qual (defArgs st) (defBody st) (defScope st) .none kV doc pm an cdv ct ∧ K.lookup f = some ⟨oc, od, .func fd, osl⟩ ∧ PySem.W.codeIn K cdv qual = true
  kp : PySem.W.keepIn K (.ref f) = true
section
variable {P : Program} {w : World} {K : PySem.W.Frag} {mg : Str → Option Value} {base : Heap}
/-- THE RULE for a def: its body as a term of rules, and the reading of that term -/
theorem Fun.ok {x qual : Str} {st : Stmt} {f : Addr} {fd : FuncData} {N ps : List Str} {k : Nat} {sp : Sp} (F : Fun K x qual st f fd) (S : FnScope N ps (defScope st)) (len : ∀ vs H Q E, sp vs H Q E → vs.length = ps.length)
    (hbody : ∀ (cdv : Value) (A : Around) (outer : List Env) (s : Shared) (H : Hp) (vs : List V) (Q : VK) (E : XK), Room k (A.deeper (envOfC qual (defScope st) s.heap.objs.size f cdv)) → sp vs H Q E →
      ∃ t, PSs (cxOf CX0 P w K mg base N qual (defScope st) f cdv A outer s H E).nox (defBody st) t ∧ t { nx := fun _ H' => Q .non H', rt := Q } (start N vs) H) : FnOk P w K mg base CX0 (k + 1) f fd ps sp := by
  obtain ⟨oc, od, kV, doc, pm, an, cdv, ct, osl, rfl, lk, hcd⟩ := F.ex
  refine fn_of lk hcd S len fun A outer s H vs Q E hr hsp => ?_
  obtain ⟨t, h, q⟩ := hbody cdv A outer s H vs Q E hr hsp
  exact ⟨t, h.nox, q⟩
/-- how its arguments bind (no defaults): h is «fun _ _ _ _ _ _ us hl => match us, hl with | [_, _], _ => rfl», one _ a parameter -/
theorem Fun.binds {x qual : Str} {st : Stmt} {f : Addr} {fd : FuncData} {ps : List Str} (F : Fun K x qual st f fd)
    (h : ∀ (kV doc pm : Value) (an : Option Addr) (cdv ct : Value) (us : List Value), us.length = ps.length → bindArgs (PySem.W.fnOf x qual (defArgs st) (defBody st) (defScope st) .none kV doc pm an cdv ct) ⟨us, []⟩ = pure (ps.zip us)) : Binds K fd ps [] := by
  obtain ⟨oc, od, kV, doc, pm, an, cdv, ct, osl, rfl, lk, hcd⟩ := F.ex
  exact .all (h kV doc pm an cdv ct)
theorem fun_mk {x qual : Str} {st : Stmt} {f : Addr} {oc : Value} {od an : Option Addr} {osl : Array (Option Value)} {kV doc pm cdv ct : Value} (l : K.lookup f = some ⟨oc, od, .func (PySem.W.fnOf x qual (defArgs st) (defBody st) (defScope st) .none kV doc pm an cdv ct), osl⟩)
    (c : PySem.W.codeIn K cdv qual = true) (k : PySem.W.keepIn K (.ref f) = true) : Fun K x qual st f (PySem.W.fnOf x qual (defArgs st) (defBody st) (defScope st) .none kV doc pm an cdv ct) := ⟨⟨oc, od, kV, doc, pm, an, cdv, ct, osl, rfl, l, c⟩, k⟩
end
theorem small1000 {n : Nat} (h : n ≤ 1000) : n < sizeLine := Nat.lt_of_le_of_lt h (by decide)

/-! ### expressions in short: the name that stands in the i-th slot -/
section
variable {X : Cx}
theorem pv (i : Nat) {x : Str} {pos : Pos} (hN : X.N[i]? = some x := by rfl) (hv : Vis X.env.scope x := by first | exact Or.inl rfl | exact Or.inr (Or.inl rfl) | exact Or.inr (Or.inr rfl)) (hd : (x == ("__debug__" : Str)) = false := by decide)
    (hcd : (x == ("__classdict__" : Str)) = false := by decide) : PE X (.Name x pos) (tVar i) := pe_var hN hv hd hcd
end

/-! ### tests -/
theorem iteF {A B : Prop} (h : B) : if false = true then A else B := by
  rw [if_neg Bool.false_ne_true]
  exact h
theorem iteT {A B : Prop} (h : A) : if true = true then A else B := by
  rw [if_pos rfl]
  exact h
theorem ite2 {c A B : Prop} [Decidable c] (h1 : c → A) (h2 : ¬ c → B) : if c then A else B := by
  by_cases h : c
  · rw [if_pos h]
    exact h1 h
  · rw [if_neg h]
    exact h2 h
/-! ### heaps -/
/-- all that was tracked is as it was -/
def Same (H H' : Hp) : Prop := ∀ b o, H b = some o → H' b = some o
theorem Same.refl (H : Hp) : Same H H := fun _ _ h => h
theorem Same.trans {H H1 H2 : Hp} (a : Same H H1) (b : Same H1 H2) : Same H H2 := fun c o h => b c o (a c o h)
theorem Same.free {H H' : Hp} (e : Same H H') {l : Addr} (h : H' l = Option.none) : H l = Option.none := by
  cases q : H l with
  | none => rfl
  | some o =>
    rw [e l o q] at h
    cases h
theorem Same.seq {K : PySem.W.Frag} {H H' : Hp} {a : Addr} {xs : List V} (e : Same H H') (h : SqL K H a xs) : SqL K H' a xs := by
  rcases h with (h | ⟨o, h⟩) | h
  · exact .inl (.inl (e _ _ h))
  · exact .inl (.inr ⟨o, e _ _ h⟩)
  · exact .inr h

end L2

set_option Elab.async false
set_option linter.all false
set_option maxRecDepth 100000
namespace L2
open PySem PySem.Spec PyProof.Rows

end L2

namespace L2
open PySem PySem.Spec PyProof.Rows

section
variable (P : Program) (w : World)
end

section
variable {P : Program} {w : World} {H H' : Hp} {h h' : Heap} {a : Addr} {o : HO}
end

section
variable {P : Program} {w : World} {H : Hp} {h h' : Heap} {x e : Addr} {o' : HO}
end

section
variable {fs fs' ex ex' : List Addr} {H H1 H2 : Hp} {h h1 h2 h' : Heap} {a x e : Addr} {o : HO}
end

end L2

namespace L2
open PySem PySem.Spec PyProof.Rows

section
variable {X : Cx} {pins : List (Addr × Obj)} {σ : List (Option V)} {H H' : Hp} {s : Shared} {h' : Heap}

end

end L2

namespace L2
open PySem PySem.Spec PyProof.Rows
section
variable {X : Cx}

variable {a b : Expr} {ta tb : TE} {pos : Pos}
variable {tA tB' : TT} {rest : List Expr}
end
end L2

namespace L2
open PySem PySem.Spec PyProof.Rows

section
variable {X : Cx} {pins : List (Addr × Obj)} {σ : St} {H : Hp} {s : Shared} {a : Addr} {xs ys : List V}
end

section
variable {X : Cx} {pins : List (Addr × Obj)} {σ : St} {H : Hp} {s : Shared} {E : Value → Shared → Prop}
end

section
variable {X : Cx} {st : Stmt} {rest : List Stmt} {t u : TS} {e : Expr} {te : TE} {pos : Pos}
end

section
variable {X : Cx} {pos : Pos}
end

section
variable {X : Cx} {pos : Pos}
end

end L2

namespace L2
open PySem PySem.Spec PyProof.Rows
section
variable {X : Cx} {tg : Expr}
end

end L2

namespace L2
open PySem PySem.Spec PyProof.Rows

section
variable {X : Cx} {a b c : Expr} {ta tb tc : TE} {pos : Pos}

end

section
variable {X : Cx} {a b c : Expr} {ta tb tc : TE} {pos : Pos}
end
end L2

namespace L2
open PySem PySem.Spec PyProof.Rows

section
variable {prog : Program} {w : World} {A : Around} {E : Value → Shared → Prop} {s : Shared} {K : PySem.W.Frag} {x dx C f : Addr} {mA : Str → Option Value} {name : Str} {v : Value}

end

section
variable {P : Program} {w : World} {H H' : Hp} {h h' : Heap} {a C dx : Addr} {fs fs' : List (Str × V)}
end

section
variable {X : Cx} {pins : List (Addr × Obj)} {σ : St} {H : Hp} {s : Shared} {a C dx : Addr} {fs : List (Str × V)} {f : Str} {v : V} {A : Around} {E : Value → Shared → Prop}

end

section
variable {X : Cx} {o e value : Expr} {f : Str} {pos pos' tpos : Pos} {ta tv : TE}
end

section
variable {X : Cx} {pins : List (Addr × Obj)} {σ : St} {H : Hp} {s : Shared} {A : Around} {E : Value → Shared → Prop} {Q : Value → Shared → Prop} {c : Value} {b : Bool}
end
end L2

namespace L2
open PySem PySem.Spec PyProof.Rows

section
variable {X : Cx} {e : Expr} {es : List Expr} {te : TE} {t : TA} {pos : Pos}
end

section
variable {X : Cx} {pins : List (Addr × Obj)} {σ : St} {H : Hp} {s s' : Shared}
end

section
variable {X : Cx} {CX : CXT} {k : Nat} {f C : Addr} {fd : FuncData} {ps : List Str} {sp : Sp} {dvs : List V} {ds : List Value} {E : XK} {x m : Str} {p pos apos : Pos} {e o : Expr} {es : List Expr} {ta : TE} {t : TA}

end

section
variable {X : Cx} {CX : CXT} {k : Nat} {f C : Addr} {fd : FuncData} {ps ks : List Str} {sp : Sp} {E : XK} {x m : Str} {p pos apos kpos : Pos} {e o : Expr} {es : List Expr} {kws : List Keyword} {te ta : TE} {t tk : TA} {nm : Option Str}
variable {g : List Value → List Value → List Value} {gV : List V → List V → List V}
end

end L2

namespace L2
open PySem PySem.Spec PyProof.Rows
section
variable {X : Cx} {x : Str} {p pos : Pos} {e : Expr} {es : List Expr} {t : TA} {id T : String} {r : List V → Hp → VK → Prop}

end
end L2

namespace L2
open PySem PySem.Spec PyProof.Rows

section
variable {κ : Type} [DecidableEq κ]
def valV (kvs : List (κ × V)) (k : κ) : Option V := (kvs.find? fun kv => decide (kv.1 = k)).map (·.2)
def putK (kvs : List (κ × V)) (k : κ) (v : V) : List (κ × V) :=
  if (kvs.any fun kv => decide (kv.1 = k)) = true then kvs.map (fun kv => if kv.1 = k then (kv.1, v) else kv) else kvs ++ [(k, v)]
def dropK (kvs : List (κ × V)) (k : κ) : List (κ × V) := kvs.filter fun kv => decide (kv.1 ≠ k)

theorem valV_pos {p : κ × V} {r : List (κ × V)} {k : κ} (e : p.1 = k) : valV (p :: r) k = some p.2 := by simp [valV, List.find?_cons, e]
theorem valV_neg {p : κ × V} {r : List (κ × V)} {k : κ} (e : ¬ p.1 = k) : valV (p :: r) k = valV r k := by simp [valV, List.find?_cons, e]
theorem valV_any (k : κ) : ∀ kvs : List (κ × V), (kvs.any fun kv => decide (kv.1 = k)) = (valV kvs k).isSome
  | [] => rfl
  | p :: r => by
    rw [List.any_cons]
    by_cases e : p.1 = k
    · simp only [valV_pos e, decide_eq_true e, Bool.true_or, Option.isSome_some]
    · rw [valV_neg e, decide_eq_false e, Bool.false_or]; exact valV_any k r
theorem valV_map (k j : κ) (y : V) : ∀ kvs : List (κ × V), valV (kvs.map fun kv => if kv.1 = k then (kv.1, y) else kv) j = (valV kvs j).map fun x => if j = k then y else x
  | [] => rfl
  | p :: r => by
    have ih := valV_map k j y r
    rw [List.map_cons]
    by_cases h : p.1 = k
    · rw [if_pos h]
      by_cases e : p.1 = j
      · rw [valV_pos (p := (p.1, y)) e, valV_pos e, Option.map_some, if_pos (e.symm.trans h)]
      · rw [valV_neg (p := (p.1, y)) e, valV_neg e, ih]
    · rw [if_neg h]
      by_cases e : p.1 = j
      · rw [valV_pos (p := p) e, valV_pos e, Option.map_some, if_neg (fun z => h (e.trans z))]
      · rw [valV_neg (p := p) e, valV_neg e, ih]
theorem valV_snoc (k j : κ) (y : V) : ∀ kvs : List (κ × V), valV kvs k = none → valV (kvs ++ [(k, y)]) j = if j = k then some y else valV kvs j
  | [], _ => by
    by_cases e : k = j
    · rw [if_pos e.symm]; exact valV_pos (p := (k, y)) e
    · rw [if_neg (fun z => e z.symm)]; exact valV_neg (p := (k, y)) e
  | p :: r, hn => by
    rw [List.cons_append]
    have hk : ¬ p.1 = k := fun z => by rw [valV_pos z] at hn; cases hn
    rw [valV_neg hk] at hn
    have ih := valV_snoc k j y r hn
    by_cases e : p.1 = j
    · rw [valV_pos e, valV_pos e, if_neg (fun z => hk (e.trans z))]
    · rw [valV_neg e, valV_neg e, ih]
theorem valV_put (kvs : List (κ × V)) (k j : κ) (y : V) : valV (putK kvs k y) j = if j = k then some y else valV kvs j := by
  unfold putK
  by_cases a : (kvs.any fun kv => decide (kv.1 = k)) = true
  · rw [if_pos a, valV_map]
    rw [valV_any] at a
    by_cases e : j = k
    · obtain ⟨x, hx⟩ := Option.isSome_iff_exists.mp a
      rw [if_pos e, e, hx, Option.map_some, if_pos rfl]
    · rw [if_neg e]
      cases valV kvs j with
      | none => rfl
      | some x => rw [Option.map_some, if_neg e]
  · rw [if_neg a]
    refine valV_snoc k j y kvs ?_
    rw [valV_any] at a
    cases q : valV kvs k with
    | none => rfl
    | some x => rw [q] at a; exact (a rfl).elim
theorem putK_new {kvs : List (κ × V)} {k : κ} (v : V) (h : valV kvs k = none) : putK kvs k v = kvs ++ [(k, v)] := by
  unfold putK
  rw [valV_any, h]
  exact if_neg (by decide)

theorem RelO.isSome_eq {o : Option V} {u : Option Value} (r : RelO o u) : o.isSome = u.isSome := by
  cases o with
  | none => cases u with
    | none => rfl
    | some _ => exact (show False from r).elim
  | some _ => cases u with
    | none => exact (show False from r).elim
    | some _ => rfl
theorem RelO.getD {o : Option V} {u : Option Value} {d : V} {d' : Value} (r : RelO o u) (rd : RelV d d') : RelV (o.getD d) (u.getD d') := by
  cases o with
  | none => cases u with
    | none => exact rd
    | some _ => exact (show False from r).elim
  | some _ => cases u with
    | none => exact (show False from r).elim
    | some _ => exact r

theorem KV.val {kvs : List (κ × V)} {vs : List (κ × Value)} (r : KV kvs vs) (k : κ) : RelO (valV kvs k) (valueAt vs k) := by
  unfold KV at r
  induction r with
  | nil => exact True.intro
  | @cons p q ps qs h t ih =>
    obtain ⟨h1, h2⟩ := h
    by_cases e : p.1 = k
    · have e' : q.1 = k := h1.symm.trans e
      have b : valueAt (q :: qs) k = some q.2 := by simp [valueAt, List.find?_cons, e']
      rw [valV_pos e, b]; exact h2
    · have e' : ¬ q.1 = k := fun z => e (h1.trans z)
      have b : valueAt (q :: qs) k = valueAt qs k := by simp [valueAt, List.find?_cons, e']
      rw [valV_neg e, b]; exact ih
theorem KV.any {kvs : List (κ × V)} {vs : List (κ × Value)} (r : KV kvs vs) (k : κ) : (kvs.any fun kv => decide (kv.1 = k)) = vs.any fun kv => decide (kv.1 = k) := by
  unfold KV at r
  induction r with
  | nil => rfl
  | cons h t ih => rw [List.any_cons, List.any_cons, ih, h.1]
theorem KV.repl {kvs : List (κ × V)} {vs : List (κ × Value)} (r : KV kvs vs) (k : κ) {y : V} {u : Value} (ry : RelV y u) :
    KV (kvs.map fun kv => if kv.1 = k then (kv.1, y) else kv) (vs.map fun kv => if kv.1 = k then (kv.1, u) else kv) := by
  unfold KV at r ⊢
  induction r with
  | nil => exact .nil
  | @cons p q ps qs h t ih =>
    rw [List.map_cons, List.map_cons]
    refine .cons ?_ ih
    obtain ⟨h1, h2⟩ := h
    by_cases e : p.1 = k
    · rw [if_pos e, if_pos (h1.symm.trans e)]; exact ⟨h1, ry⟩
    · rw [if_neg e, if_neg (fun z => e (h1.trans z))]; exact ⟨h1, h2⟩
theorem KV.put {kvs : List (κ × V)} {vs : List (κ × Value)} (r : KV kvs vs) (k : κ) {y : V} {u : Value} (ry : RelV y u) : KV (putK kvs k y) (stored vs k u) := by
  unfold putK stored
  rw [r.any k]
  by_cases e : (vs.any fun kv => decide (kv.1 = k)) = true
  · rw [if_pos e, if_pos e]; exact r.repl k ry
  · rw [if_neg e, if_neg e]; exact Paired.snoc r ⟨rfl, ry⟩
theorem KV.drop {kvs : List (κ × V)} {vs : List (κ × Value)} (r : KV kvs vs) (k : κ) : KV (dropK kvs k) (without vs k) := by
  unfold KV at r ⊢
  unfold dropK without
  induction r with
  | nil => exact .nil
  | @cons p q ps qs h t ih =>
    obtain ⟨h1, h2⟩ := h
    rw [List.filter_cons, List.filter_cons]
    by_cases e : p.1 = k
    · have a : ¬ decide (p.1 ≠ k) = true := by simp [e]
      have b : ¬ decide (q.1 ≠ k) = true := by simp [h1.symm.trans e]
      rw [if_neg a, if_neg b]; exact ih
    · have e' : ¬ q.1 = k := fun z => e (h1.trans z)
      have a : decide (p.1 ≠ k) = true := by simp [e]
      have b : decide (q.1 ≠ k) = true := by simp [e']
      rw [if_pos a, if_pos b]; exact .cons ⟨h1, h2⟩ ih
theorem KV.keys {kvs : List (κ × V)} {vs : List (κ × Value)} (r : KV kvs vs) : kvs.map (·.1) = vs.map (·.1) := by
  unfold KV at r
  induction r with
  | nil => rfl
  | cons h t ih => rw [List.map_cons, List.map_cons, ih, h.1]
theorem KV.length {kvs : List (κ × V)} {vs : List (κ × Value)} (r : KV kvs vs) : kvs.length = vs.length := Paired.length r
end


theorem kV_is {P : Program} {w : World} {k : Key} {u : Value} (r : RelV (kV k) u) : (mixKind P w).is k u = true := by
  cases k with
  | inl i => obtain ⟨t, e⟩ := (show ∃ t, u = Value.int i t from r); subst e; exact mixKind_int P w i t
  | inr x => obtain ⟨t, e⟩ := (show ∃ t, u = Value.str x t from r); subst e; exact mixKind_str P w x t
abbrev KT (H : Hp) : List (List Key × V) → List (List Key × Addr × Value) → Prop := Paired fun p q => p.1 = q.1 ∧ H q.2.1 = some (.tup (p.1.map kV)) ∧ RelV p.2 q.2.2
theorem KT.val {H : Hp} {kvs : List (List Key × V)} {xs : List (List Key × Addr × Value)} (r : KT H kvs xs) (k : List Key) : RelO (valV kvs k) ((atKey xs k).map (·.2)) := by
  induction r with
  | nil => exact True.intro
  | @cons p q ps qs h t ih =>
    obtain ⟨h1, _, h2⟩ := h
    by_cases e : p.1 = k
    · have e' : q.1 = k := h1.symm.trans e
      have b : atKey (q :: qs) k = some q.2 := by simp [atKey, List.find?_cons, e']
      rw [valV_pos e, b]; exact h2
    · have e' : ¬ q.1 = k := fun z => e (h1.trans z)
      have b : atKey (q :: qs) k = atKey qs k := by simp [atKey, List.find?_cons, e']
      rw [valV_neg e, b]; exact ih
theorem KT.repl {H : Hp} {kvs : List (List Key × V)} {xs : List (List Key × Addr × Value)} (r : KT H kvs xs) (k : List Key) {y : V} {u : Value} (ry : RelV y u) :
    KT H (kvs.map fun kv => if kv.1 = k then (kv.1, y) else kv) (xs.map (putAt k u)) := by
  induction r with
  | nil => exact .nil
  | @cons p q ps qs h t ih =>
    rw [List.map_cons, List.map_cons]
    refine .cons ?_ ih
    obtain ⟨h1, h2, h3⟩ := h
    unfold putAt
    by_cases e : p.1 = k
    · rw [if_pos e, if_pos (h1.symm.trans e)]; exact ⟨h1, h2, ry⟩
    · rw [if_neg e, if_neg (fun z => e (h1.trans z))]; exact ⟨h1, h2, h3⟩
theorem KT.put {H : Hp} {kvs : List (List Key × V)} {xs : List (List Key × Addr × Value)} (r : KT H kvs xs) (k : List Key) {b : Addr} {y : V} {u : Value} (hb : H b = some (.tup (k.map kV))) (ry : RelV y u) :
    KT H (putK kvs k y) (storedH xs k b u) := by
  have e : (kvs.any fun kv => decide (kv.1 = k)) = (atKey xs k).isSome := by
    rw [valV_any, (r.val k).isSome_eq, Option.isSome_map]
  unfold putK storedH
  rw [e]
  by_cases q : (atKey xs k).isSome = true
  · rw [if_pos q, if_pos q]; exact r.repl k ry
  · rw [if_neg q, if_neg q]; exact Paired.snoc r ⟨rfl, hb, ry⟩
theorem KT.keeps {H H' : Hp} {kvs : List (List Key × V)} {xs : List (List Key × Addr × Value)} (r : KT H kvs xs) (ht : ∀ b ys, H b = some (.tup ys) → H' b = some (.tup ys)) : KT H' kvs xs :=
  Paired.mapP r fun _ _ z => ⟨z.1, ht _ _ z.2.1, z.2.2⟩

section
variable {P : Program} {w : World} {H : Hp} {h : Heap} {a : Addr}
end

/-- y is the key k: an int, a text, or a truth -/
def KeyV (k : Key) (y : V) : Prop := y = kV k ∨ ∃ b, y = .bl b ∧ k = .inl (blI b)
theorem KeyV.is {P : Program} {w : World} {k : Key} {y : V} {u : Value} (h : KeyV k y) (r : RelV y u) : (mixKind P w).is k u = true := by
  rcases h with rfl | ⟨b, rfl, rfl⟩
  · exact kV_is r
  · cases (show u = Value.bool b from r)
    exact keyIs_bl b
def DGet (H : Hp) (a : Addr) (y : V) (r : Option V) : Prop :=
  (∃ kvs k, Rd H a (.dK kvs) ∧ KeyV k y ∧ r = valV kvs k) ∨ ∃ kvs k b, Rd H a (.dT kvs) ∧ y = .ref b ∧ H b = some (.tup (k.map kV)) ∧ r = valV kvs k
def DPut (H : Hp) (a : Addr) (y v : V) (H' : Hp) : Prop :=
  (∃ kvs k, H a = some (.dK kvs) ∧ KeyV k y ∧ kvs.length < sizeLine ∧ H' = upd H a (.dK (putK kvs k v))) ∨
  ∃ kvs k b, H a = some (.dT kvs) ∧ y = .ref b ∧ H b = some (.tup (k.map kV)) ∧ kvs.length < sizeLine ∧ H' = upd H a (.dT (putK kvs k v))
theorem DGet.k {H : Hp} {a : Addr} {kvs : List (Key × V)} {k : Key} (e : H a = some (.dK kvs)) : DGet H a (kV k) (valV kvs k) := .inl ⟨kvs, k, .inl e, .inl rfl, rfl⟩
theorem DGet.t {H : Hp} {a b : Addr} {kvs : List (List Key × V)} {k : List Key} (e : H a = some (.dT kvs)) (eb : H b = some (.tup (k.map kV))) : DGet H a (.ref b) (valV kvs k) := .inr ⟨kvs, k, b, .inl e, rfl, eb, rfl⟩
theorem DPut.k {H : Hp} {a : Addr} {kvs : List (Key × V)} {k : Key} {v : V} (e : H a = some (.dK kvs)) (hl : kvs.length < sizeLine) : DPut H a (kV k) v (upd H a (.dK (putK kvs k v))) := .inl ⟨kvs, k, e, .inl rfl, hl, rfl⟩
theorem DPut.t {H : Hp} {a b : Addr} {kvs : List (List Key × V)} {k : List Key} {v : V} (e : H a = some (.dT kvs)) (eb : H b = some (.tup (k.map kV))) (hl : kvs.length < sizeLine) :
    DPut H a (.ref b) v (upd H a (.dT (putK kvs k v))) := .inr ⟨kvs, k, b, e, rfl, eb, hl, rfl⟩


section
variable {X : Cx} {pins : List (Addr × Obj)} {σ : St} {H : Hp} {s : Shared} {a : Addr} {y v : V} {u r : Value} {o : Option V} {A : Around} {E : Value → Shared → Prop}

end

section
variable {X : Cx} {pins : List (Addr × Obj)} {σ : St} {H : Hp} {s : Shared} {a : Addr} {kvs : List (Key × V)} {k : Key} {u : Value} {A : Around} {E : Value → Shared → Prop}
end


def tDGet (td ty : TE) : TE := fun σ H Q => td σ H fun x H1 => ty σ H1 fun y H2 => ∃ a v, x = .ref a ∧ DGet H2 a y (some v) ∧ Q v H2
def sDPut (td ty tv : TE) : TS := fun D σ H => tv σ H fun v H1 => td σ H1 fun x H2 => ty σ H2 fun y H3 => ∃ a H4, x = .ref a ∧ DPut H3 a y v H4 ∧ D.nx σ H4
section
variable {X : Cx} {o i e value : Expr} {pos pos' tpos : Pos} {td ty tv : TE}
end


section
variable {X : Cx} {pos : Pos}
end

def tPairs : List (TE × TE) → St → Hp → (List (V × V) → Hp → Prop) → Prop
  | [], _, H, Q => Q [] H
  | (tk, tv) :: r, σ, H, Q => tk σ H fun x H1 => tv σ H1 fun y H2 => tPairs r σ H2 fun ps H3 => Q ((x, y) :: ps) H3
def mergeK (kvs more : List (Key × V)) : List (Key × V) := more.foldl (fun acc kv => putK acc kv.1 kv.2) kvs
def tDisp (trs : List (TE × TE)) : TE := fun σ H Q => ∀ p, H p = none → tPairs trs σ (upd H p (.dK [])) fun ps H2 => H2 p = some (.dK []) ∧ ∃ kvs : List (Key × V), ps = kvs.map (fun kv => (kV kv.1, kv.2)) ∧ kvs.length ≤ 15 ∧ Q (.ref p) (upd H2 p (.dK (mergeK [] kvs)))
structure M1 (X : Cx) (o : Expr) (m : Str) (apos : Pos) (e : Expr) (cpos : Pos) : Prop where
  base : attributeBase o m X.env (eval o X.env) = eval o X.env
  few : ((backTo cpos (starEach [e] X.env)).all (fun x => !x.1) && (backToKw cpos (keywordEach [] X.env)).all (fun x => x.1.isSome)
    && decide (([e] : List Expr).length + ([] : List Keyword).length + (if ([] : List Keyword).isEmpty then 0 else 1) < 30)) = true
  line : (apos.endLine == cpos.line) = true
  trees : backTo cpos (starEach [e] X.env) = [(false, eval e X.env)]
structure M2 (X : Cx) (o : Expr) (m : Str) (apos : Pos) (e f : Expr) (cpos : Pos) : Prop where
  base : attributeBase o m X.env (eval o X.env) = eval o X.env
  few : ((backTo cpos (starEach [e, f] X.env)).all (fun x => !x.1) && (backToKw cpos (keywordEach [] X.env)).all (fun x => x.1.isSome)
    && decide (([e, f] : List Expr).length + ([] : List Keyword).length + (if ([] : List Keyword).isEmpty then 0 else 1) < 30)) = true
  line : (apos.endLine == cpos.line) = true
  trees : backTo cpos (starEach [e, f] X.env) = [(false, eval e X.env), (false, eval f X.env)]

def IsD (H : Hp) (a : Addr) : Prop := (∃ kvs, Rd H a (.dK kvs)) ∨ ∃ kvs, Rd H a (.dT kvs)
section
variable {X : Cx} {pins : List (Addr × Obj)} {σ : St} {H : Hp} {s : Shared} {a : Addr} {y d : V} {u r : Value} {o : Option V} {A : Around} {E : Value → Shared → Prop}
end

def tDGet2 (td ty tx : TE) : TE := fun σ H Q => td σ H fun x H1 => ∃ a, x = .ref a ∧ IsD H1 a ∧ ty σ H1 fun y H2 => tx σ H2 fun z H3 => ∃ o, DGet H3 a y o ∧ Q (o.getD z) H3
section
variable {X : Cx} {o e f : Expr} {apos cpos : Pos} {td ty tx : TE}
end

section
variable {X : Cx} {pins : List (Addr × Obj)} {σ : St} {H : Hp} {s : Shared} {a : Addr} {kvs : List (Key × V)} {A : Around} {E : Value → Shared → Prop}
end


section
variable {X : Cx} {pins : List (Addr × Obj)} {σ : St} {H : Hp} {s : Shared} {a : Addr} {y : V} {u : Value} {A : Around} {E : Value → Shared → Prop}
end
end L2

namespace Att
open PySem PySem.W PySem.Calls PyProof.Rows

section
variable {prog : Program} {w : World} {A : Around} {E : Value → Shared → Prop} {s : Shared} {K : Frag}

end
end Att

namespace L2
open PySem PySem.Spec PyProof.Rows

end L2

namespace L2
open PySem PySem.Spec PyProof.Rows

end L2


namespace L2
open PySem PySem.Spec PyProof.Rows

section
variable {P : Program} {w : World} {K : PySem.W.Frag} {mg : Str → Option Value} {base : Heap}
end
section
variable {X : Cx}
end

section
variable {κ : Type} [DecidableEq κ]
theorem nd_snoc : ∀ {l : List κ} {k : κ}, l.Nodup → ¬ k ∈ l → (l ++ [k]).Nodup
  | [], k, _, _ => by simp
  | a :: r, k, h, hk => by
    obtain ⟨h1, h2⟩ := List.nodup_cons.mp h
    show (a :: (r ++ [k])).Nodup
    refine List.nodup_cons.mpr ⟨fun m => ?_, nd_snoc h2 fun m => hk (List.mem_cons.mpr (Or.inr m))⟩
    rcases List.mem_append.mp m with q | q
    · exact h1 q
    · exact hk (List.mem_cons.mpr (Or.inl (List.mem_singleton.mp q).symm))
end
end L2

set_option Elab.async false
set_option linter.all false
set_option maxRecDepth 100000
/-! COMPREHENSIONS over the hand layer -/
namespace L2
open PySem PySem.Spec PyProof.Rows

/-! ### the closure of a comprehension -/
theorem closure_go (env : Env) : ∀ (names : List (Str × NameKind)) (cs : List (Str × Addr)),
    (∀ p ∈ names, p.2 = .free → ∃ c, env.cells.lookup p.1 = some c) → (∀ x c, cs.lookup x = some c → env.cells.lookup x = some c) →
    ∃ cl : List (Str × Addr), (forIn names cs fun (p : Str × NameKind) (r : List (Str × Addr)) => (if (p.2 == NameKind.free) = true then (do let c ← cellOf env p.1; pure (ForInStep.yield ((p.1, c) :: r))) else pure (ForInStep.yield r) : Sem (ForInStep (List (Str × Addr))))) = (pure cl : Sem (List (Str × Addr))) ∧
      (∀ x c, cl.lookup x = some c → env.cells.lookup x = some c) ∧ (∀ x, (cs.lookup x).isSome = true → (cl.lookup x).isSome = true) ∧ (∀ p ∈ names, p.2 = .free → (cl.lookup p.1).isSome = true)
  | [], cs, _, h2 => ⟨cs, rfl, h2, fun _ h => h, fun _ h => nomatch h⟩
  | (n, k) :: r, cs, h1, h2 => by
    have h1' : ∀ p ∈ r, p.2 = .free → ∃ c, env.cells.lookup p.1 = some c := fun p hp => h1 p (List.mem_cons_of_mem _ hp)
    by_cases hk : (k == NameKind.free) = true
    · have hk' : k = .free := by simpa using hk
      obtain ⟨c, hc⟩ := h1 (n, k) List.mem_cons_self hk'
      have h2' : ∀ x c', ((n, c) :: cs).lookup x = some c' → env.cells.lookup x = some c' := fun x c' e => by
        rw [List.lookup_cons] at e
        cases hx : x == n with
        | true =>
          rw [hx] at e
          have e1 : x = n := by simpa using hx
          rw [e1, hc]; exact e
        | false => rw [hx] at e; exact h2 x c' e
      obtain ⟨cl, e1, e2, e3, e4⟩ := closure_go env r ((n, c) :: cs) h1' h2'
      have hn : (((n, c) :: cs).lookup n).isSome = true := by rw [List.lookup_cons, beq_self_eq_true]; rfl
      refine ⟨cl, ?_, e2, fun x hx => e3 x ?_, fun p hp hf => ?_⟩
      · rw [List.forIn_cons]
        have q : cellOf env n = pure c := by unfold cellOf; rw [hc]
        simp only [hk, if_true, q]
        exact e1
      · rw [List.lookup_cons]
        cases x == n with
        | true => rfl
        | false => exact hx
      · rcases List.mem_cons.mp hp with e | hp
        · rw [e]; exact e3 n hn
        · exact e4 p hp hf
    · obtain ⟨cl, e1, e2, e3, e4⟩ := closure_go env r cs h1' h2
      refine ⟨cl, ?_, e2, e3, fun p hp hf => ?_⟩
      · rw [List.forIn_cons]
        have hkf : (k == NameKind.free) = false := by simpa using hk
        simp only [hkf, Bool.false_eq_true, if_false]
        exact e1
      · rcases List.mem_cons.mp hp with e | hp
        · rw [e] at hf; exact absurd (by simpa using hf) hk
        · exact e4 p hp hf
theorem closure_of {scope : Scope} {env : Env} (h : ∀ p ∈ scope.names, p.2 = .free → ∃ c, env.cells.lookup p.1 = some c) :
    ∃ cl, closureFor scope env = pure cl ∧ (∀ x c, cl.lookup x = some c → env.cells.lookup x = some c) ∧ (∀ p ∈ scope.names, p.2 = .free → ∃ c, cl.lookup p.1 = some c) := by
  obtain ⟨cl, e1, e2, _, e4⟩ := closure_go env scope.names [] h (fun x c e => by simp at e)
  refine ⟨cl, ?_, e2, fun p hp hf => Option.isSome_iff_exists.mp (e4 p hp hf)⟩
  have q : closureFor scope env = (forIn scope.names [] fun (p : Str × NameKind) (r : List (Str × Addr)) => (if (p.2 == NameKind.free) = true then (do let c ← cellOf env p.1; pure (ForInStep.yield ((p.1, c) :: r))) else pure (ForInStep.yield r) : Sem (ForInStep (List (Str × Addr))))) >>= pure := by
    unfold closureFor
    rfl
  rw [q, e1]
  rfl

/-! ### what the block's names are -/
theorem relabel_free {env : Env} : ∀ {names : List (Str × NameKind)} {x : Str}, (∀ y ∈ names, y.2 ≠ .cell) →
    ((names.map fun (n, k) => if (k == NameKind.free && env.scope.kind == .function && env.kindOf n == some .cell) then (n, NameKind.cell) else (n, k)).lookup x = some .cell ∨
     (names.map fun (n, k) => if (k == NameKind.free && env.scope.kind == .function && env.kindOf n == some .cell) then (n, NameKind.cell) else (n, k)).lookup x = some .free) → (x, NameKind.free) ∈ names
  | [], _, _, h => by simp at h
  | (n, k) :: r, x, hc, h => by
    have ih := @relabel_free env r x (fun y hy => hc y (List.mem_cons_of_mem _ hy))
    simp only [List.map_cons] at h
    cases hx : x == n with
    | true =>
      have e : x = n := by simpa using hx
      subst e
      by_cases hh : (k == NameKind.free && env.scope.kind == .function && env.kindOf x == some .cell) = true
      · have : k = .free := by
          simp only [Bool.and_eq_true] at hh
          simpa using hh.1.1
        subst this
        exact List.mem_cons_self
      · rw [if_neg hh] at h
        simp only [List.lookup_cons, hx] at h
        rcases h with h | h
        · have : k = .cell := Option.some.inj h
          exact absurd this (hc (x, k) List.mem_cons_self)
        · have : k = .free := Option.some.inj h
          subst this
          exact List.mem_cons_self
    | false =>
      refine List.mem_cons_of_mem _ (ih ?_)
      by_cases hh : (k == NameKind.free && env.scope.kind == .function && env.kindOf n == some .cell) = true
      · rw [if_pos hh] at h
        simpa only [List.lookup_cons, hx] using h
      · rw [if_neg hh] at h
        simpa only [List.lookup_cons, hx] using h
theorem relabel_kind {env : Env} : ∀ {names : List (Str × NameKind)} {x : Str}, names.lookup x = some .free →
    ((names.map fun (n, k) => if (k == NameKind.free && env.scope.kind == .function && env.kindOf n == some .cell) then (n, NameKind.cell) else (n, k)).lookup x = some .cell ∨
     (names.map fun (n, k) => if (k == NameKind.free && env.scope.kind == .function && env.kindOf n == some .cell) then (n, NameKind.cell) else (n, k)).lookup x = some .free)
  | [], _, h => by simp at h
  | (n, k) :: r, x, h => by
    have ih := @relabel_kind env r x
    simp only [List.map_cons]
    cases hx : x == n with
    | true =>
      simp only [List.lookup_cons, hx] at h
      have e : k = .free := Option.some.inj h
      subst e
      by_cases hh : (NameKind.free == NameKind.free && env.scope.kind == .function && env.kindOf n == some .cell) = true
      · rw [if_pos hh]; left; simp only [List.lookup_cons, hx]
      · rw [if_neg hh]; right; simp only [List.lookup_cons, hx]
    | false =>
      simp only [List.lookup_cons, hx] at h
      by_cases hh : (k == NameKind.free && env.scope.kind == .function && env.kindOf n == some .cell) = true
      · rw [if_pos hh]; simpa only [List.lookup_cons, hx] using ih h
      · rw [if_neg hh]; simpa only [List.lookup_cons, hx] using ih h

/-! ### the block's context -/
/-- a comprehension's block: tn its own names, cp the captured ones with their slots -/
def cxB (X : Cx) (scope : Scope) (tn : List Str) (cp : List (Nat × Str)) (cl : List (Str × Addr)) (C : Addr) (s : Shared) (H : Hp) (fp : List Addr) : Cx :=
  { X with N := tn ++ cp.map (·.2), s₀ := s, H₀ := H, env := compEnvC scope cl C X.env, outer := X.stack, ex := fp, fn := fun _ => false, pn := [], xe := fun _ _ => False }
def stB (tn : List Str) (cp : List (Nat × Str)) (σ : St) : St := List.replicate tn.length none ++ cp.map fun p => (σ[p.1]?).getD none

/-- what must be known of the comprehension's scope in X -/
structure CompOk (X : Cx) (scope : Scope) (cp : List (Nat × Str)) : Prop where
  kind : scope.kind = .function
  nocell : ∀ y ∈ scope.names, y.2 ≠ .cell
  names : ∀ y ∈ scope.names, y.2 = .local → scope.names.lookup y.1 = some .local
  free : ∀ y ∈ scope.names, y.2 = .free → X.env.kindOf y.1 = some .cell ∨ X.env.kindOf y.1 = some .free
  cap : ∀ p ∈ cp, X.N[p.1]? = some p.2 ∧ scope.names.lookup p.2 = some .free

section
variable {X : Cx} {pins : List (Addr × Obj)} {σ : St} {H : Hp} {s : Shared} {scope : Scope} {tn : List Str} {cp : List (Nat × Str)} {cl : List (Str × Addr)} {fp : List Addr}

theorem mem_of_lookup' {α : Type} : ∀ {l : List (Str × α)} {x : Str} {v : α}, l.lookup x = some v → (x, v) ∈ l
  | [], _, _, h => by simp at h
  | (n, k) :: r, x, v, h => by
    rw [List.lookup_cons] at h
    cases hx : x == n with
    | true =>
      rw [hx] at h
      have e : x = n := by simpa using hx
      have e2 : k = v := Option.some.inj h
      subst e e2
      exact List.mem_cons_self
    | false => rw [hx] at h; exact List.mem_cons_of_mem _ (mem_of_lookup' h)

/-- the block at its start -/
theorem block_start {h₁ : Heap} {t' : Nat} {m0 : Str → Option Value} (I : Inv X pins σ H s) (O : CompOk X scope cp) (hcl1 : ∀ x c, cl.lookup x = some c → X.env.cells.lookup x = some c) (hcl2 : ∀ p ∈ scope.names, p.2 = .free → ∃ c, cl.lookup p.1 = some c)
    (hf : ∀ b ∈ fp, FpOk X pins H b ∧ b < s.heap.objs.size) (hns : h₁.Ns s.heap.objs.size m0) (hk : ∀ b o, s.heap.get? b = some o → h₁.get? b = some o) :
    Inv (cxB X scope tn cp cl s.heap.objs.size s H fp) [] (stB tn cp σ) H { s with heap := h₁, toks := t' } := by
  have ok : (cxB X scope tn cp cl s.heap.objs.size s H fp).Ok := by
    refine ⟨I.ok.mod, O.kind, I.ok.glob, I.ok.blt, Nat.le_refl _, fun x y c e1 e2 => I.ok.inj x y c (hcl1 x c e1) (hcl1 y c e2), fun x hx => ?_, fun x c hx => (by cases hx), I.ok.hd, I.ok.frames, .inl rfl, fun b hb => ⟨Nat.ne_of_lt (hf b hb).2, fun x c e => ?_⟩,
      fun b o e => I.bs b o e, Nat.le_trans I.ok.bsz I.sz, fun b o e hb => ?_, fun b hb hb' => ?_, I.stack, I.stkFree⟩
    · exact hcl2 (x, .free) (relabel_free O.nocell hx) rfl
    · exact (hf b hb).1.2.2.2.2.1 x c (hcl1 x c e)
    · rcases (hf b hb).1.2.2.2.1 with z | z
      · exact I.ok.noex b o e z
      · exact absurd (Nat.lt_of_lt_of_le (Heap.lt_size e) (Nat.le_trans I.ok.bsz z)) (Nat.lt_irrefl _)
    · rcases List.mem_cons.mp (I.stkSub b hb') with z | z
      · exact (hf b hb).1.2.1 z
      · exact (hf b hb).1.2.2.1 z
  refine ⟨ok, rfl, I.bare, Un.kept hk, ⟨m0, hns, fun i x v e1 e2 e3 => ?_⟩, fun x c e => ?_, I.hok.fresh (Nat.le_refl _), fun x c e => I.freeC x c (hcl1 x c e), fun p hp => by simp [cxB] at hp, I.hok.kept hk, ?_⟩
  · -- a captured name
    have e1' : (tn ++ cp.map (·.2))[i]? = some x := e1
    have e2' : (List.replicate tn.length none ++ cp.map fun p => (σ[p.1]?).getD none)[i]? = some (some v) := e2
    by_cases hi : i < tn.length
    · rw [List.getElem?_append_left (by simpa using hi)] at e2'
      rw [List.getElem?_replicate, if_pos hi] at e2'
      cases e2'
    · rw [List.getElem?_append_right (by simpa using Nat.le_of_not_lt hi), List.length_replicate, List.getElem?_map] at e2'
      rw [List.getElem?_append_right (Nat.le_of_not_lt hi), List.getElem?_map] at e1'
      cases hp : cp[i - tn.length]? with
      | none => rw [hp] at e1'; cases e1'
      | some p =>
        rw [hp] at e1' e2'
        have e1'' : p.2 = x := Option.some.inj e1'
        have e2'' : (σ[p.1]?).getD none = some v := Option.some.inj e2'
        obtain ⟨c1, c2⟩ := O.cap p (List.mem_of_getElem? hp)
        rw [e1''] at c1 c2
        have hs : σ[p.1]? = some (some v) := by
          cases q : σ[p.1]? with
          | none => rw [q] at e2''; cases e2''
          | some z => rw [q] at e2''; exact congrArg some e2''
        have hk' := O.free (x, .free) (mem_of_lookup' c2) rfl
        have hvis : Vis X.env.scope x := by
          rcases hk' with z | z
          · exact .inr (.inl z)
          · exact .inr (.inr z)
        obtain ⟨m, hn, hl⟩ := I.loc
        obtain ⟨u, r, l⟩ := hl p.1 x v c1 hs hvis
        refine ⟨u, r, .inr ?_⟩
        rcases l with ⟨z, _⟩ | ⟨_, c, hc, o, ho, hd⟩
        · rcases hk' with y | y <;> (rw [z] at y; cases y)
        · obtain ⟨c', hc'⟩ := hcl2 (x, .free) (mem_of_lookup' c2) rfl
          have : c' = c := Option.some.inj ((hcl1 x c' hc').symm.trans hc)
          subst this
          exact ⟨relabel_kind c2, c', hc', o, hk c' o ho, hd⟩
  · obtain ⟨v, o, ho, hd⟩ := I.cell x c (hcl1 x c e)
    exact ⟨v, o, hk c o ho, hd⟩
  · show (stB tn cp σ).length = (tn ++ cp.map (·.2)).length
    unfold stB
    simp

/-- back from the block -/
theorem block_end {σ' : St} {H' : Hp} {s' : Shared} {h' : Heap} {pinsB : List (Addr × Obj)} (I : Inv X pins σ H s) (hf : ∀ b ∈ fp, FpOk X pins H b)
    (J : Inv (cxB X scope tn cp cl s.heap.objs.size s H fp) pinsB σ' H' s') (hs : Heap.SameBut s.heap.objs.size s'.heap h') : Inv X pins σ H' { s' with heap := h' } := by
  have ne : ∀ b o, s.heap.get? b = some o → b ≠ s.heap.objs.size := fun b o e => Nat.ne_of_lt (Heap.lt_size e)
  have U : Un (frs X.stack) fp H H' s.heap h' := by
    have u : Un (frs X.stack) fp H H' s.heap s'.heap := J.base
    refine ⟨fun b o e n h1 h2 => (hs.2 b (ne b o e)).trans (u.keep b o e n h1 h2), fun b o e n h1 h2 => ?_, u.free, fun b o e h2 => ?_, u.tups, u.frzs, u.tbls⟩
    · obtain ⟨sl, q⟩ := u.slot b o e n h1 h2
      exact ⟨sl, (hs.2 b (ne b o e)).trans q⟩
    · obtain ⟨o', q⟩ := u.there b o e h2
      exact ⟨o', (hs.2 b (ne b o e)).trans q⟩
  have fr : H' s.heap.objs.size = none := J.free
  have hok : HOk X.prog X.w H' h' := fun b ob e => by
    refine (J.hok b ob e).stay (fun c v hc q => (hs.2 c ?_).trans q) (fun _ q => q) (fun _ _ _ _ _ q => q) fun _ _ q => q
    rintro rfl
    rcases hc with z | z
    · rw [← z, fr] at e; cases e
    · rw [fr] at z; cases z
  refine I.call' (s' := { s' with heap := h' }) (ch := fp) J.os U hok J.bare fun b hb => ?_
  obtain ⟨_, f1, _, f3, f4, f5⟩ := hf b hb
  exact ⟨f3, f1, f4, f5⟩
end

/-! ### the tests of a comprehension -/
def PIfs (X : Cx) (ifs : List Expr) (t : TT) : Prop :=
  ∀ (pins : List (Addr × Obj)) (s : Shared) (σ : St) (H : Hp) (Q : Bool → Hp → Prop), Inv X pins σ H s → t σ H Q →
    wpAny (model X.prog X.w) X.A (forIn ifs true fun c r => if r = true then do let ok ← isTrue c X.env (eval c X.env); pure (ForInStep.yield ok) else pure (ForInStep.yield r)) (TP X pins σ Q) X.xe s
def tYes : TT := fun _ H Q => Q true H
theorem pf_nil {X : Cx} : PIfs X [] tYes := fun _ _ _ H _ I h => wpAny_tests_nil ⟨H, I, h⟩
theorem pf_one {X : Cx} {c : Expr} {t : TT} (h : PT X c t) : PIfs X [c] t := fun pins s σ H Q I hw => wpAny_tests_one (h pins s σ H Q I hw)

/-! ### the loop -/
theorem compLoop_own {prog : Program} {w : World} {A : Around} {R : Result → Shared → Prop} {s : Shared} {elt target iter : Expr} {ifs : List Expr} {scope : Scope} {pos : Pos} {it acc : Value} {env : Env} (I : Nat → Shared → Prop)
    (turn : ∀ n s, I n s → wpAny (model prog w) A (pyNext it) (fun r s₁ => match r with
      | none => R (.ok .next) s₁
      | some v => wpAny (model prog w) A (letOwnedTupleGo target it v) (fun _ s₂ => wpAny (model prog w) A (assign target env v) (fun _ s₃ =>
          wpAny (model prog w) A (forIn ifs true fun c r => if r = true then do let ok ← isTrue c env (eval c env); pure (ForInStep.yield ok) else pure (ForInStep.yield r)) (fun ok s₄ =>
            if ok = true then wpAny (model prog w) A (eval elt env) (fun x s₅ =>
              wpAny (model prog w) A (call (.builtin "list.append") [acc, x]) (fun _ s₆ => ∃ m, m < n ∧ I m s₆) (fun _ _ => False) s₅) (fun _ _ => False) s₄
            else ∃ m, m < n ∧ I m s₄) (fun _ _ => False) s₃) (fun _ _ => False) s₂) (fun _ _ => False) s₁) (fun _ _ => False) s)
    (n : Nat) (h : I n s) :
    codeAny (model prog w) A (.compLoop (.ListComp elt [⟨target, iter, ifs, 0⟩] scope pos) 0 it acc env) R s := by
  refine codeAny_loop rfl I (fun n s hI => ?_) n h
  show wpAny _ A ((compTurn (.ListComp elt [⟨target, iter, ifs, 0⟩] scope pos) 0 it acc env).onRaise (fun x => do noteFrame x env; theTreesLotGoes x)) _ _ s
  refine wpAny_noted ?_
  rw [compTurn_list]
  refine wpAny_bind (wpAny_standAt (wpAny_bind (wpAny_mono (turn n s hI) (fun r s₁ h₁ => ?_) fun _ _ f => f.elim)))
  cases r with
  | none => exact wpAny_pure h₁
  | some v =>
    refine wpAny_bind (wpAny_mono h₁ (fun _ s₂ h₂ => ?_) fun _ _ f => f.elim)
    refine wpAny_bind (wpAny_mono h₂ (fun _ s₃ h₃ => wpAny_bind (wpAny_mono h₃ (fun ok s₄ h₄ => ?_) fun _ _ f => f.elim)) fun _ _ f => f.elim)
    cases ok with
    | false => exact wpAny_pure ⟨rfl, h₄⟩
    | true =>
      exact wpAny_bind (wpAny_bind (wpAny_mono h₄ (fun x s₅ h₅ => wpAny_bind (wpAny_mono h₅ (fun _ s₆ h₆ => wpAny_pure (wpAny_pure ⟨rfl, h₆⟩)) fun _ _ f => f.elim)) fun _ _ f => f.elim))

/-! ### the rule -/
/-- [e for g in it if t]: D the new list; W the invariant by the turn and a measure -/
def tComp (tn : List Str) (cp : List (Nat × Str)) (wi : TI) (g : TG) (tif : TT) (te : TE) : TE := fun σ H Q => wi σ H fun J H1 => ∀ D, H1 D = none → ∃ W : Nat → Nat → St → Hp → Prop,
  (∃ m, W 0 m (stB tn cp σ) (upd H1 D (.lst []))) ∧ ∀ i m σb Hb, W i m σb Hb →
    (J.stop i Hb ∧ Q (.ref D) Hb) ∨ (J.go i Hb ∧ ∀ x H', J.yld i Hb x H' → g x σb H' fun σ2 H2 => tif σ2 H2 fun c H3 =>
      if c = true then te σ2 H3 fun y H4 => ∃ ys, H4 D = some (.lst ys) ∧ ys.length < sizeLine ∧ ∃ m', m' < m ∧ W (i + 1) m' σ2 (upd H4 D (.lst (ys ++ [y])))
      else ∃ m', m' < m ∧ W (i + 1) m' σ2 H3)

/-- the whole of it: fin is what is asked when the last item is taken -/
theorem lcomp_core {X : Cx} {elt tg iter : Expr} {ifs : List Expr} {scope : Scope} {pos cpos : Pos} {wi : TI} {g : TG} {tif : TT} {te : TE} (tn : List Str) (cp : List (Nat × Str)) (O : CompOk X scope cp) (hc : X.calm = true) (hi : PI X tg iter wi)
    (hg : ∀ cl C s H fp, PG (cxB X scope tn cp cl C s H fp) tg g) (hif : ∀ cl C s H fp, PIfs (cxB X scope tn cp cl C s H fp) ifs tif) (he : ∀ cl C s H fp, PE (cxB X scope tn cp cl C s H fp) elt te)
    (hs : ∀ x, foldedSetIterable iter X.env x = pure x) {pins : List (Addr × Obj)} {s : Shared} {σ : St} {H : Hp} {Q : VK} {R : Value → Shared → Prop} {use : Option (Value → Sem Unit)} (I : Inv X pins σ H s) (h : tComp tn cp wi g tif te σ H Q)
    (fin : ∀ (D C : Addr) (H5 : Hp) (s5 : Shared) (m : Str → Option Value), Inv X pins σ H5 s5 → FpOk X pins H5 C → s5.heap.Ns C m → Q (.ref D) H5 → compPost (model X.prog X.w) X.A X.xe use R (.ref D) C (.ok .next) s5) :
    wpAny (model X.prog X.w) X.A (comprehension (.ListComp elt [⟨tg, iter, ifs, 0⟩] scope pos) scope X.env cpos (newList []) false (eval iter X.env) use) R X.xe s := by
  obtain ⟨cl, hcl, hcl1, hcl2⟩ := closure_of (scope := scope) (env := X.env) fun p hp hf => I.ok.has p.1 (O.free p hp hf)
  refine wpAny_comprehension_free (use := use) rfl hs hcl O.kind O.names (thn (hi pins s σ H _ I h) fun v s1 h1 => thn h1 fun itv s2 h2 => ?_)
  obtain ⟨it, fp, tn', J, H2, rfl, I2, T, st2, f2, rest⟩ := h2
  refine wpAny_newObj_type ?_
  have I3 : Inv X pins σ (upd H2 s2.heap.objs.size (.lst [])) { s2 with heap := s2.heap.push { cls := .type "list", data := .seq ([] : List Value).toArray } } := I2.lnew (its := []) (t' := s2.toks) .nil (Nat.zero_le _)
  obtain ⟨W, ⟨m0, w0⟩, turn⟩ := rest s2.heap.objs.size I2.fresh
  have fpl : ∀ b ∈ fp, b < s2.heap.objs.size := fun b hb => by
    obtain ⟨o, e, _⟩ := T.obj _ _ st2 b hb
    exact Heap.lt_size e
  have f3 : ∀ b ∈ fp, FpOk X pins (upd H2 s2.heap.objs.size (.lst [])) b := fun b hb => ⟨by rw [upd_ne (Nat.ne_of_lt (fpl b hb))]; exact (f2 b hb).1, (f2 b hb).2⟩
  have sz3 : (s2.heap.push { cls := .type "list", data := .seq ([] : List Value).toArray }).objs.size = s2.heap.objs.size + 1 := Heap.size_push ..
  refine wpAny_newFunctionEnv O.nocell (by intro y hy; simp at hy) (fun h₁ hns hsb => ?_) O.kind
  have hk1 : ∀ b o, (s2.heap.push { cls := .type "list", data := .seq ([] : List Value).toArray }).get? b = some o → h₁.get? b = some o := fun b o e =>
    hsb.extBut b o (Nat.ne_of_lt (Heap.lt_size e)) (Heap.get?_push_of_some _ e)
  have J3 := block_start (tn := tn) (cp := cp) (t' := s2.toks + ([] : List (Str × Value)).length) I3 O hcl1 hcl2 (fun b hb => ⟨f3 b hb, by rw [sz3]; exact Nat.lt_succ_of_lt (fpl b hb)⟩) hns hk1
  have st3 : tn' 0 h₁ := T.keep _ _ _ st2 fun b hb o e => hk1 b o (Heap.get?_push_of_some _ e)
  show codeAny _ _ (.compStart _ 0 (.ref it) (.ref s2.heap.objs.size) (compEnvC scope cl (s2.heap.push { cls := .type "list", data := .seq ([] : List Value).toArray }).objs.size X.env)) _ _
  generalize hXB : cxB X scope tn cp cl (s2.heap.push { cls := .type "list", data := .seq ([] : List Value).toArray }).objs.size { s2 with heap := s2.heap.push { cls := .type "list", data := .seq ([] : List Value).toArray } } (upd H2 s2.heap.objs.size (.lst [])) fp = XB at J3
  have hprog : XB.prog = X.prog := by rw [← hXB]; rfl
  have hw : XB.w = X.w := by rw [← hXB]; rfl
  have hK : XB.K = X.K := by rw [← hXB]; rfl
  have hA : XB.A = X.A := by rw [← hXB]; rfl
  have henv : XB.env = compEnvC scope cl (s2.heap.push { cls := .type "list", data := .seq ([] : List Value).toArray }).objs.size X.env := by rw [← hXB]; rfl
  have hcalm : XB.calm = true := by rw [← hXB]; exact hc
  have hxe : XB.xe = fun _ _ => False := by rw [← hXB]; rfl
  have hgB : PG XB tg g := by rw [← hXB]; exact hg _ _ _ _ _
  have hifB : PIfs XB ifs tif := by rw [← hXB]; exact hif _ _ _ _ _
  have heB : PE XB elt te := by rw [← hXB]; exact he _ _ _ _ _
  have fB : ∀ (pb : List (Addr × Obj)) (Hb : Hp), (∀ b ∈ fp, Hb b = none) → (∀ b ∈ fp, ∀ p ∈ XB.pn ++ pb, p.1 ≠ b) → ∀ b ∈ fp, FpOk XB pb Hb b := fun pb Hb hn hp b hb => by
    refine ⟨hn b hb, ?_, ?_, .inl (by rw [← hXB]; exact hb), fun x c e => ?_, hp b hb⟩
    · rw [henv]; show b ≠ (s2.heap.push { cls := .type "list", data := .seq ([] : List Value).toArray }).objs.size
      rw [sz3]; exact Nat.ne_of_lt (Nat.lt_succ_of_lt (fpl b hb))
    · rw [← hXB]
      show b ∉ frs X.stack
      intro z
      rcases List.mem_cons.mp (I2.stkSub b z) with y | y
      · exact (f2 b hb).2.1 y
      · exact (f2 b hb).2.2.1 y
    · rw [henv] at e
      exact (f2 b hb).2.2.2.2.1 x c (hcl1 x c e)
  have pn0 : XB.pn = [] := by rw [← hXB]; rfl
  have loop : ∀ s₃ : Shared, s₃ = { s2 with heap := h₁, toks := s2.toks + ([] : List (Str × Value)).length } →
      codeAny (model X.prog X.w) X.A (.compLoop (.ListComp elt [⟨tg, iter, ifs, 0⟩] scope pos) 0 (.ref it) (.ref s2.heap.objs.size) XB.env)
        (compPost (model X.prog X.w) X.A X.xe use R (.ref s2.heap.objs.size) (s2.heap.push { cls := .type "list", data := .seq ([] : List Value).toArray }).objs.size) s₃ := by
    rintro s₃ rfl
    refine compLoop_own (fun n s' => ∃ i σb Hb, Inv XB [] σb Hb s' ∧ tn' i s'.heap ∧ (∀ b ∈ fp, Hb b = none) ∧ W i n σb Hb) ?_ m0 ⟨0, stB tn cp σ, _, J3, st3, fun b hb => (f3 b hb).1, w0⟩
    rintro n s4 ⟨i, σ4, H4, I4, st4, fr4, w4⟩
    rcases turn i n σ4 H4 w4 with ⟨stop, qn⟩ | ⟨go, step⟩
    · have d := T.done XB hprog hw hK hcalm i [] s4 σ4 H4 (fun _ _ => False) I4 (fB [] H4 fr4 (fun b hb p hp => by rw [pn0] at hp; simp at hp)) st4 stop
      rw [hA] at d
      refine thn d fun r s5 ⟨hr, I5⟩ => ?_
      subst hr
      obtain ⟨mm, hn5, _⟩ := id I5.loc
      have fr5 : H4 (s2.heap.push { cls := .type "list", data := .seq ([] : List Value).toArray }).objs.size = none := by
        have z := I5.free
        rw [henv] at z
        exact z
      have J5 : Inv X pins σ H4 s5 := by
        rw [← hXB] at I5
        exact block_end (h' := s5.heap) I3 f3 I5 ⟨rfl, fun _ _ => rfl⟩
      exact fin _ _ H4 s5 mm J5 (I3.fpOk (Nat.le_refl _) fr5) (by rw [henv] at hn5; exact hn5) qn
    · have d := T.item XB hprog hw hK hcalm i [] s4 σ4 H4 (fun _ _ => False) I4 (fB [] H4 fr4 (fun b hb p hp => by rw [pn0] at hp; simp at hp)) st4 go
      rw [hA] at d
      refine thn d fun r s5 ⟨u, hr, h5⟩ => ?_
      subst hr
      refine thn h5 fun _ s6 ⟨x, H6, I6, r6, y6, st6, fr6⟩ => ?_
      have I6' := I6.pinned (fB [] H6 fr6 (fun b hb p hp => by rw [pn0] at hp; simp at hp)) (T.obj _ _ st6)
      have q6 := step x H6 y6
      have a1 := hgB _ s6 σ4 H6 x u _ I6' r6 q6
      rw [hxe, hprog, hw, hA] at a1
      refine thn a1 fun _ s7 ⟨σ7, H7, I7, q7⟩ => ?_
      have a2 := hifB _ s7 σ7 H7 _ I7 q7
      rw [hxe, hprog, hw, hA] at a2
      refine thn a2 fun ok s8 ⟨H8, I8, q8⟩ => ?_
      have again : ∀ {σ9 : St} {H9 : Hp} {s9 : Shared}, Inv XB ([] ++ pinsAt fp s6.heap) σ9 H9 s9 → (∃ m', m' < n ∧ W (i + 1) m' σ9 H9) → ∃ m, m < n ∧ ∃ i σb Hb, Inv XB [] σb Hb s9 ∧ tn' i s9.heap ∧ (∀ b ∈ fp, Hb b = none) ∧ W i m σb Hb := fun {σ9 H9 s9} I9 n9 => by
        obtain ⟨m', hm, w9⟩ := n9
        refine ⟨m', hm, i + 1, σ9, H9, I9.unpinned, T.keep _ _ _ st6 fun b hb o e => (I9.pin (b, o) (List.mem_append_right _ (List.mem_append_right _ (mem_pinsAt hb e)))).1, fun b hb => ?_, w9⟩
        obtain ⟨o, e, d⟩ := T.obj _ _ st6 b hb
        exact (I9.pin (b, o) (List.mem_append_right _ (List.mem_append_right _ (mem_pinsAt hb e)))).2.1
      cases ok with
      | false => exact again I8 q8
      | true =>
        show wpAny _ _ _ _ _ _
        have a3 := heB _ s8 σ7 H8 _ I8 q8
        rw [hxe, hprog, hw, hA] at a3
        refine thn a3 fun yv s9 ⟨y, H9, I9, r9, ys, hD, hlen, n9⟩ => ?_
        have a4 := mt_append (X := XB) _ s9 σ7 H9 (.ref s2.heap.objs.size) [y] (.ref s2.heap.objs.size) [yv] (fun _ H' => ∃ m', m' < n ∧ W (i + 1) m' σ7 H') I9 rfl (.cons r9 .nil) ⟨_, ys, y, rfl, rfl, hD, hlen, n9⟩
        rw [hxe, hprog, hw, hA] at a4
        exact thn a4 fun _ s10 ⟨_, H10, I10, _, q10⟩ => again I10 q10
  rw [henv] at loop
  refine codeAny_compStart_list (loop _ rfl) (T.self _ 0 _ _ _ st3 (loop _ rfl))

theorem pe_lcomp {X : Cx} {elt tg iter : Expr} {ifs : List Expr} {scope : Scope} {pos : Pos} {wi : TI} {g : TG} {tif : TT} {te : TE} (tn : List Str) (cp : List (Nat × Str)) (O : CompOk X scope cp) (hc : X.calm = true) (hi : PI X tg iter wi)
    (hg : ∀ cl C s H fp, PG (cxB X scope tn cp cl C s H fp) tg g) (hif : ∀ cl C s H fp, PIfs (cxB X scope tn cp cl C s H fp) ifs tif) (he : ∀ cl C s H fp, PE (cxB X scope tn cp cl C s H fp) elt te)
    (hs : ∀ x, foldedSetIterable iter X.env x = pure x := by intro _; rfl) :
    PE X (.ListComp elt [⟨tg, iter, ifs, 0⟩] scope pos) (tComp tn cp wi g tif te) := by
  intro pins s σ H Q I h
  rw [eval_ListComp]
  refine lcomp_core tn cp O hc hi hg hif he hs I h fun D C H5 s5 m I5 f5 n5 q5 => ⟨m, n5, fun h' hs' => ⟨.ref D, H5, ?_, rfl, q5⟩⟩
  obtain ⟨f0, f1, f2, f3, f4, f5⟩ := f5
  exact I5.turned (t' := s5.toks) (fun b o hb e => (hs'.2 b hb).trans e) f0 f1 f3 f4 f5
end L2

set_option Elab.async false
set_option linter.all false
set_option maxRecDepth 100000
/-! TEXTS, isinstance, all, any, == of lists, over the hand layer -/
namespace L2
open PySem PySem.Spec PyProof.Rows

/-! ### the signs of a text -/
def Its (z : Str) : It := ⟨fun i _ => i < z.cps.size, fun i H x H' => H' = H ∧ ∃ c, z.cps[i]? = some c ∧ x = .str ⟨#[c]⟩, fun i _ => z.cps.size ≤ i⟩
theorem turn_str {P : Program} {w : World} {K : PySem.W.Frag} {tg : Expr} (z : Str) (t : Tok) (it : Addr) (ty : String) (hty : ty = "str_ascii_iterator" ∨ ty = "str_iterator") :
    Turn P w K tg (Its z) [it] it (fun i h => h.IsStrIter it ty z t i) where
  mem := by simp
  obj := fun i h st b hb => by
    have e : b = it := by simpa using hb
    subst e
    obtain ⟨o, e, c, d⟩ := st
    exact ⟨o, e, fun v z => by rw [d] at z; cases z⟩
  keep := fun i h h' st k => by
    obtain ⟨o, e, r⟩ := st
    exact ⟨o, k it (by simp) o e, r⟩
  item := by
    intro X hP hw hK hc i pins s σ H E I hf st hg
    subst hP hw hK
    obtain ⟨f0, f1, f2, f3, f4, f5⟩ := hf it (by simp)
    have hi : i < z.cps.size := hg
    have hx : z.cps[i]? = some z.cps[i] := by simp [hi]
    have nn : (["enumerate", "zip", "dict_itemiterator", "dict_reverseitemiterator", "odict_iterator", "itertools.zip_longest", "itertools.pairwise"].contains ty) = false := by
      rcases hty with e | e <;> (rw [e]; decide)
    have fin : ∀ h', h'.IsStrIter it ty z t (i + 1) → Heap.SameBut it s.heap h' → ∃ u, some (Value.str ⟨#[z.cps[i]]⟩ s.toks) = some u ∧
        wpAny (model X.prog X.w) X.A (letOwnedTupleGo tg (.ref it) u) (fun _ s2 => ∃ x H', Inv X pins σ H' s2 ∧ RelV x u ∧ (Its z).yld i H x H' ∧ s2.heap.IsStrIter it ty z t (i + 1) ∧ ∀ b ∈ [it], H' b = none) E { s with heap := h', toks := s.toks + 1 } := fun h' st' sb => by
      have I1 : Inv X pins σ H { s with heap := h', toks := s.toks + 1 } := I.turned (t' := s.toks + 1) (fun b o hb e => (sb.2 b hb).trans e) f0 f1 f3 f4 f5
      obtain ⟨o, e, c, d⟩ := id st'
      exact ⟨_, rfl, go_of (s := { s with heap := h', toks := s.toks + 1 }) e c d nn ⟨.str ⟨#[z.cps[i]]⟩, H, I1, ⟨_, rfl⟩, ⟨rfl, _, hx, rfl⟩, st', fun b hb => (hf b hb).1⟩⟩
    rcases hty with e | e
    · subst e; exact wpAny_pyNext_ascii_item st hx fin
    · subst e; exact wpAny_pyNext_wide_item st hx fin
  done := by
    intro X hP hw hK hc i pins s σ H E I hf st hg
    subst hP hw hK
    obtain ⟨f0, f1, f2, f3, f4, f5⟩ := hf it (by simp)
    have hi : z.cps.size ≤ i := hg
    have hx : z.cps[i]? = none := by simp [hi]
    rcases hty with e | e
    · subst e; exact wpAny_pyNext_ascii_end (I.ok.hd hc) st hx fun h' eb => ⟨rfl, I.turned (t' := s.toks) (fun b o hb e => eb b o hb e) f0 f1 f3 f4 f5⟩
    · subst e; exact wpAny_pyNext_wide_end (I.ok.hd hc) st hx fun h' eb => ⟨rfl, I.turned (t' := s.toks) (fun b o hb e => eb b o hb e) f0 f1 f3 f4 f5⟩
  self := by
    intro A i s Q E st h
    rcases hty with e | e
    · subst e; exact wpAny_pyIter_striter_ascii st h
    · subst e; exact wpAny_pyIter_striter_wide st h
def iStr (tl : TE) : TI := fun σ H R => tl σ H fun x H1 => ∃ z, x = .str z ∧ R (Its z) H1
theorem pi_str {X : Cx} {tg l : Expr} {tl : TE} (hl : PE X l tl) : PI X tg l (iStr tl) := by
  intro pins s σ H R I h
  refine thn (hl pins s σ H _ I h) fun v s1 ⟨x, H1, I1, r1, q1⟩ => ?_
  obtain ⟨z, e, q⟩ := q1
  subst e
  obtain ⟨t, rfl⟩ := r1
  have fo : ∀ b ∈ [s1.heap.objs.size], FpOk X pins H1 b := fun b hb => by
    have e : b = s1.heap.objs.size := by simpa using hb
    subst e
    exact I1.fpOk (Nat.le_refl _) (I1.hok.fresh (Nat.le_refl _))
  cases ha : z.cps.all (· < 128)
  · exact wpAny_pyIter_wide ha ⟨s1.heap.objs.size, [s1.heap.objs.size], _, _, H1, rfl, I1.kept (t' := s1.toks) fun b o e => Heap.get?_push_of_some _ e, turn_str z t _ "str_iterator" (.inr rfl), ⟨_, Heap.get?_push_size _ rfl, rfl, rfl⟩, fo, q⟩
  · exact wpAny_pyIter_ascii ha ⟨s1.heap.objs.size, [s1.heap.objs.size], _, _, H1, rfl, I1.kept (t' := s1.toks) fun b o e => Heap.get?_push_of_some _ e, turn_str z t _ "str_ascii_iterator" (.inl rfl), ⟨_, Heap.get?_push_size _ rfl, rfl, rfl⟩, fo, q⟩

/-! ### slices of a text -/
def rSlS : V → Option Int → Option Int → Hp → VK → Prop := fun x lo hi H Q => ∃ z, x = .str z ∧ z.length ≤ sizeLine ∧ Q (.str (Txt.slice z lo hi)) H
theorem sl_str {X : Cx} : SlR X rSlS := by
  intro pins s σ H x v vl vu lo hi sl Q I rx hs pl pu h
  obtain ⟨z, rfl, hz, q⟩ := h
  obtain ⟨t, rfl⟩ := rx
  refine ⟨"str", _, F.slot_str_getitem.lookup, typeIs_str _ _ _, ?_⟩
  have go : ∀ (l u : Option (Int × Tok)), vl = partValue l → vu = partValue u → lo = l.map (·.1) → hi = u.map (·.1) → wpAny (model X.prog X.w) X.A (getItem (.str z t) (.ref sl)) (EP X pins σ Q) X.xe s := by
    rintro l u rfl rfl rfl rfl
    refine wpAny_getItem_str_slice (l := l) (u := u) (st := none) ?_ rfl ?_
    · obtain ⟨o, e, c, d⟩ := hs
      exact ⟨o, e, c, d⟩
    · exact post_val_or_str ⟨Nat.le_trans (Txt.slice_le z _ _) hz, fun t' k => ⟨.str _, H, I.tok _, ⟨_, rfl⟩, q⟩⟩
  cases pl with
  | none =>
    cases pu with
    | none => exact go none none rfl rfl rfl rfl
    | int j u => exact go none (some (j, u)) rfl rfl rfl rfl
  | int i t' =>
    cases pu with
    | none => exact go (some (i, t')) none rfl rfl rfl rfl
    | int j u => exact go (some (i, t')) (some (j, u)) rfl rfl rfl rfl

/-! ### isinstance(x, T), T a built-in type -/
theorem call_isinst {X : Cx} : CallR X (.builtin "isinstance") (fun xs H Q => ∃ x T t b, xs = [x, .ty T] ∧ TyOf X.K H x t ∧ PySem.W.kitOne X.K t (.type T) = some b ∧ Q (.bl b) H) := by
  intro pins s σ H xs us Q I r h
  obtain ⟨x, T, t, b, rfl, ty, e, q⟩ := h
  obtain ⟨u, w', rfl, rx, ry⟩ := vals2 r
  cases (show w' = Value.type T from ry)
  exact isinst_ok I rx ty e fun tk => ⟨.bl b, H, I.tok _, rfl, q⟩

/-! ### all, any, sum -/
section
open PyProof.Rows.LSm
theorem bools_of {bs : List Bool} : ∀ {us : List Value}, Vals (bs.map V.bl) us → BoolsAre us bs := by
  induction bs with
  | nil => intro us r; rw [List.map_nil] at r; cases r; exact .nil
  | cons b bs ih =>
    intro us r
    rw [List.map_cons] at r
    cases r with
    | cons r1 r2 =>
      cases (show _ = Value.bool b from r1)
      exact .cons b (ih r2)
theorem call_all_bl {X : Cx} (hc : X.calm = true) : CallR X (.builtin "all") (fun xs H Q => ∃ (p : Addr) (bs : List Bool), xs = [.ref p] ∧ SqL X.K H p (bs.map V.bl) ∧ Q (.bl (bs.all id)) H) := by
  intro pins s σ H xs us Q I r h
  obtain ⟨p, bs, rfl, hx, q⟩ := h
  obtain ⟨u, rfl, rx⟩ := vals1 r
  cases (show u = Value.ref p from rx)
  obtain ⟨vs, rv, pl, hz⟩ := I.list hx
  have hl := pl.isList
  have hb := bools_of rv
  have hlt : p < s.heap.objs.size := by obtain ⟨_, e, _⟩ := hl; exact Heap.lt_size e
  refine call_all_walk (wpAny_pyIter_list hl ?_)
  refine ⟨s.heap.objs.size, [s.heap.objs.size, p], [s.heap.objs.size], vs.toArray.size, _, _, fun i => (bs[i]?).getD true, rfl, Walks.list (A := X.A.in1) (I.ok.hd hc) _ p (Nat.ne_of_lt hlt) vs.toArray,
    ⟨⟨_, Heap.get?_push_size _ rfl, rfl, rfl⟩, hl.push _⟩, fun i v s' Q' E' hP hQ => ?_, fun h' tk hk => ?_⟩
  · obtain ⟨b, e, rfl⟩ := hb.get i v (by simpa using hP)
    simp only [e, Option.getD_some] at hQ
    exact wpAny_truthy_bool hQ
  · have e : ((List.range vs.toArray.size).all fun i => (bs[i]?).getD true) = bs.all id := by
      rw [List.size_toArray, hb.length]; exact range_all bs
    rw [e]
    exact ⟨.bl _, H, I.kept (kept_iter hk), rfl, q⟩
theorem call_sum_int {X : Cx} (hc : X.calm = true) : CallR X (.builtin "sum") (fun xs H Q => ∃ (p : Addr) (ns : List Int), xs = [.ref p] ∧ SqL X.K H p (ns.map V.int) ∧ Q (.int ns.sum) H) := by
  intro pins s σ H xs us Q I r h
  obtain ⟨p, ns, rfl, hx, q⟩ := h
  obtain ⟨u, rfl, rx⟩ := vals1 r
  cases (show u = Value.ref p from rx)
  obtain ⟨vs, rv, pl, hz⟩ := I.list hx
  have hi := intsAre_of rv
  obtain ⟨ys, hy⟩ := hi.allInts.items
  have hl' : s.heap.IsList p (intItems ys) := hy ▸ pl.isList
  refine sum_intListG (I.ok.hd hc) hl' fun h' tk t' hk => ?_
  have e1 : ns = ys.toList.map (·.1) := by
    rw [← nums_intItems, ← hy]
    exact (show numsOf vs.toArray.toList = ns from hi.numsOf).symm
  have e2 : preSum (numAt ys) ys.size = ns.sum := by
    rw [preSum_eq, List.take_of_length_le (by simp), e1]
  rw [e2]
  exact ⟨.int _, H, I.kept hk, ⟨_, rfl⟩, q⟩
end

/-! ### zfill -/
def rZfill : V → List V → Hp → VK → Prop := fun x vs H Q => ∃ z i, x = .str z ∧ vs = [.int i] ∧ PadOk i = true ∧ Q (.str (Txt.zfill z i)) H
/-! ### == of lists and tuples -/
/-- x == y is b, asked within a comparison of items (the same object is equal) -/
def EqOk (X : Cx) (k : Nat) (H : Hp) (x y : V) (b : Bool) : Prop := ∀ (pins : List (Addr × Obj)) (σ : St) (s : Shared) (A : Around) (u v : Value), A.units + k < cLine → Inv X pins σ H s → RelV x u → RelV y v → SeqAt.EqAt A s u v b
/-- x == y, asked by the operator -/
def RcOk (X : Cx) (k : Nat) (H : Hp) (x y : V) (b : Bool) : Prop := ∀ (pins : List (Addr × Obj)) (σ : St) (s : Shared) (A : Around) (u v : Value), A.units + k < cLine → Inv X pins σ H s → RelV x u → RelV y v → SeqAt.RcAt A s u v b
section
variable {X : Cx} {k : Nat} {H : Hp} {x y : V} {a b : Addr} {xs ys : List V}
theorem eqok_flat (fx : flatV x = true) (fy : flatV y = true) : EqOk X k H x y (eqV x y) := fun _ _ _ _ _ _ _ _ rx ry => eqAt_V rx ry fx fy
theorem Vals.at {xs : List V} {us : List Value} (r : Vals xs us) {j : Nat} (h : j < us.length) : ∃ (h' : j < xs.length), RelV xs[j] us[j] := by
  have hl := r.length
  have h' : j < xs.length := by omega
  obtain ⟨u, e, q⟩ := r.get (i := j) (x := xs[j]) (by simp [h'])
  rw [List.getElem?_eq_getElem h] at e
  cases e
  exact ⟨h', q⟩
/-- two lists of the same length, item by item -/
theorem rcok_lists (hx : SqL X.K H a xs) (hy : SqL X.K H b ys) (hl : xs.length = ys.length) (e : Nat → Bool) (he : ∀ j (h1 : j < xs.length) (h2 : j < ys.length), EqOk X k H xs[j] ys[j] (e j)) :
    RcOk X (k + 1) H (.ref a) (.ref b) ((List.range xs.length).all e) := fun pins σ s A u v hu I rx ry => by
  cases (show u = Value.ref a from rx)
  cases (show v = Value.ref b from ry)
  obtain ⟨us, r1, p1, _⟩ := I.list hx
  obtain ⟨vs, r2, p2, _⟩ := I.list hy
  have l1 := r1.length
  have l2 := r2.length
  have q := SeqAt.RcAt.lists (A := A) (e := e) p1.isList p2.isList (by rw [List.size_toArray, List.size_toArray]; omega) (by omega) fun j h1 h2 => by
    rw [List.size_toArray] at h1 h2
    obtain ⟨g1, q1⟩ := r1.at h1
    obtain ⟨g2, q2⟩ := r2.at h2
    exact he j g1 g2 pins σ s A.in1 _ _ (by show A.units + 1 + k < cLine; omega) I (by simpa using q1) (by simpa using q2)
  rw [List.size_toArray, ← l1] at q
  exact q
theorem rcok_lens (hx : SqL X.K H a xs) (hy : SqL X.K H b ys) (hl : xs.length ≠ ys.length) : RcOk X k H (.ref a) (.ref b) false := fun pins σ s A u v hu I rx ry => by
  cases (show u = Value.ref a from rx)
  cases (show v = Value.ref b from ry)
  obtain ⟨us, r1, p1, _⟩ := I.list hx
  obtain ⟨vs, r2, p2, _⟩ := I.list hy
  have l1 := r1.length
  have l2 := r2.length
  exact SeqAt.RcAt.lists_lengths p1.isList p2.isList (by rw [List.size_toArray, List.size_toArray]; simp; omega) (by omega)
/-- two lists of flat values -/
theorem rcok_flats (hx : SqL X.K H a xs) (hy : SqL X.K H b ys) (fx : xs.all flatV = true) (fy : ys.all flatV = true) :
    RcOk X 1 H (.ref a) (.ref b) (xs.length == ys.length && (List.range xs.length).all fun j => eqV (xs.getD j .non) (ys.getD j .non)) := by
  by_cases hl : xs.length = ys.length
  · have q := rcok_lists (k := 0) hx hy hl (fun j => eqV (xs.getD j .non) (ys.getD j .non)) fun j h1 h2 => by
      have e1 : xs.getD j .non = xs[j] := by simp [List.getD, h1]
      have e2 : ys.getD j .non = ys[j] := by simp [List.getD, h2]
      rw [e1, e2]
      exact eqok_flat (List.all_eq_true.mp fx _ (List.getElem_mem h1)) (List.all_eq_true.mp fy _ (List.getElem_mem h2))
    rw [show (xs.length == ys.length) = true by simp [hl], Bool.true_and]
    exact q
  · rw [show (xs.length == ys.length) = false by simp [hl], Bool.false_and]
    exact rcok_lens hx hy hl
end
/-- x == y of two lists (tuples), by RcOk -/
def rEqD (X : Cx) (k : Nat) : R2 := fun x y H Q => ∃ c, RcOk X k H x y c ∧ Q (.bl c) H
theorem op_eqD {X : Cx} {k : Nat} (hu : X.A.units + k < cLine) : OpR X (compareOp .Eq) (rEqD X k) := by
  intro pins s σ H x y v u Q I rx ry h
  obtain ⟨c, r, q⟩ := h
  exact r pins σ s X.A v u hu I rx ry _ _ _ _ ⟨.bl c, H, I, rfl, q⟩

/-! ### comprehensions, the forms one uses -/
def CW (D : Addr) (n : Nat) (Pv : Nat → List V → St → Hp → Prop) (i m : Nat) (σ : St) (H : Hp) : Prop := m = n - i ∧ i ≤ n ∧ ∃ ys, H D = some (.lst ys) ∧ ys.length ≤ i ∧ Pv i ys σ H
def CStep (D : Addr) (n i : Nat) (Pv : Nat → List V → St → Hp → Prop) (σ2 : St) (y : V) (H4 : Hp) : Prop :=
  ∃ ys, H4 D = some (.lst ys) ∧ ys.length < sizeLine ∧ ∃ m', m' < n - i ∧ CW D n Pv (i + 1) m' σ2 (upd H4 D (.lst (ys ++ [y])))
def CSkip (D : Addr) (n i : Nat) (Pv : Nat → List V → St → Hp → Prop) (σ2 : St) (H3 : Hp) : Prop := ∃ m', m' < n - i ∧ CW D n Pv (i + 1) m' σ2 H3
section
variable {D : Addr} {Q : VK} {g : TG} {tif : TT} {te : TE} {σ0 : St} {H1 : Hp} {n i : Nat} {Pv : Nat → List V → St → Hp → Prop}
theorem cstep {ys : List V} {y : V} {σ2 : St} {H4 : Hp} (hn : n ≤ sizeLine) (hi : i < n) (hD : H4 D = some (.lst ys)) (hl : ys.length ≤ i) (h : Pv (i + 1) (ys ++ [y]) σ2 (upd H4 D (.lst (ys ++ [y])))) : CStep D n i Pv σ2 y H4 :=
  ⟨ys, hD, by omega, n - (i + 1), by omega, rfl, hi, ys ++ [y], upd_same, by rw [List.length_append, List.length_singleton]; omega, h⟩
theorem cskip {ys : List V} {σ2 : St} {H3 : Hp} (hi : i < n) (hD : H3 D = some (.lst ys)) (hl : ys.length ≤ i) (h : Pv (i + 1) ys σ2 H3) : CSkip D n i Pv σ2 H3 :=
  ⟨n - (i + 1), by omega, rfl, hi, ys, hD, by omega, h⟩
/-- over any source of n items; Pv: what holds at turn i of the made items, the block's names, the heap -/
theorem comp_by {J : It} (Pv : Nat → List V → St → Hp → Prop) (hn : n ≤ sizeLine) (h0 : Pv 0 [] σ0 (upd H1 D (.lst [])))
    (hgo : ∀ i ys σ H, i < n → H D = some (.lst ys) → Pv i ys σ H → J.go i H) (hstop : ∀ ys σ H, H D = some (.lst ys) → Pv n ys σ H → J.stop n H)
    (hs : ∀ i ys σ H, i < n → H D = some (.lst ys) → ys.length ≤ i → Pv i ys σ H → ∀ x H', J.yld i H x H' → g x σ H' fun σ2 H2 => tif σ2 H2 fun c H3 =>
      if c = true then te σ2 H3 fun y H4 => CStep D n i Pv σ2 y H4 else CSkip D n i Pv σ2 H3)
    (hd : ∀ ys σ H, H D = some (.lst ys) → ys.length ≤ n → Pv n ys σ H → Q (.ref D) H) :
    ∃ W : Nat → Nat → St → Hp → Prop, (∃ m, W 0 m σ0 (upd H1 D (.lst []))) ∧ ∀ i m σb Hb, W i m σb Hb →
      (J.stop i Hb ∧ Q (.ref D) Hb) ∨ (J.go i Hb ∧ ∀ x H', J.yld i Hb x H' → g x σb H' fun σ2 H2 => tif σ2 H2 fun c H3 =>
        if c = true then te σ2 H3 fun y H4 => ∃ ys, H4 D = some (.lst ys) ∧ ys.length < sizeLine ∧ ∃ m', m' < m ∧ W (i + 1) m' σ2 (upd H4 D (.lst (ys ++ [y])))
        else ∃ m', m' < m ∧ W (i + 1) m' σ2 H3) := by
  refine ⟨CW D n Pv, ⟨n, by omega, Nat.zero_le _, [], upd_same, Nat.le_refl _, h0⟩, ?_⟩
  rintro i m σ H ⟨rfl, hi, ys, hD, hl, p⟩
  by_cases hlt : i < n
  · exact .inr ⟨hgo i ys σ H hlt hD p, hs i ys σ H hlt hD hl p⟩
  · have e : i = n := by omega
    subst e
    exact .inl ⟨hstop ys σ H hD p, hd ys σ H hD hl p⟩
/-- the signs of a text -/
theorem comp_str {z : Str} (Pv : Nat → List V → St → Hp → Prop) (hn : z.cps.size ≤ sizeLine) (h0 : Pv 0 [] σ0 (upd H1 D (.lst [])))
    (hs : ∀ i ys σ H c, i < z.cps.size → z.cps[i]? = some c → H D = some (.lst ys) → ys.length ≤ i → Pv i ys σ H → g (.str ⟨#[c]⟩) σ H fun σ2 H2 => tif σ2 H2 fun c H3 =>
      if c = true then te σ2 H3 fun y H4 => CStep D z.cps.size i Pv σ2 y H4 else CSkip D z.cps.size i Pv σ2 H3)
    (hd : ∀ ys σ H, H D = some (.lst ys) → ys.length ≤ z.cps.size → Pv z.cps.size ys σ H → Q (.ref D) H) :
    ∃ W : Nat → Nat → St → Hp → Prop, (∃ m, W 0 m σ0 (upd H1 D (.lst []))) ∧ ∀ i m σb Hb, W i m σb Hb →
      ((Its z).stop i Hb ∧ Q (.ref D) Hb) ∨ ((Its z).go i Hb ∧ ∀ x H', (Its z).yld i Hb x H' → g x σb H' fun σ2 H2 => tif σ2 H2 fun c H3 =>
        if c = true then te σ2 H3 fun y H4 => ∃ ys, H4 D = some (.lst ys) ∧ ys.length < sizeLine ∧ ∃ m', m' < m ∧ W (i + 1) m' σ2 (upd H4 D (.lst (ys ++ [y])))
        else ∃ m', m' < m ∧ W (i + 1) m' σ2 H3) :=
  comp_by Pv hn h0 (fun i _ _ _ hi _ _ => hi) (fun _ _ _ _ _ => Nat.le_refl _) (fun i ys σ H hi hD hl p x H' y => by
    obtain ⟨e, c, hc, ex⟩ := y
    subst e ex
    exact hs i ys σ _ c hi hc hD hl p) hd
/-- a list that the block leaves as it is -/
theorem comp_list {K : PySem.W.Frag} {a : Addr} {xs : List V} (Pv : Nat → List V → St → Hp → Prop) (hn : xs.length ≤ sizeLine) (h0 : Pv 0 [] σ0 (upd H1 D (.lst [])))
    (hl : ∀ i ys σ H, i ≤ xs.length → H D = some (.lst ys) → Pv i ys σ H → SqL K H a xs)
    (hs : ∀ i ys σ H x, i < xs.length → xs[i]? = some x → H D = some (.lst ys) → ys.length ≤ i → Pv i ys σ H → g x σ H fun σ2 H2 => tif σ2 H2 fun c H3 =>
      if c = true then te σ2 H3 fun y H4 => CStep D xs.length i Pv σ2 y H4 else CSkip D xs.length i Pv σ2 H3)
    (hd : ∀ ys σ H, H D = some (.lst ys) → ys.length ≤ xs.length → Pv xs.length ys σ H → Q (.ref D) H) :
    ∃ W : Nat → Nat → St → Hp → Prop, (∃ m, W 0 m σ0 (upd H1 D (.lst []))) ∧ ∀ i m σb Hb, W i m σb Hb →
      ((Itl K a).stop i Hb ∧ Q (.ref D) Hb) ∨ ((Itl K a).go i Hb ∧ ∀ x H', (Itl K a).yld i Hb x H' → g x σb H' fun σ2 H2 => tif σ2 H2 fun c H3 =>
        if c = true then te σ2 H3 fun y H4 => ∃ ys, H4 D = some (.lst ys) ∧ ys.length < sizeLine ∧ ∃ m', m' < m ∧ W (i + 1) m' σ2 (upd H4 D (.lst (ys ++ [y])))
        else ∃ m', m' < m ∧ W (i + 1) m' σ2 H3) :=
  comp_by Pv hn h0 (fun i ys σ H hi hD p => ⟨xs, xs[i], hl i ys σ H (Nat.le_of_lt hi) hD p, by simp [hi]⟩) (fun ys σ H hD p => ⟨xs, hl _ ys σ H (Nat.le_refl _) hD p, Nat.le_refl _⟩) (fun i ys σ H hi hD hl' p x H' y => by
    obtain ⟨e, y⟩ := y
    subst e
    exact hs i ys σ _ x hi (y xs (hl i ys σ _ (Nat.le_of_lt hi) hD p)) hD hl' p) hd
end
end L2

set_option Elab.async false
set_option linter.all false
set_option maxRecDepth 100000
/-! DEFS AND CALLS in short; what things are; the reading by rewriting -/
namespace L2
open PySem PySem.Spec PyProof.Rows

/-! ### no star among the arguments -/
def notStar : Expr → Bool
  | .Starred _ _ => false
  | _ => true
theorem star_cons {e : Expr} {es : List Expr} {env : Env} (h : notStar e = true) : starEach (e :: es) env = (false, eval e env) :: starEach es env := by
  cases e with
  | Starred v q => exact absurd (show false = true from h) Bool.false_ne_true
  | _ => rw [starEach.eq_def]
theorem star_any : ∀ {es : List Expr} {env : Env} {pos : Pos}, es.all notStar = true → (backTo pos (starEach es env)).any (·.1) = false
  | [], env, pos, _ => by rw [starEach.eq_def]; rfl
  | e :: r, env, pos, h => by
    rw [List.all_cons, Bool.and_eq_true] at h
    rw [star_cons h.1]
    exact star_any h.2
section
variable {X : Cx} {x : Str} {p pos : Pos} {e : Expr} {es : List Expr} {te : TE} {t : TA} {T id : String} {r : List V → Hp → VK → Prop}
theorem pa_c (ha : PE X e te) (hr : PA X es t) (h : notStar e = true := by rfl) : PA X (e :: es) (tCons te t) := pa_cons ha hr (star_cons h)
theorem pe_cB (hc : CallR X (.builtin id) r) (hg : Gl X x) (hm : X.mg x = none) (hv : bootBuiltins x = some (.builtin id)) (ha : PA X (e :: es) t) (hn : x ≠ "__name__" := by decide) (hdb : (x == ("__debug__" : Str)) = false := by decide)
    (h1 : notStar e = true := by rfl) (h2 : es.all notStar = true := by rfl) : PE X (.Call (.Name x p) (e :: es) [] pos) (tCB r t) := pe_callB hc hg hm hv ha hn hdb (star_cons h1) (star_any h2)
theorem pe_cTy (hc : CallR X (.type T) r) (hg : Gl X x) (hm : X.mg x = none) (hv : bootBuiltins x = some (.type T)) (ha : PA X (e :: es) t) (hn : x ≠ "__name__" := by decide) (hdb : (x == ("__debug__" : Str)) = false := by decide)
    (h1 : notStar e = true := by rfl) (h2 : es.all notStar = true := by rfl) : PE X (.Call (.Name x p) (e :: es) [] pos) (tCB r t) := pe_callTy hc hg hm hv ha hn hdb (star_cons h1) (star_any h2)
end

/-! ### a def as the top left it, a call by its promise -/
structure Dfn (K : PySem.W.Frag) (mg : Str → Option Value) (x : Str) (st : Stmt) (ps : List Str) : Prop where
  ex : ∃ f fd, Fun K x x st f fd ∧ Binds K fd ps [] ∧ mg x = some (.ref f)
structure Cal (P : Program) (w : World) (K : PySem.W.Frag) (mg : Str → Option Value) (base : Heap) (n : Nat) (x : Str) (ps : List Str) (sp : Sp) : Prop where
  ex : ∃ f fd, FnOk P w K mg base CX0 n f fd ps sp ∧ Binds K fd ps [] ∧ PySem.W.keepIn K (.ref f) = true ∧ mg x = some (.ref f)
section
variable {P : Program} {w : World} {K : PySem.W.Frag} {mg : Str → Option Value} {base : Heap}
theorem Dfn.cal {x : Str} {st : Stmt} {N ps : List Str} {k : Nat} {sp : Sp} (d : Dfn K mg x st ps) (S : FnScope N ps (defScope st)) (len : ∀ vs H Q E, sp vs H Q E → vs.length = ps.length)
    (hbody : ∀ (f : Addr) (cdv : Value) (A : Around) (outer : List Env) (s : Shared) (H : Hp) (vs : List V) (Q : VK) (E : XK), Room k (A.deeper (envOfC x (defScope st) s.heap.objs.size f cdv)) → sp vs H Q E →
      ∃ t, PSs (cxOf CX0 P w K mg base N x (defScope st) f cdv A outer s H E).nox (defBody st) t ∧ t { nx := fun _ H' => Q .non H', rt := Q } (start N vs) H) : Cal P w K mg base (k + 1) x ps sp := by
  obtain ⟨f, fd, F, b, m⟩ := d.ex
  exact ⟨f, fd, F.ok S len (hbody f), b, F.kp, m⟩
theorem Cal.mono {j k : Nat} {x : Str} {ps : List Str} {sp : Sp} (c : Cal P w K mg base j x ps sp) (h : j ≤ k) : Cal P w K mg base k x ps sp := by
  obtain ⟨f, fd, F, r⟩ := c.ex
  exact ⟨f, fd, F.mono h, r⟩
/-- nothing can be asked -/
theorem Dfn.never {x : Str} {st : Stmt} {ps : List Str} {sp : Sp} (d : Dfn K mg x st ps) (no : ∀ vs H Q E, ¬ sp vs H Q E) : Cal P w K mg base 0 x ps sp := by
  obtain ⟨f, fd, F, b, m⟩ := d.ex
  exact ⟨f, fd, ⟨fun vs H Q E h => absurd h (no vs H Q E), fun A outer s H args us vs Q E _ _ _ _ h => absurd h (no vs H Q E)⟩, b, F.kp, m⟩
end
section
variable {X : Cx} {n k : Nat} {x : Str} {ps : List Str} {sp : Sp} {p pos : Pos} {e : Expr} {es : List Expr} {t : TA}
theorem pe_callC (C : Cal X.prog X.w X.K X.mg X.base n x ps sp) (hr : Room k X.A) (hle : n ≤ k) (hg : Gl X x) (ha : PA X (e :: es) t) (hdb : (x == ("__debug__" : Str)) = false := by decide)
    (h1 : notStar e = true := by rfl) (h2 : es.all notStar = true := by rfl) : PE X (.Call (.Name x p) (e :: es) [] pos) (tCall sp [] E0 t) := by
  obtain ⟨f, fd, F, b, kp, m⟩ := C.ex
  exact pe_call F (hr.mono hle) hg m kp b .nil pass0 ha hdb (star_cons h1) (star_any h2)
/-- a constant of the module -/
def GlV (mg : Str → Option Value) (x : Str) (v : V) : Prop := ∃ u, mg x = some u ∧ RelV v u
theorem pe_gl {v : V} (hg : Gl X x) (h : GlV X.mg x v) (hd : (x == ("__debug__" : Str)) = false := by decide) : PE X (.Name x pos) (tC v) := by
  obtain ⟨u, m, r⟩ := h
  exact pe_glob hg m r hd
end

/-- a comprehension's scope, by a look -/
theorem CompOk.of {X : Cx} {scope : Scope} {cp : List (Nat × Str)} (kind : scope.kind = .function)
    (h1 : (scope.names.all fun y => y.2 != .cell && (y.2 != .local || scope.names.lookup y.1 == some .local) && (y.2 != .free || (X.env.scope.names.lookup y.1 == some .cell || X.env.scope.names.lookup y.1 == some .free))) = true)
    (h2 : (cp.all fun p => X.N[p.1]? == some p.2 && scope.names.lookup p.2 == some .free) = true) : CompOk X scope cp := by
  have g := List.all_eq_true.mp h1
  refine ⟨kind, fun y hy e => ?_, fun y hy e => ?_, fun y hy e => ?_, fun p hp => ?_⟩
  · have q := g y hy
    rw [Bool.and_eq_true, Bool.and_eq_true] at q
    rw [e] at q
    exact absurd q.1.1 (by decide)
  · have q := g y hy
    rw [Bool.and_eq_true, Bool.and_eq_true] at q
    have q := q.1.2
    rw [e] at q
    simpa using q
  · have q := g y hy
    rw [Bool.and_eq_true, Bool.and_eq_true] at q
    have q := q.2
    rw [e] at q
    have q : X.env.scope.names.lookup y.1 = some .cell ∨ X.env.scope.names.lookup y.1 = some .free := by simpa using q
    exact q
  · have q := List.all_eq_true.mp h2 p hp
    rw [Bool.and_eq_true] at q
    exact ⟨by simpa using q.1, by simpa using q.2⟩

/-! ### things: what a value is -/
/-- the name of its type, where the value is one of the plain kinds -/
inductive Kd (H : Hp) : V → String → Prop where
  | non : Kd H .non "NoneType"
  | bl (b : Bool) : Kd H (.bl b) "bool"
  | int (i : Int) : Kd H (.int i) "int"
  | str (z : Str) : Kd H (.str z) "str"
  | lst {a : Addr} {xs : List V} (e : H a = some (.lst xs)) : Kd H (.ref a) "list"
  | tup {a : Addr} {xs : List V} (e : H a = some (.tup xs)) : Kd H (.ref a) "tuple"
  | dK {a : Addr} {kvs : List (Key × V)} (e : H a = some (.dK kvs)) : Kd H (.ref a) "dict"
def kinds : List String := ["NoneType", "bool", "int", "str", "list", "tuple", "dict"]
def subT (k T : String) : Bool := k == T || (k == "bool" && T == "int")
theorem kit_ok (K : PySem.W.Frag) : ∀ k ∈ kinds, ∀ T ∈ ["str", "list", "tuple", "bool", "int", "dict"], PySem.W.kitOne K (.type k) (.type T) = some (subT k T) := by
  intro k hk T hT
  simp only [kinds, List.mem_cons, List.not_mem_nil, or_false] at hk hT
  rcases hk with rfl | rfl | rfl | rfl | rfl | rfl | rfl <;> rcases hT with rfl | rfl | rfl | rfl | rfl | rfl <;> first | rfl | kernel_rfl
theorem Kd.ty {K : PySem.W.Frag} {H : Hp} {x : V} {k : String} (h : Kd H x k) : TyOf K H x (.type k) ∧ k ∈ kinds := by
  cases h with
  | non => exact ⟨.non, by decide⟩
  | bl b => exact ⟨.bl b, by decide⟩
  | int i => exact ⟨.int i, by decide⟩
  | str z => exact ⟨.str z, by decide⟩
  | lst e => exact ⟨.lst e, by decide⟩
  | tup e => exact ⟨.tup e, by decide⟩
  | dK e => exact ⟨.dK e, by decide⟩
theorem Kd.same {H H' : Hp} {x : V} {k : String} (h : Kd H x k) (g : Same H H') : Kd H' x k := by
  cases h with
  | non => exact .non
  | bl b => exact .bl b
  | int i => exact .int i
  | str z => exact .str z
  | lst e => exact .lst (g _ _ e)
  | tup e => exact .tup (g _ _ e)
  | dK e => exact .dK (g _ _ e)
theorem Kd.inj {H : Hp} {x : V} {k k' : String} (h : Kd H x k) (h' : Kd H x k') : k = k' := by
  cases h with
  | lst e => cases h' with | lst _ => rfl | tup e' => rw [e] at e'; cases e' | dK e' => rw [e] at e'; cases e'
  | tup e => cases h' with | lst e' => rw [e] at e'; cases e' | tup _ => rfl | dK e' => rw [e] at e'; cases e'
  | dK e => cases h' with | lst e' => rw [e] at e'; cases e' | tup e' => rw [e] at e'; cases e' | dK _ => rfl
  | non => cases h'; rfl
  | bl _ => cases h'; rfl
  | int _ => cases h'; rfl
  | str _ => cases h'; rfl
/-- isinstance(x, T) of a plain kind -/
theorem call_isk {X : Cx} : CallR X (.builtin "isinstance") (fun xs H Q => ∃ x T k, xs = [x, .ty T] ∧ Kd H x k ∧ T ∈ ["str", "list", "tuple", "bool", "int", "dict"] ∧ Q (.bl (subT k T)) H) := by
  intro pins s σ H xs us Q I r h
  obtain ⟨x, T, k, e, hk, hT, q⟩ := h
  obtain ⟨h1, h2⟩ := hk.ty (K := X.K)
  exact call_isinst pins s σ H xs us Q I r ⟨x, T, .type k, _, e, h1, kit_ok X.K k h2 T hT, q⟩
theorem same_upd {H : Hp} {p : Addr} (h : H p = none) (o : HO) : Same H (upd H p o) := fun b u q => by rw [upd_ne (ne_of_none q h)]; exact q
/-! ### the reading by rewriting -/
section
variable {H : Hp} {Q : VK} {v : V} {a : Option V} {r : St} {i : Nat}
theorem rd_st {t : TS} {D : Ends} {σ : St} (σ' : St) (e : σ = σ') (h : t D σ' H) : t D σ H := by rw [e]; exact h
theorem rd_v0 : tVar 0 (some v :: r) H Q = Q v H := by simp [tVar]
theorem rd_vS : tVar (i + 1) (a :: r) H Q = tVar i r H Q := rfl
theorem rd_ite_t {A B : Prop} : (if true = true then A else B) = A := if_pos rfl
theorem rd_ite_f {A B : Prop} : (if false = true then A else B) = B := if_neg Bool.false_ne_true
theorem rd_ss {a b : Str} : (scal (.str a) (.str b) = true) = True := by simp [scal]
theorem rd_si {a : Str} {b : Int} : (scal (.str a) (.int b) = true) = True := by simp [scal]
theorem rd_is {b : Str} {a : Int} : (scal (.int a) (.str b) = true) = True := by simp [scal]
theorem rd_ii {a b : Int} : (scal (.int a) (.int b) = true) = True := by simp [scal]
theorem rd_bb {a b : Bool} : (scal (.bl a) (.bl b) = true) = True := by simp [scal]
def cBody (tn : List Str) (cp : List (Nat × Str)) (g : TG) (tif : TT) (te : TE) (σ : St) (Q : VK) (J : It) (H1 : Hp) : Prop := ∀ D, H1 D = none → ∃ W : Nat → Nat → St → Hp → Prop,
  (∃ m, W 0 m (stB tn cp σ) (upd H1 D (.lst []))) ∧ ∀ i m σb Hb, W i m σb Hb →
    (J.stop i Hb ∧ Q (.ref D) Hb) ∨ (J.go i Hb ∧ ∀ x H', J.yld i Hb x H' → g x σb H' fun σ2 H2 => tif σ2 H2 fun c H3 =>
      if c = true then te σ2 H3 fun y H4 => ∃ ys, H4 D = some (.lst ys) ∧ ys.length < sizeLine ∧ ∃ m', m' < m ∧ W (i + 1) m' σ2 (upd H4 D (.lst (ys ++ [y])))
      else ∃ m', m' < m ∧ W (i + 1) m' σ2 H3)
theorem rd_comp {tn : List Str} {cp : List (Nat × Str)} {wi : TI} {g : TG} {tif : TT} {te : TE} {σ : St} : tComp tn cp wi g tif te σ H Q = wi σ H fun J H1 => cBody tn cp g tif te σ Q J H1 := rfl
def fBody (g : TG) (tb : TS) (D : Ends) (σ : St) (J : It) (H1 : Hp) : Prop := ∃ W : Nat → Nat → St → Hp → Prop, (∃ m, W 0 m σ H1) ∧ ∀ i m σ H, W i m σ H →
  (J.stop i H ∧ D.nx σ H) ∨ (J.go i H ∧ ∃ N : St → Hp → Prop, (∀ σ' H', N σ' H' → ∃ m', m' < m ∧ W (i + 1) m' σ' H') ∧ ∀ x H', J.yld i H x H' → g x σ H' fun σ2 H2 => tb { D with nx := N, ct := N, bk := D.nx } σ2 H2)
theorem rd_for {wi : TI} {g : TG} {tb : TS} {D : Ends} {σ : St} : tFor wi g tb D σ H = wi σ H fun J H1 => fBody g tb D σ J H1 := rfl
end
section
variable {tn : List Str} {cp : List (Nat × Str)} {g : TG} {tif : TT} {te : TE} {σ0 : St} {Q : VK} {H1 : Hp}
/-- a comprehension over n items, by what holds at turn i of the made items, the block's names and the heap -/
theorem cb_by {J : It} (n : Nat) (Pv : Addr → Nat → List V → St → Hp → Prop) (hn : n ≤ sizeLine) (h0 : ∀ D, H1 D = none → Pv D 0 [] (stB tn cp σ0) (upd H1 D (.lst [])))
    (hgo : ∀ D i ys σ H, H1 D = none → i < n → H D = some (.lst ys) → Pv D i ys σ H → J.go i H) (hstop : ∀ D ys σ H, H1 D = none → H D = some (.lst ys) → Pv D n ys σ H → J.stop n H)
    (hs : ∀ D i ys σ H x H', H1 D = none → i < n → H D = some (.lst ys) → ys.length ≤ i → Pv D i ys σ H → J.yld i H x H' → g x σ H' fun σ2 H2 => tif σ2 H2 fun c H3 =>
      if c = true then te σ2 H3 fun y H4 => CStep D n i (Pv D) σ2 y H4 else CSkip D n i (Pv D) σ2 H3)
    (hd : ∀ D ys σ H, H1 D = none → H D = some (.lst ys) → ys.length ≤ n → Pv D n ys σ H → Q (.ref D) H) : cBody tn cp g tif te σ0 Q J H1 := fun D hD =>
  comp_by (Pv D) hn (h0 D hD) (fun i ys σ H => hgo D i ys σ H hD) (fun ys σ H => hstop D ys σ H hD) (fun i ys σ H hi hH hl p x H' y => hs D i ys σ H x H' hD hi hH hl p y) (fun ys σ H => hd D ys σ H hD)
/-- over a text's signs -/
theorem cb_str {z : Str} (Pv : Addr → Nat → List V → St → Hp → Prop) (hn : z.cps.size ≤ sizeLine) (h0 : ∀ D, H1 D = none → Pv D 0 [] (stB tn cp σ0) (upd H1 D (.lst [])))
    (hs : ∀ D i ys σ H c, H1 D = none → i < z.cps.size → z.cps[i]? = some c → H D = some (.lst ys) → ys.length ≤ i → Pv D i ys σ H → g (.str ⟨#[c]⟩) σ H fun σ2 H2 => tif σ2 H2 fun c H3 =>
      if c = true then te σ2 H3 fun y H4 => CStep D z.cps.size i (Pv D) σ2 y H4 else CSkip D z.cps.size i (Pv D) σ2 H3)
    (hd : ∀ D ys σ H, H1 D = none → H D = some (.lst ys) → ys.length ≤ z.cps.size → Pv D z.cps.size ys σ H → Q (.ref D) H) : cBody tn cp g tif te σ0 Q (Its z) H1 := fun D hD =>
  comp_str (Pv D) hn (h0 D hD) (fun i ys σ H c => hs D i ys σ H c hD) (fun ys σ H => hd D ys σ H hD)
/-- over a list that the block leaves as it is -/
theorem cb_list {K : PySem.W.Frag} {a : Addr} {xs : List V} (Pv : Addr → Nat → List V → St → Hp → Prop) (hn : xs.length ≤ sizeLine) (h0 : ∀ D, H1 D = none → Pv D 0 [] (stB tn cp σ0) (upd H1 D (.lst [])))
    (hl : ∀ D i ys σ H, H1 D = none → i ≤ xs.length → H D = some (.lst ys) → Pv D i ys σ H → SqL K H a xs)
    (hs : ∀ D i ys σ H x, H1 D = none → i < xs.length → xs[i]? = some x → H D = some (.lst ys) → ys.length ≤ i → Pv D i ys σ H → g x σ H fun σ2 H2 => tif σ2 H2 fun c H3 =>
      if c = true then te σ2 H3 fun y H4 => CStep D xs.length i (Pv D) σ2 y H4 else CSkip D xs.length i (Pv D) σ2 H3)
    (hd : ∀ D ys σ H, H1 D = none → H D = some (.lst ys) → ys.length ≤ xs.length → Pv D xs.length ys σ H → Q (.ref D) H) : cBody tn cp g tif te σ0 Q (Itl K a) H1 := fun D hD =>
  comp_list (Pv D) hn (h0 D hD) (fun i ys σ H => hl D i ys σ H hD) (fun i ys σ H x => hs D i ys σ H x hD) (fun ys σ H => hd D ys σ H hD)
variable {tb : TS} {D : Ends}
theorem fb_list {K : PySem.W.Frag} {a : Addr} {xs : List V} (Pv : Nat → St → Hp → Prop) (h0 : Pv 0 σ0 H1) (hl : ∀ i σ H, i ≤ xs.length → Pv i σ H → SqL K H a xs)
    (hs : ∀ i x σ H, xs[i]? = some x → Pv i σ H → g x σ H fun σ2 H2 => tb { D with nx := Pv (i + 1), ct := Pv (i + 1), bk := D.nx } σ2 H2) (hd : ∀ σ H, Pv xs.length σ H → D.nx σ H) : fBody g tb D σ0 (Itl K a) H1 := for_list Pv h0 hl hs hd
theorem fb_range {lo : Int} {n : Nat} (Pv : Nat → St → Hp → Prop) (h0 : Pv 0 σ0 H1)
    (hs : ∀ i σ H, i < n → Pv i σ H → g (.int (lo + i)) σ H fun σ2 H2 => tb { D with nx := Pv (i + 1), ct := Pv (i + 1), bk := D.nx } σ2 H2) (hd : ∀ σ H, Pv n σ H → D.nx σ H) : fBody g tb D σ0 (Itr lo n) H1 := for_range Pv h0 hs hd
end

/-! ### slices of texts and lists, as lists -/
theorem pick_any {α : Type} (xs : List α) : ∀ (i k : Nat), ((List.range k).map fun m => i + m).filterMap (fun j => xs[j]?) = (xs.drop i).take k
  | i, 0 => by simp
  | i, k + 1 => by
    have ih := pick_any xs (i + 1) k
    rw [List.range_succ_eq_map, List.map_cons, List.map_map, List.filterMap_cons]
    have e : ((fun m => i + m) ∘ Nat.succ) = fun m => i + 1 + m := by funext m; simp [Function.comp]; omega
    rw [e]
    by_cases h : i < xs.length
    · rw [show i + 0 = i from rfl, List.getElem?_eq_getElem h, ih, List.drop_eq_getElem_cons h, List.take_succ_cons]
    · rw [show i + 0 = i from rfl, List.getElem?_eq_none (by omega), ih, List.drop_eq_nil_of_le (by omega), List.drop_eq_nil_of_le (by omega)]
      simp
/-- a text's part, as a list -/
def cutL {α : Type} (xs : List α) (lo hi : Option Int) : List α := (xs.drop (HT.sIx xs.length 0 lo)).take (HT.sIx xs.length xs.length hi - HT.sIx xs.length 0 lo)
theorem idx_go {a b : Nat} {A B : Int} (hA : A = a) (hB : B = b) : PySem.sliceRange A B 1 = (List.range (b - a)).map fun m => a + m := by
  subst hA hB
  unfold PySem.sliceRange
  simp only [show (1 : Int) > 0 by decide, if_true]
  have e3 : (if (a : Int) < (b : Int) then ((b : Int) - (a : Int) + 1 - 1) / 1 else 0).toNat = b - a := by
    split <;> omega
  rw [e3]
  refine List.map_congr_left fun m _ => ?_
  omega
theorem slice_idx (lo hi : Option Int) (n : Nat) : Builtin.Str.strSliceIndices lo hi 1 n = (List.range (HT.sIx n n hi - HT.sIx n 0 lo)).map fun m => HT.sIx n 0 lo + m := by
  unfold Builtin.Str.strSliceIndices
  refine idx_go ?_ ?_
  · cases lo with
    | none => rfl
    | some v =>
      rw [← HT.clip_eq v n 0]
      simp only [show (1 : Int) > 0 by decide, if_true]
      split <;> omega
  · cases hi with
    | none => rfl
    | some v =>
      rw [← HT.clip_eq v n n]
      simp only [show (1 : Int) > 0 by decide, if_true]
      split <;> omega
theorem slice_cps (z : Str) (lo hi : Option Int) : (Txt.slice z lo hi).cps.toList = cutL z.cps.toList lo hi := by
  have hl : z.cps.toList.length = z.length := by simp [Str.length]
  unfold Txt.slice cutL
  rw [hl, slice_idx]
  have p := pick_any z.cps.toList (HT.sIx z.length 0 lo) (HT.sIx z.length z.length hi - HT.sIx z.length 0 lo)
  have e : (fun (j : Nat) => z.cps.toList[j]?) = fun (j : Nat) => z.cps[j]? := by funext j; simp
  rw [e] at p
  split
  · rename_i h
    simp only [List.length_map, List.length_range, beq_self_eq_true, Bool.true_and, beq_iff_eq] at h
    have h1 := HT.sIx_le z.length z.length (Nat.le_refl _) hi
    have h3 := HT.sIx_le z.length 0 (Nat.zero_le _) lo
    have h0 : HT.sIx z.length 0 lo = 0 := by omega
    have h2 : HT.sIx z.length z.length hi - HT.sIx z.length 0 lo = z.length := h
    rw [h2, h0, List.drop_zero, List.take_of_length_le (by rw [hl]; exact Nat.le_refl _)]
  · rw [← p]
theorem cutL_len {α : Type} (xs : List α) (lo hi : Option Int) : (cutL xs lo hi).length ≤ xs.length := by
  unfold cutL
  rw [List.length_take, List.length_drop]
  omega
theorem cutL_from {α : Type} (xs : List α) (k : Nat) : cutL xs (some (k : Int)) none = xs.drop k := by
  unfold cutL
  rw [HT.sIx_nat, HT.sIx_none, List.take_of_length_le (by rw [List.length_drop]; exact Nat.le_refl _)]
  by_cases h : k ≤ xs.length
  · rw [Nat.min_eq_left h]
  · rw [Nat.min_eq_right (by omega), List.drop_eq_nil_of_le (Nat.le_refl _), List.drop_eq_nil_of_le (by omega)]
theorem str_len (z : Str) : z.length = z.cps.toList.length := by simp [Str.length]
theorem atI_0 {α : Type} {c : α} {r : List α} : atI (c :: r) 0 = some c := atI_nat (j := 0) rfl
theorem RcOk.up {X : Cx} {j k : Nat} {H : Hp} {x y : V} {b : Bool} (h : RcOk X j H x y b) (hjk : j ≤ k) : RcOk X k H x y b := fun pins σ s A u v hu => h pins σ s A u v (by omega)
theorem small_line {n : Nat} (h : n ≤ 1000) : n ≤ sizeLine := Nat.le_of_lt (small1000 h)
/-- an item at a remainder -/
theorem atI_mod {α : Type} {xs : List α} {i : Int} {n : Nat} (hn : xs.length = n) (h0 : 0 < n) : ∃ v, atI xs (i % (n : Int)) = some v ∧ v ∈ xs := by
  have h1 : 0 ≤ i % (n : Int) := Int.emod_nonneg _ (by omega)
  have h2 : i % (n : Int) < n := Int.emod_lt_of_pos _ (by omega)
  have h3 : (i % (n : Int)).toNat < xs.length := by omega
  refine ⟨xs[(i % (n : Int)).toNat], ?_, List.getElem_mem h3⟩
  have e : i % (n : Int) = (((i % (n : Int)).toNat : Nat) : Int) := by omega
  have q : atI xs (((i % (n : Int)).toNat : Nat) : Int) = some xs[(i % (n : Int)).toNat] := atI_nat (by simp)
  rw [← e] at q
  exact q
theorem hu_at {A : Around} {k : Nat} (hr : Room k A) (j : Nat) (h : j ≤ 64) : A.units + j < cLine := by have := hr.units; omega
end L2

set_option Elab.async false
set_option linter.all false
set_option maxRecDepth 100000
/-! THE TOP: what the text's own names are behind its top -/
namespace L2
open PySem PySem.Spec PyProof.Rows
section
variable {K : PySem.W.Frag} {h : Heap} {mg : Str → Option Value}
theorem dfn_mk {x : Str} {st : Stmt} {ps : List Str} {f : Addr} {oc : Value} {od an : Option Addr} {osl : Array (Option Value)} {kV doc pm cdv ct : Value} (X : K.In h) (G : h.Ns mainGlobals mg)
    (a : PySem.W.nsIn K mainGlobals x = some (some (.ref f))) (l : K.lookup f = some ⟨oc, od, .func (PySem.W.fnOf x x (defArgs st) (defBody st) (defScope st) .none kV doc pm an cdv ct), osl⟩)
    (c : PySem.W.codeIn K cdv x = true) (k : PySem.W.keepIn K (.ref f) = true)
    (hb : ∀ (kV doc pm : Value) (an : Option Addr) (cdv ct : Value) (us : List Value), us.length = ps.length → bindArgs (PySem.W.fnOf x x (defArgs st) (defBody st) (defScope st) .none kV doc pm an cdv ct) ⟨us, []⟩ = pure (ps.zip us)) : Dfn K mg x st ps :=
  ⟨f, _, fun_mk l c k, (fun_mk l c k).binds hb, PySem.W.mg_of X G a⟩
theorem law_mk {x y : Str} {st : Stmt} {f fa : Addr} {oc : Value} {od an : Option Addr} {osl : Array (Option Value)} {kV doc pm cdv ct : Value} (X : K.In h) (G : h.Ns mainGlobals mg) (hfa : mg x = some (.ref fa))
    (a : PySem.W.nsIn K mainGlobals x = some (some (.ref f))) (l : K.lookup f = some ⟨oc, od, .func (PySem.W.fnOf x x (defArgs st) (defBody st) (defScope st) .none kV doc pm an cdv ct), osl⟩)
    (c : PySem.W.codeIn K cdv x = true) (k : PySem.W.keepIn K (.ref f) = true) (hb : ∀ (s : Shared) (v : Value), BindsTo s (PySem.W.fnOf x x (defArgs st) (defBody st) (defScope st) .none kV doc pm an cdv ct) ⟨[v], []⟩ [(y, v)]) :
    ∃ fd : FuncData, (∀ (s : Shared) (v : Value), BindsTo s fd ⟨[v], []⟩ [(y, v)]) ∧ Fun K x x st fa fd := by
  have e := hfa.symm.trans (PySem.W.mg_of X G a)
  cases e
  exact ⟨_, hb, fun_mk l c k⟩
theorem glv_mk {x : Str} {u : Value} {v : V} (X : K.In h) (G : h.Ns mainGlobals mg) (a : PySem.W.nsIn K mainGlobals x = some (some u)) (r : RelV v u) : GlV mg x v := ⟨u, PySem.W.mg_of X G a, r⟩
end
end L2

set_option Elab.async false
set_option linter.all false
set_option maxRecDepth 100000
namespace L2
open PySem PySem.Spec PyProof.Rows
section
variable {CX : CXT} {P : Program} {w : World} {K : PySem.W.Frag} {mg : Str → Option Value} {base : Heap} {N : List Str} {x : Str} {sc : Scope} {f : Addr} {cdv : Value} {A : Around} {outer : List Env} {s : Shared} {H : Hp} {E : XK}
theorem cxK : (cxOf CX P w K mg base N x sc f cdv A outer s H E).K = K := rfl
theorem cxP : (cxOf CX P w K mg base N x sc f cdv A outer s H E).prog = P := rfl
theorem cxW : (cxOf CX P w K mg base N x sc f cdv A outer s H E).w = w := rfl
end
end L2
/-! A CUT: what holds behind a statement, said by the reader -/
namespace L2
open PySem PySem.Spec PyProof.Rows
section
variable {X : Cx} {st : Stmt} {rest : List Stmt} {t u : TS} {e : Expr} {te : TE}
def tCut (t u : TS) : TS := fun D σ H => ∃ Pv : St → Hp → Prop, t { D with nx := Pv } σ H ∧ ∀ σ' H', Pv σ' H' → u D σ' H'
theorem pss_cut (h1 : PS X st t) (h2 : PSs X rest u) : PSs X (st :: rest) (tCut t u) := by
  intro pins s σ H D I h
  obtain ⟨Pv, q1, q2⟩ := h
  refine wpAny_execs_cons (thn (h1 pins s σ H { D with nx := Pv } I q1) fun f s1 q => ?_)
  cases f with
  | next =>
    obtain ⟨σ', H', I', q⟩ := q
    exact h2 pins s1 σ' H' D I' (q2 σ' H' q)
  | ret v => exact q
  | brk => exact q
  | cont => exact q
end
end L2
/-! SETS made of a list of ints and texts; their size -/
namespace L2
open PySem PySem.Spec PyProof.Rows
local instance (priority := 10000) : BEq Key := instBEqOfDecidableEq
local instance (priority := 10000) : LawfulBEq Key := inferInstanceAs (LawfulBEq (Sum Int Str))
/-- each key once, as they first come -/
def onceK : List Key → List Key → List Key
  | acc, [] => acc
  | acc, k :: r => onceK (if k ∈ acc then acc else acc ++ [k]) r
section
variable {P : Program} {w : World} {A : Around} {R : Result → Shared → Prop} {it : Addr} {fp wr : List Addr} {G : Array GenState → Array GenState → Prop} {n : Nat} {Pv : Nat → Value → Prop} {St : Nat → Shared → Prop}
/-- what stands in the set behind i turns -/
def SetIs (P : Program) (w : World) (h : Heap) (a : Addr) (ks : List Key) : Prop := h.SetOf (mixKind P w) a (fun k => decide (k ∈ onceK [] ks)) (onceK [] ks).length
theorem SetIs.kept {h h' : Heap} {a : Addr} {ks : List Key} (x : SetIs P w h a ks) (k : ∀ o, h.get? a = some o → h'.get? a = some o) : SetIs P w h' a ks := by
  obtain ⟨o, es, ep, t, ho, rest⟩ := x
  exact ⟨o, es, ep, t, k o ho, rest⟩
end
section
variable {P : Program} {w : World} {A : Around} {E : Value → Shared → Prop} {s : Shared}
end
end L2

set_option Elab.async false
set_option linter.all false
set_option maxRecDepth 100000
/-! NEW OBJECTS, the heap behind them a letter -/
namespace L2
open PySem PySem.Spec PyProof.Rows
/-- H' is H with the new object o at p -/
structure New (H : Hp) (p : Addr) (o : HO) (H' : Hp) : Prop where
  nil : H p = none
  g : Same H H'
  at' : H' p = some o
  eq : H' = upd H p o
theorem New.mk' {H : Hp} {p : Addr} (h : H p = none) (o : HO) : New H p o (upd H p o) := ⟨h, same_upd h o, upd_same, rfl⟩
theorem New.lst {K : PySem.W.Frag} {H H' : Hp} {p : Addr} {xs : List V} (n : New H p (.lst xs) H') : SqL K H' p xs := .of n.at'
/-- an object that was not there may be written -/
theorem Same.wr {H H' : Hp} {p : Addr} (g : Same H H') (h : H p = none) (o : HO) : Same H (upd H' p o) := fun b u e => by rw [upd_ne (ne_of_none e h)]; exact g b u e
section
variable {X : Cx} {e : Expr} {es : List Expr} {t : TA} {pos : Pos}
def tTupN (t : TA) : TE := fun σ H Q => t σ H fun xs H1 => xs.length ≤ sizeLine ∧ ∀ p H', New H1 p (.tup xs) H' → Q (.ref p) H'
def tLstN (t : TA) : TE := fun σ H Q => t σ H fun xs H1 => xs.length ≤ sizeLine ∧ ∀ p H', New H1 p (.lst xs) H' → Q (.ref p) H'
theorem pe_tupN {x1} (h : PA X es t) : PE X (.Tuple es x1 pos) (tTupN t) := by
  intro pins s σ H Q I hq
  refine wpAny_Tuple_spliced (thn (h pos pins s σ H _ I hq) fun us s1 ⟨xs, H1, I1, r, z, q⟩ => ⟨by rw [← r.length]; exact z, ?_⟩)
  refine ⟨.ref s1.heap.objs.size, upd H1 s1.heap.objs.size (.tup xs), I1.laid (t' := s1.toks) (fun b u e => Heap.get?_push_of_some _ e) (Nat.le_refl _) ?_, rfl, q _ _ (.mk' I1.fresh _)⟩
  exact ⟨z, us, r, ⟨_, Heap.get?_push_size _ rfl, rfl, _, rfl⟩⟩
theorem pe_lstN (h : PA X es t) : PE X (.List es pos) (tLstN t) := by
  intro pins s σ H Q I hq
  refine wpAny_List_spliced (thn (h pos pins s σ H _ I hq) fun us s1 ⟨xs, H1, I1, r, z, q⟩ => ⟨by rw [← r.length]; exact z, ?_⟩)
  refine ⟨.ref s1.heap.objs.size, upd H1 s1.heap.objs.size (.lst xs), I1.laid (t' := s1.toks) (fun b u e => Heap.get?_push_of_some _ e) (Nat.le_refl _) ?_, rfl, q _ _ (.mk' I1.fresh _)⟩
  exact ⟨z, us, 0, r, Heap.get?_push_size _ rfl⟩
def rSlLN (K : PySem.W.Frag) : V → Option Int → Option Int → Hp → VK → Prop := fun x lo hi H Q => ∃ a xs, x = .ref a ∧ SqL K H a xs ∧ ∀ p H', New H p (.lst (cutL xs lo hi)) H' → Q (.ref p) H'
theorem sl_listN : SlR X (rSlLN X.K) := fun pins s σ H x v vl vu lo hi sl Q I rx hs pl pu h => by
  obtain ⟨a, xs, e, hx, q⟩ := h
  exact sl_list pins s σ H x v vl vu lo hi sl Q I rx hs pl pu ⟨a, xs, e, hx, fun p np => q p _ (.mk' np _)⟩
def rCatN : R2 := fun x y H Q => ∃ l b xs zs, x = .ref l ∧ y = .ref b ∧ H l = some (.lst xs) ∧ H b = some (.lst zs) ∧ xs.length + zs.length ≤ sizeLine ∧ ∀ p H', New H p (.lst (xs ++ zs)) H' → Q (.ref p) H'
theorem op_catN : OpR X (binaryOp .Add) rCatN := fun pins s σ H x y v u Q I rx ry h => by
  obtain ⟨l, b, xs, zs, e1, e2, h1, h2, hz, q⟩ := h
  exact op_cat pins s σ H x y v u Q I rx ry ⟨l, b, xs, zs, e1, e2, h1, h2, hz, fun p np => q p _ (.mk' np _)⟩
theorem call_list_ofN : CallR X (.type "list") (fun xs H Q => ∃ p ys, xs = [.ref p] ∧ (SqL X.K H p ys ∨ SqT X.K H p ys) ∧ ∀ l H', New H l (.lst ys) H' → Q (.ref l) H') := fun pins s σ H xs us Q I r h => by
  obtain ⟨p, ys, e, hq, q⟩ := h
  exact call_list_of pins s σ H xs us Q I r ⟨p, ys, e, hq, fun l nl => q l _ (.mk' nl _)⟩
end
/-! ### a comprehension whose items are a function of the source's items; the heap only grows -/
section
variable {tn : List Str} {cp : List (Nat × Str)} {g : TG} {tif : TT} {te : TE} {σ0 : St} {Q : VK} {H1 : Hp} {K : PySem.W.Frag} {a : Addr} {xs : List V}
/-- what holds at turn i -/
def PMap (S : St → Prop) (f : V → V) (xs : List V) (H1 : Hp) (i : Nat) (ys : List V) (σ : St) (H : Hp) : Prop := Same H1 H ∧ S σ ∧ ys = (xs.take i).map f
theorem cm_list (S : St → Prop) (f : V → V) (hn : xs.length ≤ 1000) (hS : SqL K H1 a xs) (h0 : S (stB tn cp σ0))
    (hs : ∀ D i σ H x, i < xs.length → x ∈ xs → xs[i]? = some x → Same H1 H → H1 D = none → H D = some (.lst ((xs.take i).map f)) → S σ → g x σ H fun σ2 H2 => tif σ2 H2 fun c H3 =>
      if c = true then te σ2 H3 fun y H4 => CStep D xs.length i (PMap S f xs H1) σ2 y H4 else CSkip D xs.length i (PMap S f xs H1) σ2 H3)
    (hd : ∀ D H, H1 D = none → Same H1 H → H D = some (.lst (xs.map f)) → Q (.ref D) H) : cBody tn cp g tif te σ0 Q (Itl K a) H1 := by
  refine cb_list (K := K) (a := a) (xs := xs) (fun D i ys σ H => PMap S f xs H1 i ys σ H) (small_line hn) (fun D hD => ⟨same_upd hD _, h0, rfl⟩) (fun D i ys σ H _ _ _ p => p.1.seq hS) ?_ ?_
  · rintro D i ys σ H x hD hi hx hH hl ⟨p1, p2, rfl⟩
    exact hs D i σ H x hi (List.mem_of_getElem? hx) hx p1 hD hH p2
  · rintro D ys σ H hD hH hl ⟨p1, p2, rfl⟩
    rw [List.take_of_length_le (Nat.le_refl _)] at hH
    exact hd D H hD p1 hH
theorem cm_step {S : St → Prop} {f : V → V} {D : Addr} {i : Nat} {x y : V} {σ2 : St} {H4 : Hp} (hn : xs.length ≤ 1000) (hx : xs[i]? = some x) (hD : H1 D = none) (h4 : H4 D = some (.lst ((xs.take i).map f))) (g4 : Same H1 H4) (s2 : S σ2) (e : y = f x) :
    CStep D xs.length i (PMap S f xs H1) σ2 y H4 := by
  have hi : i < xs.length := (List.getElem?_eq_some_iff.mp hx).1
  refine cstep (small_line hn) hi h4 (by rw [List.length_map, List.length_take]; omega) ⟨g4.wr hD _, s2, ?_⟩
  rw [List.take_add_one, hx, List.map_append, e]
  rfl
end
end L2

set_option Elab.async false
set_option linter.all false
set_option maxRecDepth 100000
/-! lists of texts compared; parts of tuples; islower, isupper; constants that are tuples -/
namespace L2
open PySem PySem.Spec PyProof.Rows
section
variable {X : Cx} {k : Nat} {H : Hp} {a b : Addr} {xs ys : List V}
theorem eqV_str (a b : Str) : eqV (.str a) (.str b) = decide (a = b) := by
  by_cases h : a = b
  · subst h; simp [eqV]
  · simp [eqV, h]
theorem all_eqs : ∀ (xs ys : List Str), (xs.length == ys.length && (List.range xs.length).all fun j => eqV ((xs.map V.str).getD j .non) ((ys.map V.str).getD j .non)) = decide (xs = ys)
  | [], [] => rfl
  | [], y :: ys => by simp
  | x :: xs, [] => by simp
  | x :: xs, y :: ys => by
    have ih := all_eqs xs ys
    have e : (List.range (x :: xs).length).all (fun j => eqV (((x :: xs).map V.str).getD j .non) (((y :: ys).map V.str).getD j .non)) =
        (decide (x = y) && (List.range xs.length).all fun j => eqV ((xs.map V.str).getD j .non) ((ys.map V.str).getD j .non)) := by
      rw [List.length_cons, List.range_succ_eq_map, List.all_cons, List.all_map]
      exact congrArg (· && _) (eqV_str x y)
    rw [e]
    have e2 : ((x :: xs).length == (y :: ys).length) = (xs.length == ys.length) := by simp
    rw [e2]
    by_cases hx : x = y
    · subst hx
      rw [decide_eq_true rfl, Bool.true_and, ih]
      simp
    · rw [decide_eq_false hx, Bool.false_and, Bool.and_false]
      simp [hx]
theorem flats_str (xs : List Str) : (xs.map V.str).all flatV = true := by
  rw [List.all_eq_true]
  intro x hx
  obtain ⟨z, _, rfl⟩ := List.mem_map.mp hx
  rfl
def rEqS (K : PySem.W.Frag) : R2 := fun x y H Q => ∃ (a b : Addr) (xs ys : List Str), x = .ref a ∧ y = .ref b ∧ SqL K H a (xs.map V.str) ∧ SqL K H b (ys.map V.str) ∧ Q (.bl (decide (xs = ys))) H
theorem op_eqS (hu : X.A.units + 8 < cLine) : OpR X (compareOp .Eq) (rEqS X.K) := by
  intro pins s σ H x y v u Q I rx ry h
  obtain ⟨a, b, xs, ys, rfl, rfl, h1, h2, q⟩ := h
  have r := rcok_flats (X := X) h1 h2 (flats_str xs) (flats_str ys)
  rw [List.length_map, List.length_map, all_eqs] at r
  exact op_eqD (k := 1) (Nat.lt_of_le_of_lt (Nat.add_le_add_left (by decide) _) hu) pins s σ H _ _ v u Q I rx ry ⟨_, r, q⟩
def rNeS (K : PySem.W.Frag) : R2 := fun x y H Q => ∃ (a b : Addr) (xs ys : List Str), x = .ref a ∧ y = .ref b ∧ SqL K H a (xs.map V.str) ∧ SqL K H b (ys.map V.str) ∧ Q (.bl (!decide (xs = ys))) H
def rSlTN (K : PySem.W.Frag) : V → Option Int → Option Int → Hp → VK → Prop := fun x lo hi H Q => ∃ a xs, x = .ref a ∧ SqT K H a xs ∧
  ¬ (HT.sIx xs.length 0 lo = 0 ∧ HT.sIx xs.length xs.length hi = xs.length) ∧ ∀ p H', New H p (.tup (cutL xs lo hi)) H' → Q (.ref p) H'
theorem sl_tupN : SlR X (rSlTN X.K) := fun pins s σ H x v vl vu lo hi sl Q I rx hs pl pu h => by
  obtain ⟨a, xs, e, hx, hw, q⟩ := h
  exact sl_tup pins s σ H x v vl vu lo hi sl Q I rx hs pl pu ⟨a, xs, e, hx, hw, fun p np => q p _ (.mk' np _)⟩
def rStrB (f : Str → Bool) : V → List V → Hp → VK → Prop := fun x vs H Q => ∃ z, x = .str z ∧ vs = [] ∧ Q (.bl (f z)) H
end
section
variable {K : PySem.W.Frag} {h : Heap} {mg : Str → Option Value}
end
/-! ### the same, the written part named -/
section
variable {X : Cx} (K : PySem.W.Frag)
theorem ix_listK (h : X.K = K := by rfl) : IxR X (rIxL K) := h ▸ ix_list
theorem ix_tupK (h : X.K = K := by rfl) : IxR X (rIxT K) := h ▸ ix_tup
theorem sl_listNK (h : X.K = K := by rfl) : SlR X (rSlLN K) := h ▸ sl_listN
theorem sl_tupNK (h : X.K = K := by rfl) : SlR X (rSlTN K) := h ▸ sl_tupN
def rLen : List V → Hp → VK → Prop := fun xs H Q => ∃ p ys, xs = [.ref p] ∧ (SqL K H p ys ∨ SqT K H p ys) ∧ Q (.int (List.length ys)) H
theorem call_len_seqK (h : X.K = K := by rfl) : CallR X (.builtin "len") (rLen K) := h ▸ call_len_seq
def rAll : List V → Hp → VK → Prop := fun xs H Q => ∃ (p : Addr) (bs : List Bool), xs = [.ref p] ∧ SqL K H p (bs.map V.bl) ∧ Q (.bl (bs.all id)) H
theorem call_all_blK (hc : X.calm = true) (h : X.K = K := by rfl) : CallR X (.builtin "all") (rAll K) := h ▸ call_all_bl hc
def rAny : List V → Hp → VK → Prop := fun xs H Q => ∃ (p : Addr) (bs : List Bool), xs = [.ref p] ∧ SqL K H p (bs.map V.bl) ∧ Q (.bl (bs.any id)) H
def rSum : List V → Hp → VK → Prop := fun xs H Q => ∃ (p : Addr) (ns : List Int), xs = [.ref p] ∧ SqL K H p (ns.map V.int) ∧ Q (.int ns.sum) H
theorem call_sum_intK (hc : X.calm = true) (h : X.K = K := by rfl) : CallR X (.builtin "sum") (rSum K) := h ▸ call_sum_int hc
def rListOf : List V → Hp → VK → Prop := fun xs H Q => ∃ p ys, xs = [.ref p] ∧ (SqL K H p ys ∨ SqT K H p ys) ∧ ∀ l H', New H l (.lst ys) H' → Q (.ref l) H'
theorem call_list_ofNK (h : X.K = K := by rfl) : CallR X (.type "list") (rListOf K) := h ▸ call_list_ofN
theorem op_eqSK (hu : X.A.units + 8 < cLine) (h : X.K = K := by rfl) : OpR X (compareOp .Eq) (rEqS K) := h ▸ op_eqS hu
theorem pi_listK {tg l : Expr} {tl : TE} (hl : PE X l tl) (h : X.K = K := by rfl) : PI X tg l (iList K tl) := h ▸ pi_list hl
variable {o e : Expr} {es : List Expr} {to : TE} {t : TA} {name : Str} {apos cpos : Pos} {T id : String} {r : V → List V → Hp → VK → Prop}
theorem pe_bm0K (pa : PlainAttrs T) (slot : Slot T name id) (hty : typeOf (.builtin id) = pure (.type "method_descriptor")) (hm : MtR X id r) (ho : PE X o to) (h : X.K = K := by rfl)
    (hbase : attributeBase o name X.env (eval o X.env) = eval o X.env := by rfl) (hline : (apos.endLine == cpos.line) = true := by rfl) : PE X (.Call (.Attribute o name apos) [] [] cpos) (tBM0 K T r to) := h ▸ pe_bm0 pa slot hty hm ho hbase hline
theorem pe_bmK (pa : PlainAttrs T) (slot : Slot T name id) (hty : typeOf (.builtin id) = pure (.type "method_descriptor")) (hm : MtR X id r) (ho : PE X o to) (ha : PA X (e :: es) t) (h : X.K = K := by rfl)
    (hbase : attributeBase o name X.env (eval o X.env) = eval o X.env := by rfl)
    (hfew : ((backTo cpos (starEach (e :: es) X.env)).all (fun x => !x.1) && (backToKw cpos (keywordEach [] X.env)).all (fun x => x.1.isSome)
      && decide ((e :: es).length + ([] : List Keyword).length + (if ([] : List Keyword).isEmpty then 0 else 1) < 30)) = true := by rfl)
    (hline : (apos.endLine == cpos.line) = true := by rfl) (h1 : notStar e = true := by rfl) (h2 : es.all notStar = true := by rfl) :
    PE X (.Call (.Attribute o name apos) (e :: es) [] cpos) (tBM K T r to t) := h ▸ pe_bm pa slot hty hm ho ha hbase hfew hline (star_cons h1) (star_any h2)
end
/-! ### a cut behind a test -/
section
variable {X : Cx} {e : Expr} {t : TT}
end
end L2

set_option Elab.async false
set_option linter.all false
set_option maxRecDepth 100000
/-! zip of two tuples, walked by a comprehension or a loop with two names -/
namespace L2
open PySem PySem.Spec PyProof.Rows
section
variable {P : Program} {w : World} {A : Around} {E : Value → Shared → Prop} {s : Shared}
end
/-- the five records of a zip of two tuples, at turn i -/
structure ZipT (h : Heap) (z ti ro j1 j2 t1 t2 : Addr) (f0 : Value) (i : Nat) : Prop where
  z : IsZip h z ti ro f0
  ti : IsPair h ti (.ref j1) (.ref j2)
  ro : ∃ a b, IsPair h ro a b
  j1 : h.IsTupleIter j1 t1 i
  j2 : h.IsTupleIter j2 t2 i
section
variable {P : Program} {w : World} {A : Around} {E : Value → Shared → Prop} {s : Shared} {z ti ro j1 j2 t1 t2 : Addr} {i : Nat} {its1 its2 : Array Value}
end
section
variable {P : Program} {w : World} {A : Around} {E : Value → Shared → Prop} {s : Shared}
end
/-! ### several records of ours have turned -/
section
variable {X : Cx} {pins : List (Addr × Obj)} {σ : St} {H : Hp} {s : Shared} {h' : Heap}
theorem Inv.turnedL {t' : Nat} {L : List Addr} (I : Inv X pins σ H s) (k : ∀ b o, b ∉ L → s.heap.get? b = some o → h'.get? b = some o) (hL : ∀ b ∈ L, FpOk X pins H b) : Inv X pins σ H { s with heap := h', toks := t' } := by
  have no : ∀ b u, H b = some u → b ∉ L := fun b u e z => by rw [(hL b z).1] at e; cases e
  refine I.step (g' := s.gens) (d' := s.drawn) (ch := L) (fun b hb => ?_) (fun b o _ _ hc e _ => k b o hc e) (fun b o _ _ hc e _ => ⟨o.slots, k b o hc e⟩) (fun _ _ _ _ n => n)
    (fun b o hc e => ⟨o, k b o hc e⟩) (fun _ _ e => e) (fun _ _ _ e => e) (fun _ _ _ e => e) (fun m hm => ?_) (fun b u e => ?_) I.bare
  · obtain ⟨_, f1, _, f3, f4, f5⟩ := hL b hb
    exact ⟨f3, f1, f4, f5⟩
  · obtain ⟨o, es, ep, ho, r⟩ := hm
    exact ⟨o, es, ep, k _ o (fun z => (hL _ z).2.1 rfl) ho, r⟩
  · refine (I.hok b u e).stay (fun c v hc q => k c v ?_ q) (fun _ q => q) (fun _ _ _ _ _ q => q) fun _ _ q => q
    rcases hc with z | z
    · rw [z]; exact no b u e
    · exact no c _ z
theorem Inv.turnedNew {t' : Nat} {L : List Addr} {p : Addr} {o : HO} (I : Inv X pins σ H s) (k : ∀ b u, b ∉ L → s.heap.get? b = some u → h'.get? b = some u) (hL : ∀ b ∈ L, FpOk X pins H b) (hp : s.heap.objs.size ≤ p) (new : ObjOk X.prog X.w (upd H p o) h' p o)
    (hl : ∀ b ∈ L, ∃ u, h'.get? b = some u) : Inv X pins σ (upd H p o) { s with heap := h', toks := t' } := by
  have hn : H p = none := I.hok.fresh hp
  have no : ∀ b u, H b = some u → b ∉ L := fun b u e z => by rw [(hL b z).1] at e; cases e
  have ne : ∀ b u, H b = some u → upd H p o b = some u := fun b u e => by rw [upd_ne (ne_of_none e hn)]; exact e
  refine I.step (g' := s.gens) (d' := s.drawn) (ch := L) (fun b hb => ?_) (fun b u _ _ hc e _ => k b u hc e) (fun b u _ _ hc e _ => ⟨u.slots, k b u hc e⟩) (fun b u _ e z => ?_)
    (fun b u hc e => ⟨u, k b u hc e⟩) (fun b xs e => ne b _ e) (fun b ob u e => ne b _ e) (fun b _ _ e => ne b _ e) (fun m hm => ?_) (fun b u e => ?_) I.bare
  · obtain ⟨_, f1, _, f3, f4, f5⟩ := hL b hb
    exact ⟨f3, f1, f4, f5⟩
  · rw [upd_ne (Nat.ne_of_lt (Nat.lt_of_lt_of_le (Heap.lt_size e) hp))]; exact z
  · obtain ⟨ob, es, ep, ho, r⟩ := hm
    exact ⟨ob, es, ep, k _ ob (fun z => (hL _ z).2.1 rfl) ho, r⟩
  · by_cases hb : b = p
    · subst hb; rw [upd_same] at e; cases e; exact new
    · rw [upd_ne hb] at e
      refine (I.hok b u e).stay (fun c v hc q => k c v ?_ q) (fun c q => ne c _ q) (fun c _ _ _ _ q => ne c _ q) fun c xs q => ne c _ q
      rcases hc with z | z
      · rw [z]; exact no b u e
      · exact no c _ z
end
/-! ### the iterator -/
def Itz (K : PySem.W.Frag) (a b : Addr) : It :=
  ⟨fun i H => ∃ xs ys x y, SqT K H a xs ∧ SqT K H b ys ∧ xs[i]? = some x ∧ ys[i]? = some y,
   fun i H v H' => ∃ p x y, v = .ref p ∧ New H p (.tup [x, y]) H' ∧ (∀ xs, SqT K H a xs → xs[i]? = some x) ∧ ∀ ys, SqT K H b ys → ys[i]? = some y,
   fun i H => ∃ xs ys, SqT K H a xs ∧ SqT K H b ys ∧ xs.length ≤ i⟩
def iZip (K : PySem.W.Frag) (ta : TA) : TI := fun σ H R => ta σ H fun vs H1 => ∃ a b, vs = [.ref a, .ref b] ∧ (∃ xs, SqT K H1 a xs) ∧ (∃ ys, SqT K H1 b ys) ∧ R (Itz K a b) H1
theorem pg_tupK {X : Cx} (K : PySem.W.Frag) {es : List Expr} {k : Nat} {t : TGs} {n : Nat} {pos : Pos} (hc : X.calm = true) (h : PGs X es t) (hK : X.K = K := by rfl)
    (hn : (assignEach es X.env).length = n := by rfl) (hst : (assignEach es X.env).findIdx? (·.1) = none := by rfl) : PG X (.Tuple es k pos) (gTup K n t) := hK ▸ pg_tup hc h hn hst
section
variable {tn : List Str} {cp : List (Nat × Str)} {g : TG} {tif : TT} {te : TE} {σ0 : St} {Q : VK} {H1 : Hp} {K : PySem.W.Frag} {a b : Addr} {xs ys : List V}
end
end L2

set_option Elab.async false
set_option linter.all false
set_option maxRecDepth 100000
/-! a constant dict of the text, asked by texts -/
namespace L2
open PySem PySem.Spec PyProof.Rows
/-- the written dict at a tells f -/
def DctK (K : PySem.W.Frag) (w : World) (a : Addr) (f : Str → Option V) : Prop := (a == sysModules) = false ∧ ∃ (es : Array DictEntry) (n : Nat), K.lookup a = some ⟨.type "dict", none, .dict es n, #[]⟩ ∧ PySem.W.KeysLit w.params es.toList ∧ ∀ x, RelO (f x) (findBy Value.isStrOf es x)
section
variable {X : Cx} (K : PySem.W.Frag) (w : World)
def rInD (neg : Bool) : R2 := fun x y H Q => ∃ z a f, x = .str z ∧ y = .ref a ∧ DctK K w a f ∧ Q (.bl (if neg then !(f z).isSome else (f z).isSome)) H
def rIxD : R2 := fun x y H Q => ∃ a z f v, x = .ref a ∧ y = .str z ∧ DctK K w a f ∧ f z = some v ∧ Q v H
end
section
variable {tn : List Str} {cp : List (Nat × Str)} {g : TG} {tif : TT} {te : TE} {σ0 : St} {Q : VK} {H1 : Hp} {K : PySem.W.Frag} {a : Addr} {xs : List V}
end
end L2

set_option Elab.async false
set_option linter.all false
/-! is not, of two bools -/
namespace L2
open PySem PySem.Spec PyProof.Rows
variable {X : Cx}
end L2

set_option Elab.async false
set_option linter.all false
set_option maxRecDepth 100000
/-! lists of ints compared; a comprehension over a range -/
namespace L2
open PySem PySem.Spec PyProof.Rows
section
variable {X : Cx} {k : Nat} {H : Hp} {a b : Addr} {xs ys : List V}
def rEqI (K : PySem.W.Frag) : R2 := fun x y H Q => ∃ (a b : Addr) (xs ys : List Int), x = .ref a ∧ y = .ref b ∧ SqL K H a (xs.map V.int) ∧ SqL K H b (ys.map V.int) ∧ Q (.bl (decide (xs = ys))) H
def rNeI (K : PySem.W.Frag) : R2 := fun x y H Q => ∃ (a b : Addr) (xs ys : List Int), x = .ref a ∧ y = .ref b ∧ SqL K H a (xs.map V.int) ∧ SqL K H b (ys.map V.int) ∧ Q (.bl (!decide (xs = ys))) H
variable (K : PySem.W.Frag)
end
/-! ### a comprehension over a range -/
section
variable {tn : List Str} {cp : List (Nat × Str)} {g : TG} {tif : TT} {te : TE} {σ0 : St} {Q : VK} {H1 : Hp} {lo : Int} {n : Nat}
end
/-- what is a tuple stays -/
def TupS (H H' : Hp) : Prop := ∀ b xs, H b = some (.tup xs) → H' b = some (.tup xs)
theorem Same.tups {H H' : Hp} (g : Same H H') : TupS H H' := fun b xs e => g b _ e
theorem TupS.refl (H : Hp) : TupS H H := fun _ _ e => e
theorem TupS.trans {H H1 H2 : Hp} (a : TupS H H1) (b : TupS H1 H2) : TupS H H2 := fun c xs e => b c xs (a c xs e)
/-- a list is written -/
theorem TupS.wr {H : Hp} {p : Addr} {xs : List V} (h : H p = some (.lst xs)) (o : HO) : TupS H (upd H p o) := fun b ys e => by rw [upd_ne (ne_of e h (by intro z; cases z))]; exact e
end L2

set_option Elab.async false
set_option linter.all false
set_option maxRecDepth 100000
/-! zip of a list and a tuple; enumerate of a list -/
namespace L2
open PySem PySem.Spec PyProof.Rows
theorem li_at {h h' : Heap} {j a : Addr} {i : Nat} (x : h.IsListIter j a i) (k : ∀ o, h.get? j = some o → h'.get? j = some o) : h'.IsListIter j a i := by
  obtain ⟨o, e, r⟩ := x
  exact ⟨o, k o e, r⟩
theorem li_ext {h h' : Heap} {j a b : Addr} {i : Nat} (x : h.IsListIter j a i) (k : Heap.ExtBut b h h') (n : j ≠ b) : h'.IsListIter j a i := li_at x fun o e => k j o n e
/-- the five records of a zip of a list and a tuple, at turn i -/
structure ZipL (h : Heap) (z ti ro j1 j2 t1 t2 : Addr) (f0 : Value) (i : Nat) : Prop where
  z : IsZip h z ti ro f0
  ti : IsPair h ti (.ref j1) (.ref j2)
  ro : ∃ a b, IsPair h ro a b
  j1 : h.IsListIter j1 t1 i
  j2 : h.IsTupleIter j2 t2 i
section
variable {P : Program} {w : World} {A : Around} {E : Value → Shared → Prop} {s : Shared} {z ti ro j1 j2 t1 t2 : Addr} {i : Nat} {its1 its2 : Array Value}
end
section
variable {P : Program} {w : World} {A : Around} {E : Value → Shared → Prop} {s : Shared}
end
/-! ### the iterator -/
def ItzL (K : PySem.W.Frag) (a b : Addr) : It :=
  ⟨fun i H => ∃ xs ys x y, SqL K H a xs ∧ SqT K H b ys ∧ xs[i]? = some x ∧ ys[i]? = some y,
   fun i H v H' => ∃ p x y, v = .ref p ∧ New H p (.tup [x, y]) H' ∧ (∀ xs, SqL K H a xs → xs[i]? = some x) ∧ ∀ ys, SqT K H b ys → ys[i]? = some y,
   fun i H => ∃ xs ys, SqL K H a xs ∧ SqT K H b ys ∧ xs.length ≤ i⟩
def iZipL (K : PySem.W.Frag) (ta : TA) : TI := fun σ H R => ta σ H fun vs H1 => ∃ a b, vs = [.ref a, .ref b] ∧ (∃ xs, SqL K H1 a xs) ∧ (∃ ys, SqT K H1 b ys) ∧ R (ItzL K a b) H1
/-! ### enumerate -/
def Ite (K : PySem.W.Frag) (a : Addr) : It :=
  ⟨fun i H => ∃ xs x, SqL K H a xs ∧ xs[i]? = some x, fun i H v H' => ∃ p x, v = .ref p ∧ New H p (.tup [.int (i : Int), x]) H' ∧ ∀ xs, SqL K H a xs → xs[i]? = some x, fun i H => ∃ xs, SqL K H a xs ∧ xs.length ≤ i⟩
theorem turn_enum {P : Program} {w : World} {K : PySem.W.Frag} {elts : List Expr} {x1} {tpos : Pos} (e it a : Addr) (hne : e ≠ it) :
    Turn P w K (.Tuple elts x1 tpos) (Ite K a) [e, it] e (fun i h => (∃ old, IsEnum h e it (i : Int) old) ∧ h.IsListIter it a i) where
  mem := by simp
  obj := fun i h st c hc => by
    obtain ⟨⟨old, se⟩, o1, e1, c1, d1⟩ := st
    simp only [List.mem_cons, List.not_mem_nil, or_false] at hc
    rcases hc with rfl | rfl
    · exact ⟨_, se, fun v q => nomatch q⟩
    · exact ⟨_, e1, fun v q => by rw [d1] at q; cases q⟩
  keep := fun i h h' st k => ⟨let ⟨old, se⟩ := st.1; ⟨old, k e (by simp) _ se⟩, li_at st.2 fun o z => k it (by simp) o z⟩
  item := by
    intro X hP hw hK hc i pins s σ H E I hf st hg
    subst hP hw hK
    obtain ⟨xs, x, hx, ex⟩ := hg
    obtain ⟨its, r, pl, _⟩ := I.list hx
    obtain ⟨u, hu, ru⟩ := r.get ex
    obtain ⟨⟨old, se⟩, si⟩ := st
    refine wpAny_pyNext_enum_item se si pl.isList (x := u) (by simpa using hu) hne fun h1 eo1 si1 q1 sz1 k1 => ⟨_, rfl, ?_⟩
    refine wpAny_letOwnedTupleGo_enum eo1 fun h2 e2 sb2 => ?_
    have hlt : ∀ c ∈ [e, it], c ≠ s.heap.objs.size := fun c hc => by
      simp only [List.mem_cons, List.not_mem_nil, or_false] at hc
      rcases hc with rfl | rfl
      · exact Nat.ne_of_lt (Heap.lt_size se)
      · obtain ⟨o, z, _⟩ := si
        exact Nat.ne_of_lt (Heap.lt_size z)
    have k2 : ∀ c o, c ∉ [e, it] → s.heap.get? c = some o → h2.get? c = some o := fun c o hc z =>
      sb2.extBut _ _ (fun q => hc (by simp [q])) (k1 c o (fun q => hc (by simp [q])) (fun q => hc (by simp [q])) z)
    have tup2 := sb2.extBut _ _ (Ne.symm (hlt e (by simp))) q1
    have si2 : h2.IsListIter it a (i + 1) := li_ext si1 sb2.extBut (Ne.symm hne)
    have e2' : IsEnum h2 e it ((i + 1 : Nat) : Int) u := by rw [show ((i + 1 : Nat) : Int) = (i : Int) + 1 by omega]; exact e2
    have there : ∀ c ∈ [e, it], ∃ o, h2.get? c = some o := fun c hc => by
      simp only [List.mem_cons, List.not_mem_nil, or_false] at hc
      rcases hc with rfl | rfl
      · exact ⟨_, e2⟩
      · obtain ⟨o, z, _⟩ := si2
        exact ⟨o, z⟩
    have I2 : Inv X pins σ (upd H s.heap.objs.size (.tup [.int (i : Int), x])) { s with heap := h2, toks := s.toks + 1 } := I.turnedNew k2 hf (Nat.le_refl _) ⟨small_line (by simp), [.int i s.toks, u], .cons ⟨_, rfl⟩ (.cons ru .nil), ⟨_, tup2, rfl, _, rfl⟩⟩ there
    refine ⟨.ref s.heap.objs.size, _, I2, rfl, ⟨_, x, rfl, .mk' I.fresh _, fun ws hw => by rw [I.list_inj hw hx]; exact ex⟩, ⟨⟨_, e2'⟩, si2⟩, fun c hc => ?_⟩
    rw [upd_ne (hlt c hc)]
    exact (hf c hc).1
  done := by
    intro X hP hw hK hc i pins s σ H E I hf st hg
    subst hP hw hK
    obtain ⟨xs, hx, hl⟩ := hg
    obtain ⟨its, r, pl, _⟩ := I.list hx
    have l1 := r.length
    obtain ⟨⟨old, se⟩, si⟩ := st
    exact wpAny_pyNext_enum_end (I.ok.hd hc) se si pl.isList (by simp; omega) fun h' k => ⟨rfl, I.turnedL (t' := s.toks) (fun c o hc z => k c o (fun q => hc (by simp [q])) z) hf⟩
  self := fun _ _ _ _ _ st h => let ⟨_, se⟩ := st.1; wpAny_pyIter_enum se h
def iEnum (K : PySem.W.Frag) (ta : TA) : TI := fun σ H R => ta σ H fun vs H1 => ∃ a, vs = [.ref a] ∧ (∃ xs, SqL K H1 a xs) ∧ R (Ite K a) H1
theorem pi_enum {X : Cx} {elts : List Expr} {x1} {tpos : Pos} {a : Expr} {ta : TA} {p pos : Pos} (hg : Gl X "enumerate") (hm : X.mg "enumerate" = none) (ha : PA X [a] ta) (h1 : notStar a = true := by rfl) : PI X (.Tuple elts x1 tpos) (.Call (.Name "enumerate" p) [a] [] pos) (iEnum X.K ta) := by
  intro pins s σ H R I h
  have hs : starEach [a] X.env = [(false, eval a X.env)] := by rw [star_cons h1, starEach.eq_def]
  refine Call_ (ld_blt I hg hm boot_enumerate (PyProof.Rows.callWith_type1 (thn (ha pos pins s σ H _ I h) fun us s1 ⟨vs, H1, I1, r1, q1⟩ => ?_) hs rfl))
  obtain ⟨p1, e, ⟨xs, hx⟩, q⟩ := q1
  subst e
  obtain ⟨u, rfl, ru⟩ := vals1 r1
  cases (show u = Value.ref p1 from ru)
  obtain ⟨its, _, t1, _⟩ := I1.list hx
  refine call_enumerate_list t1.isList fun h' se si sz k => wpAny_pyIter_enum se ?_
  refine ⟨_, [s1.heap.objs.size + 1, s1.heap.objs.size], _, _, H1, rfl, I1.kept (t' := s1.toks) k, turn_enum _ _ p1 (Nat.succ_ne_self _), ⟨⟨_, se⟩, si⟩, fun c hc => ?_, q⟩
  have hle : s1.heap.objs.size ≤ c := by
    simp only [List.mem_cons, List.not_mem_nil, or_false] at hc
    rcases hc with rfl | rfl
    · exact Nat.le_add_right _ _
    · exact Nat.le_refl _
  exact I1.fpOk hle (I1.hok.fresh hle)
theorem pi_enumK {X : Cx} (K : PySem.W.Frag) {elts : List Expr} {x1} {tpos : Pos} {a : Expr} {ta : TA} {p pos : Pos} (hg : Gl X "enumerate") (hm : X.mg "enumerate" = none) (ha : PA X [a] ta) (h : X.K = K := by rfl) (h1 : notStar a = true := by rfl) :
    PI X (.Tuple elts x1 tpos) (.Call (.Name "enumerate" p) [a] [] pos) (iEnum K ta) := h ▸ pi_enum hg hm ha h1
end L2

set_option Elab.async false
set_option linter.all false
set_option maxRecDepth 100000
/-! dict(pairs), dicts by a compare, len of a dict of tuples, max of a list, list.index; comprehensions whose items are new tuples -/
namespace L2
open PySem PySem.Spec PyProof.Rows
section
variable {P : Program} {w : World} {κ : Type} [DecidableEq κ] {knd : KeyKind P w κ} {A : Around} {R : Result → Shared → Prop} {it : Addr} {fp wr : List Addr} {G : Array GenState → Array GenState → Prop} {n : Nat} {Pv : Nat → Value → Prop} {St : Nat → Shared → Prop}
/-- the pairs' tuples, as they stand -/
def PairsAt (knd : KeyKind P w κ) (h : Heap) (bad : List Addr) (Pv : Nat → Value → Prop) (kvs : List (κ × Value)) : Prop := ∀ i v k u, Pv i v → kvs[i]? = some (k, u) → ∃ p key, v = .ref p ∧ p ∉ bad ∧ knd.is k key = true ∧ h.IsTuple p #[key, u]
theorem PairsAt.kept {h h' : Heap} {bad : List Addr} {kvs : List (κ × Value)} (x : PairsAt knd h bad Pv kvs) (k : ∀ b o, b ∉ bad → h.get? b = some o → h'.get? b = some o) : PairsAt knd h' bad Pv kvs := fun i v k' u pv e => by
  obtain ⟨p, key, e1, e2, e3, o, ho, r⟩ := x i v k' u pv e
  exact ⟨p, key, e1, e2, e3, o, k p o e2 ho, r⟩
end
section
variable {P : Program} {w : World} {κ : Type} [DecidableEq κ] {knd : KeyKind P w κ} {A : Around} {E : Value → Shared → Prop} {s : Shared}
end
/-! ### dicts, by values -/
theorem DGet.b {H : Hp} {a : Addr} {kvs : List (Key × V)} {b : Bool} (e : H a = some (.dK kvs)) : DGet H a (.bl b) (valV kvs (.inl (blI b))) := .inl ⟨kvs, _, .inl e, .inr ⟨b, rfl, rfl⟩, rfl⟩
theorem DPut.b {H : Hp} {a : Addr} {kvs : List (Key × V)} {b : Bool} {v : V} (e : H a = some (.dK kvs)) (hl : kvs.length < sizeLine) : DPut H a (.bl b) v (upd H a (.dK (putK kvs (.inl (blI b)) v))) := .inl ⟨kvs, _, e, .inr ⟨b, rfl, rfl⟩, hl, rfl⟩
theorem DGet.n {H : Hp} {a : Addr} {kvs : List (Key × V)} {n : Int} (e : H a = some (.dK kvs)) : DGet H a (.int n) (valV kvs (.inl n)) := DGet.k (k := .inl n) e
theorem DPut.n {H : Hp} {a : Addr} {kvs : List (Key × V)} {n : Int} {v : V} (e : H a = some (.dK kvs)) (hl : kvs.length < sizeLine) : DPut H a (.int n) v (upd H a (.dK (putK kvs (.inl n) v))) := DPut.k (k := .inl n) e hl
def rInDc (neg : Bool) : R2 := fun y x H Q => ∃ a o, x = .ref a ∧ DGet H a y o ∧ Q (.bl (if neg then !o.isSome else o.isSome)) H
section
variable {X : Cx} {o i value : Expr} {pos pos' : Pos} {td ty tv : TE}
def tDNewN : TE := fun _ H Q => ∀ p H', New H p (.dK []) H' → Q (.ref p) H'
def tDNewTN : TE := fun _ H Q => ∀ p H', New H p (.dT []) H' → Q (.ref p) H'
def rLenD : List V → Hp → VK → Prop := fun xs H Q => ∃ a kvs, xs = [V.ref a] ∧ H a = some (.dK kvs) ∧ Q (.int kvs.length) H
end
section
variable {prog : Program} {w : World} {κ : Type} [DecidableEq κ] {knd : HeapKind prog w κ} {A : Around} {E : Value → Shared → Prop} {s : Shared}
end
def rLenT : List V → Hp → VK → Prop := fun xs H Q => ∃ a kvs, xs = [V.ref a] ∧ H a = some (.dT kvs) ∧ Q (.int kvs.length) H
/-! ### dict(pairs) -/
def PairV (H : Hp) (r : V) (kv : Key × V) : Prop := ∃ t, r = .ref t ∧ H t = some (.tup [kV kv.1, kv.2])
def rDictOf (K : PySem.W.Frag) : List V → Hp → VK → Prop := fun xs H Q => ∃ (p : Addr) (rs : List V) (kvs : List (Key × V)), xs = [.ref p] ∧ SqL K H p rs ∧ Paired (PairV H) rs kvs ∧ kvs.length ≤ 1000 ∧ ∀ d H', New H d (.dK (mergeK [] kvs)) H' → Q (.ref d) H'
/-! ### max of a list, index -/
def rMaxL (K : PySem.W.Frag) : List V → Hp → VK → Prop := fun xs H Q => ∃ (p : Addr) (ns : List Int), xs = [.ref p] ∧ SqL K H p (ns.map V.int) ∧ 0 < ns.length ∧ ∀ M, M ∈ ns → (∀ a ∈ ns, a ≤ M) → Q (.int M) H
def rIndex (K : PySem.W.Frag) : V → List V → Hp → VK → Prop := fun x vs H Q => ∃ (p : Addr) (ns : List Int) (k : Int), x = .ref p ∧ vs = [.int k] ∧ SqL K H p (ns.map V.int) ∧ k ∈ ns ∧ ns.length ≤ 1000 ∧ Q (.int (ns.idxOf k : Nat)) H
/-! ### a tuple more -/
def rCatTN (K : PySem.W.Frag) : R2 := fun x y H Q => ∃ a b xs ys, x = .ref a ∧ y = .ref b ∧ SqT K H a xs ∧ SqT K H b ys ∧ xs ≠ [] ∧ ys ≠ [] ∧ xs.length + ys.length ≤ sizeLine ∧ ∀ p H', New H p (.tup (xs ++ ys)) H' → Q (.ref p) H'
/-! ### a comprehension by what holds of each item -/
section
variable {tn : List Str} {cp : List (Nat × Str)} {g : TG} {tif : TT} {te : TE} {σ0 : St} {Q : VK} {H1 : Hp} {n : Nat}
end
end L2

set_option Elab.async false
set_option linter.all false
set_option maxRecDepth 100000
/-! a dict written with one pair, its key a tuple -/
namespace L2
open PySem PySem.Spec PyProof.Rows
def tDisp1T (tk tv : TE) : TE := fun σ H Q => ∀ p H1, New H p (.dT []) H1 → tk σ H1 fun y H2 => tv σ H2 fun z H3 => H3 p = some (.dT []) ∧ ∃ b ks, y = .ref b ∧ H3 b = some (.tup (ks.map kV)) ∧ Q (.ref p) (upd H3 p (.dT [(ks, z)]))
end L2

set_option Elab.async false
set_option linter.all false
set_option maxRecDepth 100000
/-! tuples compared by != ; list(range(a, b)); [x] * n -/
namespace L2
open PySem PySem.Spec PyProof.Rows
def NeOk (X : Cx) (k : Nat) (H : Hp) (x y : V) (b : Bool) : Prop := ∀ (pins : List (Addr × Obj)) (σ : St) (s : Shared) (A : Around) (u v : Value), A.units + k < cLine → Inv X pins σ H s → RelV x u → RelV y v → SeqAt.RcNeAt A s u v b
def rNeM (X : Cx) : R2 := fun x y H Q => ∃ c, NeOk X 8 H x y c ∧ Q (.bl c) H
/-! ### range objects -/
def rRange2 : List V → Hp → VK → Prop := fun xs H Q => ∃ i j : Int, xs = [.int i, .int j] ∧ ∀ p H', New H p (.rng i j) H' → Q (.ref p) H'
def rListRng : List V → Hp → VK → Prop := fun xs H Q => ∃ (p : Addr) (i j : Int), xs = [.ref p] ∧ H p = some (.rng i j) ∧ (0 ≤ i ∧ i ≤ j ∧ j ≤ 1000) ∧ ∀ l H', New H l (.lst ((List.range (j - i).toNat).map fun (k : Nat) => V.int (i + k))) H' → Q (.ref l) H'
def rRepN : R2 := fun x y H Q => ∃ l k xs, x = .ref l ∧ y = .int k ∧ H l = some (.lst xs) ∧ -(2 ^ 63) ≤ k ∧ k < 2 ^ 63 ∧ xs.length * k.toNat ≤ sizeLine ∧ ∀ p H', New H p (.lst (List.replicate k.toNat xs).flatten) H' → Q (.ref p) H'
theorem op_repN {X : Cx} : OpR X (binaryOp .Mult) rRepN := fun pins s σ H x y v u Q I rx ry h => by
  obtain ⟨l, k, xs, e1, e2, h1, h2, h3, h4, q⟩ := h
  exact op_rep pins s σ H x y v u Q I rx ry ⟨l, k, xs, e1, e2, h1, h2, h3, h4, fun p np => q p _ (.mk' np _)⟩
end L2

set_option Elab.async false
set_option linter.all false
set_option maxRecDepth 100000
/-! enumerate of a zip of two tuples -/
namespace L2
open PySem PySem.Spec PyProof.Rows
abbrev IsZipF (h : Heap) (z ti ro : Addr) (f0 f1 : Value) : Prop := h.get? z = some { cls := .type "zip", dict := none, data := .fields #[f0, f1, .bool false, .ref ti, .ref ro], slots := #[] }
/-- the zip's records, whoever holds the tuple handed out last -/
structure ZipG (h : Heap) (z ti ro j1 j2 t1 t2 : Addr) (i : Nat) : Prop where
  z : ∃ f0 f1, IsZipF h z ti ro f0 f1 ∧ (f0 = Value.none ∨ ∃ a : Addr, f0 = rawInt a)
  ti : IsPair h ti (.ref j1) (.ref j2)
  ro : ∃ a b, IsPair h ro a b
  j1 : h.IsTupleIter j1 t1 i
  j2 : h.IsTupleIter j2 t2 i
section
variable {P : Program} {w : World} {A : Around} {E : Value → Shared → Prop} {s : Shared} {z ti ro j1 j2 t1 t2 : Addr} {i : Nat} {its1 its2 : Array Value}
end
/-! ### the iterator -/
def Itez (K : PySem.W.Frag) (a b : Addr) : It :=
  ⟨fun i H => ∃ xs ys x y, SqT K H a xs ∧ SqT K H b ys ∧ xs[i]? = some x ∧ ys[i]? = some y,
   fun i H v H' => ∃ p r H1 x y, v = .ref r ∧ New H p (.tup [x, y]) H1 ∧ New H1 r (.tup [.int (i : Int), .ref p]) H' ∧ (∀ xs, SqT K H a xs → xs[i]? = some x) ∧ ∀ ys, SqT K H b ys → ys[i]? = some y,
   fun i H => ∃ xs ys, SqT K H a xs ∧ SqT K H b ys ∧ xs.length ≤ i⟩
def iEZ (K : PySem.W.Frag) (ta : TA) : TI := fun σ H R => ta σ H fun vs H1 => ∃ a b, vs = [.ref a, .ref b] ∧ (∃ xs, SqT K H1 a xs) ∧ (∃ ys, SqT K H1 b ys) ∧ R (Itez K a b) H1
end L2

set_option Elab.async false
set_option linter.all false
set_option maxRecDepth 100000
/-! dict.get with another thing; a comprehension over a range with a test; what put leaves of the keys -/
namespace L2
open PySem PySem.Spec PyProof.Rows
section
variable {tn : List Str} {cp : List (Nat × Str)} {g : TG} {tif : TT} {te : TE} {σ0 : St} {Q : VK} {H1 : Hp} {lo : Int} {n : Nat}
def PRnF (S : St → Prop) (p : Nat → Bool) (f : Nat → V) (H1 : Hp) (i : Nat) (ys : List V) (σ : St) (H : Hp) : Prop := Same H1 H ∧ S σ ∧ ys = ((List.range i).filter p).map f
theorem crf_len (p : Nat → Bool) (f : Nat → V) (i : Nat) : (((List.range i).filter p).map f).length ≤ i := by
  rw [List.length_map]
  have := List.length_filter_le p (List.range i)
  rw [List.length_range] at this
  exact this
theorem crf_step {S : St → Prop} {p : Nat → Bool} {f : Nat → V} {D : Addr} {i : Nat} {v : V} {σ2 : St} {H4 : Hp} (hn : n ≤ 1000) (hi : i < n) (hp : p i = true) (hD : H1 D = none) (h4 : H4 D = some (.lst (((List.range i).filter p).map f))) (g4 : Same H1 H4) (s2 : S σ2) (e : v = f i) : CStep D n i (PRnF S p f H1) σ2 v H4 := by
  subst e
  refine cstep (small_line hn) hi h4 (crf_len p f i) ⟨g4.wr hD _, s2, ?_⟩
  rw [List.range_succ, List.filter_append, List.map_append]
  simp [hp]
theorem crf_skip {S : St → Prop} {p : Nat → Bool} {f : Nat → V} {D : Addr} {i : Nat} {σ2 : St} {H3 : Hp} (hi : i < n) (hp : p i = false) (h3 : H3 D = some (.lst (((List.range i).filter p).map f))) (g3 : Same H1 H3) (s2 : S σ2) : CSkip D n i (PRnF S p f H1) σ2 H3 := by
  refine cskip hi h3 (crf_len p f i) ⟨g3, s2, ?_⟩
  rw [List.range_succ, List.filter_append]
  simp [hp]
end
section
variable {κ : Type} [DecidableEq κ]
end
/-- t + u, either may be empty -/
def rCatTE : R2 := fun x y H Q => ∃ a b xs ys, x = .ref a ∧ y = .ref b ∧ H a = some (.tup xs) ∧ H b = some (.tup ys) ∧ xs.length + ys.length ≤ sizeLine ∧ ∀ p H', Same H H' → H' p = some (.tup (xs ++ ys)) → Q (.ref p) H'
end L2

set_option Elab.async false
set_option linter.all false
set_option maxRecDepth 100000
/-! functions made in a body: def within def, lambda; called as values -/
namespace L2
open PySem PySem.Spec PyProof.Rows

/-! ### the table of a code object -/
/-- the table at P, tracked: what it holds for the places qs are code objects, kept -/
def TabOk (H : Hp) (P : Addr) (qs : List (Pos × Str)) : Prop := ∃ ps : Array Value, H P = some (.tbl qs ps)
theorem TabOk.same {H H' : Hp} {P : Addr} {qs : List (Pos × Str)} (T : TabOk H P qs) (g : Same H H') : TabOk H' P qs := let ⟨ps, h⟩ := T; ⟨ps, g _ _ h⟩
def KCode (K : PySem.W.Frag) (c P : Addr) : Prop := ∃ o vs file tf flags tg inF text tt, K.lookup c = some o ∧ o.cls = .type "code" ∧ o.data = .fields vs ∧ vs[11]? = some (.ref P) ∧ vs.getD 11 .none = .ref P ∧ vs.getD 18 .none = .str file tf ∧
  vs.getD 7 .none = .int flags tg ∧ vs.getD 9 .none = .bool inF ∧ vs.getD 10 .none = .int text tt ∧ c ≠ P
section
variable {X : Cx} {pins : List (Addr × Obj)} {σ : St} {H : Hp} {s : Shared}
/-! ### making one -/
def cloFd (name qual : Str) (params : Arguments) (body : FuncBody) (scope : Scope) (cl : List (Str × Addr)) (ct cd pm : Value) : FuncData :=
  { name, qualname := qual, params, body, scope, globals := mainGlobals, closure := cl, closureTuple := ct, code := cd, builtins := builtinsNs, defaults := .none, kwdefaults := .none, annotations := none, pyModule := pm, doc := .none }
/-- the function at f, just made in X -/
structure Made (X : Cx) (H H' : Hp) (name qual : Str) (params : Arguments) (body : FuncBody) (scope : Scope) (f : Addr) : Prop where
  old : Same H H'
  new : H f = none
  ex : ∃ cl ct c' oc pm, (∀ x c, cl.lookup x = some c → X.env.cells.lookup x = some c) ∧ (∀ p ∈ scope.names, p.2 = .free → ∃ c, cl.lookup p.1 = some c) ∧ H' c' = some (.frz oc (.own c')) ∧ CodeObj oc qual ∧
    H' f = some (.frz { cls := .type "function", data := .func (cloFd name qual params body scope cl ct (.ref c') pm) } (.own f))
end
end L2

set_option Elab.async false
set_option linter.all false
set_option maxRecDepth 100000
/-! functions as values: called, and what is promised of one made in a body -/
namespace L2
open PySem PySem.Spec PyProof.Rows
def fnO (fd : FuncData) (f : Addr) : HO := .frz { cls := .type "function", data := .func fd } (.own f)
/-- what is frozen stays -/
def Frz (H H' : Hp) : Prop := ∀ b o u, H b = some (.frz o u) → H' b = some (.frz o u)
theorem Frz.refl (H : Hp) : Frz H H := fun _ _ _ e => e
theorem Frz.trans {H H1 H2 : Hp} (a : Frz H H1) (b : Frz H1 H2) : Frz H H2 := fun c o u e => b c o u (a c o u e)
theorem Same.frz {H H' : Hp} (g : Same H H') : Frz H H' := fun b o u e => g _ _ e
/-- the function at f keeps sp, wherever what is frozen in H is so yet -/
def CloH (P : Program) (w : World) (K : PySem.W.Frag) (mg : Str → Option Value) (base : Heap) (k : Nat) (H : Hp) (f : Addr) (n : Nat) (sp : Sp) : Prop :=
  ∀ (A : Around) (outer : List Env) (s : Shared) (H' : Hp) (us : List Value) (vs : List V) (Q : VK), Room k A → Env0 P w K mg base A outer s H' → Frz H H' → Vals vs us → vs.length = n → sp vs H' Q E0 →
    codeAny (model P w) A (.call (.ref f) ⟨us, []⟩) (CR CX0 outer P w H' s Q E0) s
theorem CloH.mono {P : Program} {w : World} {K : PySem.W.Frag} {mg : Str → Option Value} {base : Heap} {k : Nat} {H H1 : Hp} {f : Addr} {n : Nat} {sp : Sp} (c : CloH P w K mg base k H f n sp) (g : Frz H H1) : CloH P w K mg base k H1 f n sp :=
  fun A outer s H' us vs Q hr e0 fz => c A outer s H' us vs Q hr e0 (g.trans fz)
/-! ### def and lambda within a body -/
section
variable {X : Cx} {c P : Addr} {qs : List (Pos × Str)} {pos : Pos} {name qual : Str} {params : Arguments} {scope : Scope}
end
/-! ### the cells of this body, frozen while another def runs -/
def CellOf (X : Cx) (b : Addr) : Prop := ∃ x, X.env.cells.lookup x = some b
def Adopted (X : Cx) (σ : St) (H Hq : Hp) : Prop := (∀ b, ¬ CellOf X b → Hq b = H b) ∧ (∀ b, CellOf X b → H b = none) ∧ (∀ x y c, X.env.cells.lookup x = some c → X.env.cells.lookup y = some c → x = y) ∧ ∀ x c, X.env.cells.lookup x = some c → ∃ o v, Hq c = some (.frz o (.own c)) ∧ o.data = .cell v ∧
  ∀ (i : Nat) y, X.N[i]? = some x → σ[i]? = some (some y) → (X.env.kindOf x = some .cell ∨ X.env.kindOf x = some .free) → ∃ u, RelV y u ∧ v = some u
open Classical in
noncomputable def dropX (X : Cx) (H : Hp) : Hp := fun b => if CellOf X b then none else H b
/-! ### the promise of a function made in a body -/
def InCl (cl : List (Str × Addr)) (b : Addr) : Prop := ∃ x, cl.lookup x = some b
open Classical in
noncomputable def dropL (cl : List (Str × Addr)) (H : Hp) : Hp := fun b => if InCl cl b then none else H b
structure CloScope (own ps cap : List Str) (sc : Scope) : Prop where
  kind : sc.kind = .function
  co : sc.isCoroutine = false
  gen : sc.isGenerator = false
  nocell : ∀ y ∈ sc.names, y.2 ≠ .cell
  pre : own.take ps.length = ps
  nd : ps.Nodup
  par : ∀ x ∈ ps, sc.names.lookup x = some .local
  cap : ∀ x ∈ cap, sc.names.lookup x = some .free
/-- the captured names' values, by what is frozen -/
def Caps (H : Hp) (cl : List (Str × Addr)) (cap : List Str) (cv : List V) : Prop := Paired (fun x v => ∃ c o u, cl.lookup x = some c ∧ H c = some (.frz o (.own c)) ∧ o.data = .cell (some u) ∧ RelV v u) cap cv
section
variable {P : Program} {w : World} {K : PySem.W.Frag} {mg : Str → Option Value} {base : Heap} {A : Around} {outer : List Env} {s : Shared} {H : Hp} {own ps cap : List Str} {qual : Str} {scope : Scope} {cl : List (Str × Addr)} {f : Addr} {cd : Value} {vs cv : List V} {us : List Value}
theorem drop_cells {H : Hp} (hcl : ∀ x c, cl.lookup x = some c → ∃ o v, H c = some (.frz o (.own c)) ∧ o.data = .cell v) {b : Addr} {u : HO} (e : H b = some u) (n : ∀ o a, u ≠ .frz o a) : ¬ InCl cl b := fun ⟨x, z⟩ => by
  obtain ⟨o, v, z2, _⟩ := hcl x b z
  rw [z2] at e; cases e
  exact n _ _ rfl
end
section
variable {prog : Program} {w : World} {A : Around} {R : Result → Shared → Prop} {s : Shared}
end
section
variable {P : Program} {w : World} {K : PySem.W.Frag} {mg : Str → Option Value} {base : Heap} {H : Hp} {own ps cap : List Str} {name qual : Str} {params : Arguments} {scope : Scope} {cl : List (Str × Addr)} {f c' : Addr} {oc : Obj} {ct pm : Value} {cv : List V} {k : Nat} {sp : Sp}
theorem Caps.frz {H H' : Hp} (g : Frz H H') : ∀ {cap : List Str} {cv : List V}, Caps H cl cap cv → Caps H' cl cap cv
  | _, _, .nil => .nil
  | _, _, .cons ⟨c, o, u, e1, e2, e3⟩ t => .cons ⟨c, o, u, e1, g _ _ _ e2, e3⟩ (Caps.frz g t)
end
end L2

set_option Elab.async false
set_option linter.all false
set_option maxRecDepth 100000
/-! THE TOP where functions are made in bodies: the tables of code are tracked -/
namespace L2
open PySem PySem.Spec PyProof.Rows
/-! ### a def whose code object is known -/
structure FunC (K : PySem.W.Frag) (x : Str) (st : Stmt) (f : Addr) (fd : FuncData) (c : Addr) : Prop where
  ex : ∃ (oc : Value) (od : Option Addr) (kV doc pm : Value) (an : Option Addr) (ct : Value) (osl : Array (Option Value)),
    fd = PySem.W.fnOf x x (defArgs st) (defBody st) (defScope st) .none kV doc pm an (.ref c) ct ∧ K.lookup f = some ⟨oc, od, .func fd, osl⟩ ∧ PySem.W.codeIn K (.ref c) x = true
  kp : PySem.W.keepIn K (.ref f) = true
structure DfnC (K : PySem.W.Frag) (mg : Str → Option Value) (x : Str) (st : Stmt) (ps : List Str) (c P : Addr) : Prop where
  ex : ∃ f fd, FunC K x st f fd c ∧ Binds K fd ps [] ∧ mg x = some (.ref f)
  code : KCode K c P
section
variable {P : Program} {w : World} {K : PySem.W.Frag} {mg : Str → Option Value} {base : Heap}
theorem DfnC.cal {x : Str} {st : Stmt} {N ps : List Str} {k : Nat} {sp : Sp} {c Pt : Addr} (d : DfnC K mg x st ps c Pt) (S : FnScope N ps (defScope st)) (len : ∀ vs H Q E, sp vs H Q E → vs.length = ps.length)
    (hbody : ∀ (f : Addr) (A : Around) (outer : List Env) (s : Shared) (H : Hp) (vs : List V) (Q : VK) (E : XK), Room k (A.deeper (envOfC x (defScope st) s.heap.objs.size f (.ref c))) → sp vs H Q E →
      ∃ t, PSs (cxOf CX0 P w K mg base N x (defScope st) f (.ref c) A outer s H E).nox (defBody st) t ∧ t { nx := fun _ H' => Q .non H', rt := Q } (start N vs) H) : Cal P w K mg base (k + 1) x ps sp := by
  obtain ⟨f, fd, F, b, m⟩ := d.ex
  obtain ⟨oc, od, kV, doc, pm, an, ct, osl, rfl, lk, hcd⟩ := F.ex
  refine ⟨f, _, fn_of lk hcd S len fun A outer s H vs Q E hr hsp => ?_, b, F.kp, m⟩
  obtain ⟨t, h, q⟩ := hbody f A outer s H vs Q E hr hsp
  exact ⟨t, h.nox, q⟩
end
/-! ### the tables that are tracked -/
def TabFor (q : Program) (K : PySem.W.Frag) (mg : Str → Option Value) (b : Addr) : Prop := ∃ d ∈ recsOf q, ∃ f oc od fd osl c, mg d.name = some (.ref f) ∧ K.lookup f = some ⟨oc, od, .func fd, osl⟩ ∧ fd.code = .ref c ∧ KCode K c b
theorem DfnC.tab {q : Program} {K : PySem.W.Frag} {mg : Str → Option Value} {x : Str} {st : Stmt} {ps : List Str} {c b : Addr} (d : DfnC K mg x st ps c b) (hx : ((recsOf q).any fun r => r.name == x) = true) : TabFor q K mg b := by
  obtain ⟨r, hr, e⟩ := List.any_eq_true.mp hx
  obtain ⟨f, fd, F, _, m⟩ := d.ex
  obtain ⟨oc, od, kV, doc, pm, an, ct, osl, rfl, lk, hcd⟩ := F.ex
  exact ⟨r, hr, f, oc, od, _, osl, c, by rw [beq_iff_eq.mp e]; exact m, lk, rfl, d.code⟩
def TabsOf (q : Program) (mg : Str → Option Value) (h : Heap) : Prop := ∀ d ∈ recsOf q, ∃ a o fd c P, mg d.name = some (.ref a) ∧ h.get? a = some o ∧ o.data = .func fd ∧ fd.code = .ref c ∧ h.IsCode c P #[] ∧ h.TableAt c P #[]
theorem TabFor.at {q : Program} {K : PySem.W.Frag} {mg : Str → Option Value} {h : Heap} {b : Addr} (t : TabFor q K mg b) (X : K.In h) (T : TabsOf q mg h) : ∃ c, h.TableAt c b #[] := by
  obtain ⟨d, hd, f, oc, od, fd, osl, c, m, lk, ec, kc⟩ := t
  obtain ⟨a, o, fd', c', P', m', ho, hf, hc, _, ta⟩ := T d hd
  rw [m] at m'; cases m'
  rw [X f _ lk] at ho; cases ho
  cases hf
  rw [ec] at hc; cases hc
  obtain ⟨o, vs, _, _, _, _, _, _, _, lk', _, hd', h11, _⟩ := kc
  obtain ⟨⟨o2, vs2, e1, e2, e3, e4⟩, e5⟩ := id ta
  rw [X c o lk'] at e1; cases e1
  rw [hd'] at e3; cases e3
  rw [h11] at e4; cases e4
  exact ⟨c, ta⟩
/-- what is tracked at the head: the script, the tables -/
def OnlyT (ts : List (Addr × List (Pos × Str))) (H : Hp) : Prop := (∀ b, H b = none ∨ (∃ o xs, H b = some (.frz o (.lst xs))) ∨ ∃ qs, ts.lookup b = some qs ∧ H b = some (.tbl qs #[])) ∧ ∀ b qs, ts.lookup b = some qs → H b = some (.tbl qs #[])
theorem OnlyT.tab {ts : List (Addr × List (Pos × Str))} {H : Hp} (h : OnlyT ts H) {b : Addr} {qs : List (Pos × Str)} (e : ts.lookup b = some qs) : TabOk H b qs := ⟨#[], h.2 b qs e⟩
/-! ### calls while names of this body are held in cells -/
def freeOk (env : Env) (sc : Scope) : Bool := sc.names.all fun p => p.2 != .free || (env.kindOf p.1 == some .cell || env.kindOf p.1 == some .free)
theorem freeOk.of {env : Env} {sc : Scope} (h : freeOk env sc = true) : ∀ p ∈ sc.names, p.2 = .free → env.kindOf p.1 = some .cell ∨ env.kindOf p.1 = some .free := fun p hp e => by
  have q := List.all_eq_true.mp h p hp
  rw [e] at q
  simpa using q
def oneOk (qs : List (Pos × Str)) (pos : Pos) (qual : Str) : Bool := qs.any (fun p => p.1.line == pos.line && p.1.col == pos.col && p.1.endLine == pos.endLine && p.1.endCol == pos.endCol && p.2 == qual) && qs.all fun p => p.1.line != pos.line || p.1.col != pos.col || p.2 == qual
theorem oneOk.one {qs : List (Pos × Str)} {pos : Pos} {qual : Str} (h : oneOk qs pos qual = true) : ∀ p ∈ qs, p.1.line = pos.line → p.1.col = pos.col → p.2 = qual := fun p hp e1 e2 => by
  have q := List.all_eq_true.mp (Bool.and_eq_true _ _ ▸ h : _ ∧ _).2 p hp
  rw [e1, e2] at q
  simpa using q
theorem oneOk.mem {qs : List (Pos × Str)} {pos : Pos} {qual : Str} (h : oneOk qs pos qual = true) : (pos, qual) ∈ qs := by
  obtain ⟨p, hp, e⟩ := List.any_eq_true.mp (Bool.and_eq_true _ _ ▸ h : _ ∧ _).1
  simp only [Bool.and_eq_true, beq_iff_eq] at e
  obtain ⟨⟨⟨⟨e1, e2⟩, e3⟩, e4⟩, e5⟩ := e
  have : p = (pos, qual) := by
    obtain ⟨⟨a, b, c, d⟩, z⟩ := p
    obtain ⟨a', b', c', d'⟩ := pos
    simp only at e1 e2 e3 e4 e5
    subst e1 e2 e3 e4 e5
    rfl
  rw [← this]; exact hp
section
variable {X : Cx} {c P : Addr} {qs : List (Pos × Str)} {pos : Pos} {params : Arguments} {scope : Scope}
end
/-! ### what stays -/
open Classical
theorem Adopted.same {X : Cx} {σ : St} {H1 Hq H2 : Hp} (ad : Adopted X σ H1 Hq) (g : Same Hq H2) : Same H1 (dropX X H2) := fun b u e => by
  have hc : ¬ CellOf X b := fun hc => by rw [ad.2.1 b hc] at e; cases e
  show (if CellOf X b then none else H2 b) = some u
  rw [if_neg hc]
  exact g b u (by rw [ad.1 b hc]; exact e)
theorem Adopted.up {X : Cx} {σ : St} {H1 Hq : Hp} (ad : Adopted X σ H1 Hq) : Same H1 Hq := fun b u e => by
  have hc : ¬ CellOf X b := fun hc => by rw [ad.2.1 b hc] at e; cases e
  rw [ad.1 b hc]; exact e
theorem Adopted.keep {X : Cx} {σ : St} {H1 Hq H2 : Hp} (ad : Adopted X σ H1 Hq) (g : Same Hq H2) {b : Addr} {u : HO} (e : H2 b = some u) (n : ∀ o a, u ≠ .frz o a) : dropX X H2 b = some u := by
  have hc : ¬ CellOf X b := fun ⟨x, z⟩ => by
    obtain ⟨o, v, h1, _⟩ := ad.2.2.2 x b z
    rw [g _ _ h1] at e; cases e
    exact n _ _ rfl
  show (if CellOf X b then none else H2 b) = some u
  rw [if_neg hc]; exact e
/-! ### what a function made in a body keeps -/
/-- what is not frozen stays -/
def SameN (H H' : Hp) : Prop := ∀ b u, H b = some u → (∀ o a, u ≠ .frz o a) → H' b = some u
theorem Same.n {H H' : Hp} (g : Same H H') : SameN H H' := fun b u e _ => g b u e
section
variable {cl : List (Str × Addr)} {H : Hp}
/-- cl's cells are frozen in H -/
def ClOk (cl : List (Str × Addr)) (H : Hp) : Prop := ∀ x c, cl.lookup x = some c → ∃ o v, H c = some (.frz o (.own c)) ∧ o.data = .cell v
theorem ClOk.n (hcl : ClOk cl H) : SameN H (dropL cl H) := fun b u e n => by
  show (if InCl cl b then none else H b) = some u
  rw [if_neg (drop_cells hcl e n)]; exact e
theorem ClOk.tab (hcl : ClOk cl H) {P : Addr} {qs : List (Pos × Str)} (T : TabOk H P qs) : TabOk (dropL cl H) P qs := let ⟨ps, e⟩ := T; ⟨ps, hcl.n _ _ e fun _ _ z => nomatch z⟩
theorem ClOk.fn (hcl : ClOk cl H) {f : Addr} {fd : FuncData} (e : H f = some (fnO fd f)) : dropL cl H f = some (fnO fd f) := by
  have nc : ¬ InCl cl f := fun ⟨x, z⟩ => by
    obtain ⟨o, v, z2, z3⟩ := hcl x f z
    rw [z2] at e; cases e
    cases z3
  exact (if_neg nc).trans e
end
section
variable {X : Cx} {H H1 H1' Hq : Hp} {σ : St} {name qual : Str} {params : Arguments} {scope : Scope} {f : Addr} {own ps cap : List Str} {cv : List V} {k : Nat} {sp : Sp}
theorem Made.fn {body : FuncBody} (M : Made X H H1 name qual params body scope f) : ∃ fd, H1 f = some (fnO fd f) := by
  obtain ⟨cl, ct, c', oc, pm, _, _, _, _, h⟩ := M.ex
  exact ⟨_, h⟩
end
end L2

set_option Elab.async false
set_option linter.all false
set_option maxRecDepth 100000
/-! exceptions that leave a def -/
namespace L2
open PySem PySem.Spec PyProof.Rows
/-- a heap without some of its objects -/
def without (h : Heap) : List Addr → Heap
  | [] => h
  | b :: L => without (h.update b fun _ => { cls := .none, data := .freed }) L
theorem freed_none (h : Heap) (a : Addr) : (h.update a fun _ => { cls := .none, data := .freed }).get? a = none := by
  obtain ⟨objs, l⟩ := h
  show (match (objs.modify a fun _ => ({ cls := .none, data := .freed } : Obj))[a]? with
    | some ⟨_, _, .freed, _⟩ => none
    | o => o) = none
  by_cases h : a < objs.size
  · rw [Array.getElem?_eq_getElem (by simpa using h), Array.getElem_modify]
    simp
  · rw [Array.getElem?_eq_none (by simpa using h)]
theorem without_get (b : Addr) : ∀ (L : List Addr) (h : Heap), (without h L).get? b = if b ∈ L then none else h.get? b
  | [], h => by simp [without]
  | c :: L, h => by
    rw [without, without_get b L]
    by_cases hb : b ∈ L
    · rw [if_pos hb, if_pos (List.mem_cons_of_mem _ hb)]
    · rw [if_neg hb]
      by_cases hc : b = c
      · subst hc; rw [if_pos List.mem_cons_self, freed_none]
      · rw [if_neg (by simp [hc, hb]), Heap.get?_update_other _ _ (Ne.symm hc)]
theorem without_in {b : Addr} {L : List Addr} {h : Heap} (hb : b ∈ L) : (without h L).get? b = none := by rw [without_get, if_pos hb]
theorem without_out {b : Addr} {L : List Addr} {h : Heap} (hb : b ∉ L) : (without h L).get? b = h.get? b := by rw [without_get, if_neg hb]
theorem without_stays (h : Heap) (L : List Addr) : (without h L).StaysIn h := fun b o e => by
  by_cases hb : b ∈ L
  · rw [without_in hb] at e; cases e
  · rw [without_out hb] at e; exact e
/-- the frames over another base -/
theorem funs_rebase {h base base' : Heap} : ∀ {l : List Env}, h.FunFrames base l → (∀ b ∈ frs l, base'.get? b = none) → h.FunFrames base' l
  | [], _, _ => trivial
  | env :: rest, ⟨hk, ⟨L, o, hf, hn, ho, hd⟩, hr⟩, k => by
    have e : frs (env :: rest) = L :: frs rest := by show List.filterMap _ (env :: rest) = _; rw [List.filterMap_cons, hf]; rfl
    rw [e] at k
    exact ⟨hk, ⟨L, o, hf, k L List.mem_cons_self, ho, hd⟩, funs_rebase hr fun b hb => k b (List.mem_cons_of_mem _ hb)⟩
/-- the exception at a, of the class cls, and the last entry of its traceback: new against h0, not tracked -/
def Flown (h0 : Heap) (H : Hp) (h : Heap) (a : Addr) (cls : Value) : Prop :=
  ∃ (oe : Obj) (vs : Array Value) (T : Addr) (oT : Obj) (ts : Array Value), h.get? a = some oe ∧ oe.cls = cls ∧ oe.data = .fields vs ∧ vs[1]? = some (.ref T) ∧ T ≠ a ∧ h.get? T = some oT ∧ oT.data = .fields ts ∧ ts[3]? = some .none ∧
    h0.get? a = none ∧ h0.get? T = none ∧ H a = none ∧ H T = none
/-- how an exception lies behind a call -/
def CXE (P : Program) (w : World) : CXT := fun outer H s E e s' => ∃ (a : Addr) (cls : Value) (H' : Hp), e = .ref a ∧ s'.os = s.os ∧ AllBare s'.gens ∧ Un (frs outer) [] H H' s.heap s'.heap ∧ HOk P w H' s'.heap ∧ Flown s.heap H' s'.heap a cls ∧ E cls (some a) H'
theorem objok_there {P : Program} {w : World} {H : Hp} {h : Heap} {a : Addr} {o : HO} (x : ObjOk P w H h a o) : ∃ ob, h.get? a = some ob := by
  induction o with
  | lst xs => obtain ⟨_, _, _, _, e⟩ := x; exact ⟨_, e⟩
  | tup xs => obtain ⟨_, _, _, ob, e, _⟩ := x; exact ⟨_, e⟩
  | dK kvs => obtain ⟨_, _, _, _, ob, _, _, e, _⟩ := x; exact ⟨_, e⟩
  | dT kvs => obtain ⟨_, _, _, _, ob, _, _, e, _⟩ := x; exact ⟨_, e⟩
  | set S n => obtain ⟨ob, _, _, _, e, _⟩ := x; exact ⟨_, e⟩
  | ins C dx fs => obtain ⟨_, _, _, e, _⟩ := x; exact ⟨_, e⟩
  | own _ => exact x
  | xd fs => obtain ⟨_, ⟨ob, es, ep, e, _⟩, _⟩ := x; exact ⟨_, e⟩
  | rng lo hi => obtain ⟨_, _, _, e⟩ := x; exact ⟨_, e⟩
  | frz ob u => exact ⟨_, x.1⟩
  | tbl qs ps => obtain ⟨_, e, _⟩ := x; exact ⟨_, e⟩
  | met f y => exact ⟨_, x⟩
  | ext φ => exact x.2.1
section
variable {X : Cx} {pins : List (Addr × Obj)} {σ : St} {H : Hp} {s : Shared} {Ex : Value → Shared → Prop}
/-- what the frame's leaving gives: from the state in which the exception stands -/
theorem left_cxe {a : Addr} {cls : Value} {E : XK} {h'' : Heap} {L : List Addr} (I : Inv X pins σ H s) (hx : X.ex = []) (hL : ∀ b ∈ L, X.s₀.heap.get? b = none ∧ H b = none)
    (l1 : (without s.heap (frs X.stack ++ L)).StaysIn h'') (l2 : h''.FunFrames (without s.heap (frs X.stack ++ L)) X.stack) (l3 : h''.Traced (without s.heap (frs X.stack ++ L)) a cls)
    (l4 : ∀ b o, s.heap.get? b = some o → (∀ vs, o.data ≠ .fields vs) → ∃ sl, h''.get? b = some { o with slots := sl }) (ha : a ∈ L) (q : E cls (some a) H) :
    CXE X.prog X.w X.outer X.H₀ X.s₀ E (.ref a) { s with heap := h'' } := by
  obtain ⟨oe, vs', T, oT, ts, t1, t2, t3, t4, t5, t6, t7, t8, t9⟩ := l3
  have hTf : T ∉ frs X.stack := fun z => by
    obtain ⟨_, o, e1, e2⟩ := l2.mem z
    rw [t7] at e1; cases e1
    exact e2 _ t8
  have nx : ∀ b, b ∉ X.ex := fun b z => by rw [hx] at z; cases z
  -- what stands in the heap ahead and is tracked, or stood at the entry, stays
  have st : ∀ b o, b ∉ frs X.stack → b ∉ L → s.heap.get? b = some o → h''.get? b = some o := fun b o h1 h2 e => l1 b o (by rw [without_out (fun z => (List.mem_append.mp z).elim h1 h2)]; exact e)
  have out : ∀ b o, X.s₀.heap.get? b = some o → b ∉ frs X.outer → b ∉ frs X.stack := fun b o e h z => by
    rcases List.mem_cons.mp (I.stkSub b z) with w | w
    · exact Nat.ne_of_lt (Nat.lt_of_lt_of_le (Heap.lt_size e) I.ok.above) w
    · exact h w
  have nL : ∀ b o, X.s₀.heap.get? b = some o → b ∉ L := fun b o e z => by rw [(hL b z).1] at e; cases e
  have T0 : X.s₀.heap.get? T = none := by
    cases e : X.s₀.heap.get? T with
    | none => rfl
    | some o =>
      obtain ⟨o', e'⟩ := I.base.there T o e (nx T)
      rw [without_out (fun z => (List.mem_append.mp z).elim hTf (nL T o e))] at t5
      rw [t5] at e'; cases e'
  have HT : H T = none := by
    cases e : H T with
    | none => rfl
    | some o =>
      obtain ⟨o', e'⟩ := objok_there (I.hok T o e)
      by_cases hTL : T ∈ L
      · rw [(hL T hTL).2] at e; cases e
      · rw [without_out (fun z => (List.mem_append.mp z).elim hTf hTL)] at t5
        rw [t5] at e'; cases e'
  refine ⟨a, cls, H, rfl, I.os, I.bare, ⟨fun b o e n hb _ => ?_, fun b o e n hb _ => ?_, fun b o e n _ => I.base.free b o e n (nx b), fun b o e _ => ?_, I.base.tups, I.base.frzs, I.base.tbls⟩, fun b o e => ?_, ⟨oe, vs', T, oT, ts, t1, t2, t3, t4, t6, t7, t8, t9, (hL a ha).1, T0, (hL a ha).2, HT⟩, q⟩
  · exact st b o (out b o e hb) (nL b o e) (I.base.keep b o e n hb (nx b))
  · obtain ⟨sl, e1⟩ := I.base.slot b o e n hb (nx b)
    obtain ⟨_, o', e2, nf⟩ := I.ok.funs.mem hb
    rw [e] at e2; cases e2
    obtain ⟨sl', e3⟩ := l4 b _ e1 nf
    exact ⟨sl', e3⟩
  · obtain ⟨o', e1⟩ := I.base.there b o e (nx b)
    by_cases hb : b ∈ frs X.stack
    · obtain ⟨_, o2, e2, _⟩ := l2.mem hb
      exact ⟨o2, e2⟩
    · exact ⟨o', st b o' hb (nL b o e) e1⟩
  · refine (I.hok b o e).stay (fun c u hc ec => st c u (fun z => ?_) (fun z => ?_) ec) (fun _ z => z) (fun _ _ _ _ _ z => z) fun _ _ z => z
    · have := I.stkFree c z
      rcases hc with rfl | hc
      · rw [this] at e; cases e
      · rw [this] at hc; cases hc
    · have := (hL c z).2
      rcases hc with rfl | hc
      · rw [this] at e; cases e
      · rw [this] at hc; cases hc
/-- the def's own raise: its frame is left -/
theorem leave_first {h' : Heap} {a : Addr} {cls : Value} {vs : List Value} {E : XK} (I : Inv X pins σ H s) (hx : X.ex = []) (hs : X.stack = X.env :: X.outer) (hf : X.env.frame = some X.env.locals) (M : Heap.MadeExcOf s.heap h' a cls vs) (q : E cls (some a) H) :
    wpAny (model X.prog X.w) X.A (leaving X.env (.ref a)) (fun _ s'' => CXE X.prog X.w X.outer X.H₀ X.s₀ E (.ref a) s'') Ex { s with heap := h' } := by
  obtain ⟨t, he, _, _⟩ := M.there
  have I' : Inv X pins σ H { s with heap := h', toks := s.toks } := I.kept M.keeps
  have Ha : H a = none := by
    cases e : H a with
    | none => rfl
    | some o =>
      obtain ⟨o', e'⟩ := objok_there (I.hok a o e)
      rw [M.new] at e'; cases e'
  have s0 : X.s₀.heap.get? a = none := by
    cases e : X.s₀.heap.get? a with
    | none => rfl
    | some o =>
      obtain ⟨o', e'⟩ := I.base.there a o e (fun z => by rw [hx] at z; cases z)
      rw [M.new] at e'; cases e'
  refine wpAny_leaving_first (base := without h' (frs X.stack ++ [a])) (outer := X.outer) (L := X.env.locals) (by rw [← hs]; exact I.ok.frames) (by rw [← hs]; exact funs_rebase I'.stack fun b hb => without_in (List.mem_append_left _ hb)) hf he (without_stays _ _)
    (without_in (List.mem_append_right _ (List.mem_singleton.mpr rfl))) rfl rfl fun h'' ⟨l1, l2, l3, l4⟩ => ?_
  rw [← hs] at l2
  exact left_cxe (L := [a]) I' hx (fun b hb => by rw [List.mem_singleton.mp hb]; exact ⟨s0, Ha⟩) l1 l2 l3 l4 (List.mem_singleton.mpr rfl) q
/-- a callee's exception: this frame is left, too -/
theorem leave_next {s' : Shared} {e : Value} {E E' : XK} (I : Inv X pins σ H s) (hx : X.ex = []) (hs : X.stack = X.env :: X.outer) (hf : X.env.frame = some X.env.locals) (c : CXE X.prog X.w X.stack H s E' e s') (q : ∀ a cls H', E' cls (some a) H' → E cls (some a) H') :
    wpAny (model X.prog X.w) X.A (leaving X.env e) (fun _ s'' => CXE X.prog X.w X.outer X.H₀ X.s₀ E e s'') Ex s' := by
  obtain ⟨a, cls, H', rfl, os, bare, un, hok, ⟨oe, vs, T, oT, ts, t1, t2, t3, t4, t6, t7, t8, t9, n1, n2, h1, h2⟩, ee⟩ := c
  have I' : Inv X pins σ H' s' := I.call' os un hok bare fun b z => nomatch z
  have s0 : ∀ b, s.heap.get? b = none → X.s₀.heap.get? b = none := fun b z => by
    cases e : X.s₀.heap.get? b with
    | none => rfl
    | some o =>
      obtain ⟨o', e'⟩ := I.base.there b o e (fun z => by rw [hx] at z; cases z)
      rw [z] at e'; cases e'
  refine wpAny_leaving_next (base := without s'.heap (frs X.stack ++ [a, T])) (outer := X.outer) (L := X.env.locals) (cls := cls) (by rw [← hs]; exact I.ok.frames) (by rw [← hs]; exact funs_rebase I'.stack fun b hb => without_in (List.mem_append_left _ hb)) hf
    ⟨oe, vs, T, oT, ts, t1, t2, t3, t4, without_in (List.mem_append_right _ (by simp)), t6, t7, t8, t9⟩ (without_stays _ _) (without_in (List.mem_append_right _ (by simp))) fun h'' ⟨l1, l2, l3, l4⟩ => ?_
  rw [← hs] at l2
  exact left_cxe (L := [a, T]) I' hx (fun b hb => by
    simp only [List.mem_cons, List.not_mem_nil, or_false] at hb
    rcases hb with rfl | rfl
    · exact ⟨s0 _ n1, h1⟩
    · exact ⟨s0 _ n2, h2⟩) l1 l2 l3 l4 (by simp) (q _ _ _ ee)
theorem made_free {h' : Heap} {a : Addr} {cls : Value} {vs : List Value} (I : Inv X pins σ H s) (M : Heap.MadeExcOf s.heap h' a cls vs) : H a = none := by
  cases e : H a with
  | none => rfl
  | some o =>
    obtain ⟨o', e'⟩ := objok_there (I.hok a o e)
    rw [M.new] at e'; cases e'
end
/-- a body whose exceptions leave it as E wants -/
structure Rs (X : Cx) (E : XK) : Prop where
  ex : X.ex = []
  st : X.stack = X.env :: X.outer
  fr : X.env.frame = some X.env.locals
  xe : ∀ e s', wpAny (model X.prog X.w) X.A (leaving X.env e) (fun _ s'' => CXE X.prog X.w X.outer X.H₀ X.s₀ E e s'') (fun e' s'' => CXE X.prog X.w X.outer X.H₀ X.s₀ E e' s'') s' → X.xe e s'
/-- a callee's exceptions go on as this body's -/
theorem Rs.passes {X : Cx} {E E' : XK} (R : Rs X E) (q : ∀ a cls H', E' cls (some a) H' → E cls (some a) H') : Passes (CXE X.prog X.w) X E' := fun pins σ H s e s' I c => R.xe e s' (leave_next I R.ex R.st R.fr c q)
def tRaise (E : XK) (cls : Value) (t : TA) : TS := fun D σ H => t σ H fun vs H1 => vs.length ≤ sizeLine ∧ ∀ a, H1 a = none → E cls (some a) H1
theorem ps_raise {X : Cx} {E : XK} {x : Str} {C : Addr} {B newId initId : String} {bm : List Value} {np cpos pos : Pos} {e₀ : Expr} {rest : List Expr} {t : TA} (R : Rs X E) (hc : X.calm = true) (hg : Gl X x) (O : OwnCls x C bm newId X.mg X.base) (FB : ExcBaseFacts B newId initId bm) (ha : PA X (e₀ :: rest) t)
    (he : starEach (e₀ :: rest) X.env = (false, eval e₀ X.env) :: starEach rest X.env := by rfl) (hp : (backTo cpos (starEach rest X.env)).any (·.1) = false := by rfl) (hd : (x == ("__debug__" : Str)) = false := by decide) :
    PS X (.Raise (some (.Call (.Name x np) (e₀ :: rest) [] cpos)) none pos) (tRaise E (.ref C) t) := by
  intro pins s σ H D I h
  obtain ⟨tl, N, nm, q, bs, hdct, sn, sub, ab, col, dd, k0, k1, k2, k3, k5, mN, hC, hN, hni, T⟩ := O.obj
  refine wpAny_Raise_call_subT (C := C) (nm := nm) (q := q) (N := N) (bs := bs) (bm := tl) (hdct := hdct) (sn := sn) (sub := sub) (ab := ab) (col := col) (dd := dd) (k0 := k0) (k1 := k1) (k2 := k2) (k3 := k3) (k5 := k5)
    FB (mN := mN) (T.hasType FB.hasBase) (I.ok.hd hc) (by rw [he]; show (false || (backTo cpos (starEach rest X.env)).any (·.1)) = false; rw [hp]; rfl) hni ?_
  refine thn (pe_glob (v := .ref C) (pos := np) hg O.bound rfl hd pins s σ H (fun v H' => v = .ref C ∧ H' = H) I ⟨rfl, rfl⟩) fun u s1 ⟨v, H1, I1, r1, e1, e2⟩ => ?_
  subst e1 e2
  refine ⟨r1, ?_⟩
  have hh := ha cpos pins s1 σ H1 _ I1 h
  rw [he] at hh ⊢
  refine Calls.evalArgs_plain (thn hh fun us s2 ⟨vs, H2, I2, r2, z, q⟩ => ⟨rfl, by rw [← r2.length]; exact z, I2.bk _ _ hC, hN.keeps I2.bk, T.keeps I2.bk, fun h' a M => R.xe _ _ (leave_first I2 R.ex R.st R.fr M (q a (made_free I2 M)))⟩)
/-- THE RULE for a def that may raise -/
theorem Fun.okE {P : Program} {w : World} {K : PySem.W.Frag} {mg : Str → Option Value} {base : Heap} {x qual : Str} {st : Stmt} {f : Addr} {fd : FuncData} {N ps : List Str} {k : Nat} {sp : Sp} (F : Fun K x qual st f fd) (S : FnScope N ps (defScope st)) (len : ∀ vs H Q E, sp vs H Q E → vs.length = ps.length)
    (hbody : ∀ (cdv : Value) (A : Around) (outer : List Env) (s : Shared) (H : Hp) (vs : List V) (Q : VK) (E : XK), Room k (A.deeper (envOfC qual (defScope st) s.heap.objs.size f cdv)) → sp vs H Q E → Rs (cxOf (CXE P w) P w K mg base N qual (defScope st) f cdv A outer s H E) E →
      ∃ t, PSs (cxOf (CXE P w) P w K mg base N qual (defScope st) f cdv A outer s H E) (defBody st) t ∧ t { nx := fun _ H' => Q .non H', rt := Q } (start N vs) H) : FnOk P w K mg base (CXE P w) (k + 1) f fd ps sp := by
  obtain ⟨oc, od, kV, doc, pm, an, cdv, ct, osl, rfl, lk, hcd⟩ := F.ex
  exact fn_of lk hcd S len fun A outer s H vs Q E hr hsp => hbody cdv A outer s H vs Q E hr hsp ⟨rfl, rfl, rfl, fun _ _ h => h⟩
end L2

set_option Elab.async false
set_option linter.all false
set_option maxRecDepth 100000
/-! exceptions caught -/
namespace L2
open PySem PySem.Spec PyProof.Rows PySem.Calls
section
variable {M : Model} {A : Around} {E : Value → Shared → Prop}
/-- the class at C, an exception's, with its bases bm -/
def ExcAt (h : Heap) (C : Addr) (bm : List Value) : Prop := ∃ nm q N bs hdct sn sub ab col dd k0 k1 k2 k3 k5 newId, h.get? C = some (excClassObj nm q C N bs bm hdct sn sub ab col dd k0 k1 k2 k3 k5 newId)
theorem ExcAt.keeps {h h' : Heap} {C : Addr} {bm : List Value} (x : ExcAt h C bm) (k : ∀ b o, h.get? b = some o → h'.get? b = some o) : ExcAt h' C bm := by
  obtain ⟨nm, q, N, bs, hdct, sn, sub, ab, col, dd, k0, k1, k2, k3, k5, newId, e⟩ := x
  exact ⟨nm, q, N, bs, hdct, sn, sub, ab, col, dd, k0, k1, k2, k3, k5, newId, k _ _ e⟩
end
section
variable {X : Cx} {pins : List (Addr × Obj)} {σ : St} {H : Hp} {s : Shared}
/-- what only the frame's own dict has changed -/
theorem Inv.names {h' : Heap} {j : Nat} {n : Str} {m m' : Str → Option Value} (I : Inv X pins σ H s) (hN : X.N.Nodup) (hj : X.N[j]? = some n) (hn : s.heap.Ns X.env.locals m)
    (hl : ∀ (i : Nat) (x : Str) (v : V), X.N[i]? = some x → σ[i]? = some (some v) → Vis X.env.scope x → ∃ u, RelV v u ∧ Look X.env s.heap m x u) (hn' : h'.Ns X.env.locals m') (hm : ∀ x, x ≠ n → m' x = m x) (hs : Heap.SameBut X.env.locals s.heap h') :
    Inv X pins (σ.set j none) H { s with heap := h' } := by
  have low : ∀ b o, X.s₀.heap.get? b = some o → b ≠ X.env.locals := fun b o e => Nat.ne_of_lt (Nat.lt_of_lt_of_le (Heap.lt_size e) I.ok.above)
  refine ⟨I.ok, I.os, I.bare, ⟨fun b o e k hb hx => (hs.2 b (low b o e)).trans (I.base.keep b o e k hb hx), fun b o e k hb hx => ?_, I.base.free, fun b o e hx => ?_, I.base.tups, I.base.frzs, I.base.tbls⟩, ⟨m', hn', fun i y v e1 e2 e3 => ?_⟩, fun y c e => ?_, I.free, I.freeC, fun p hp => ?_, fun b ob e => ?_, by simpa using I.len⟩
  · obtain ⟨sl, e1⟩ := I.base.slot b o e k hb hx
    exact ⟨sl, (hs.2 b (low b o e)).trans e1⟩
  · obtain ⟨o', e1⟩ := I.base.there b o e hx
    exact ⟨o', (hs.2 b (low b o e)).trans e1⟩
  · by_cases hij : i = j
    · subst hij
      rw [List.getElem?_set_self (by rw [I.len]; exact (List.getElem?_eq_some_iff.mp hj).1)] at e2
      cases e2
    · rw [List.getElem?_set_ne (Ne.symm hij)] at e2
      obtain ⟨u', r', q⟩ := hl i y v e1 e2 e3
      refine ⟨u', r', ?_⟩
      rcases q with ⟨k, e⟩ | ⟨k, c, e, z⟩
      · exact .inl ⟨k, by rw [hm y fun z => hij (nodup_ix hN e1 (z ▸ hj))]; exact e⟩
      · exact .inr ⟨k, c, e, z.sameBut hs (I.cne y c e)⟩
  · obtain ⟨w', z⟩ := I.cell y c e
    exact ⟨w', z.sameBut hs (I.cne y c e)⟩
  · obtain ⟨e, k, ne, nf, d⟩ := I.pin p hp
    exact ⟨(hs.2 p.1 ne).trans e, k, ne, nf, d⟩
  · refine (I.hok b ob e).stay (fun c w' hc q => (hs.2 c ?_).trans q) (fun _ q => q) (fun _ _ _ _ _ q => q) fun _ _ q => q
    rintro rfl
    rcases hc with rfl | hc
    · rw [I.free] at e; cases e
    · rw [I.free] at hc; cases hc
/-- the name is gone -/
theorem unbind_ok {M : Model} {A : Around} {E : Value → Shared → Prop} {j : Nat} {n : Str} {v : V} {Q : Unit → Shared → Prop} (I : Inv X pins σ H s) (hN : X.N.Nodup) (hj : X.N[j]? = some n) (hk : X.env.scope.names.lookup n = some .local) (hv : σ[j]? = some (some v))
    (h : ∀ s', Inv X pins (σ.set j none) H s' → Q () s') : wpAny M A (unbindName X.env n) Q E s := by
  obtain ⟨m, hn, hl⟩ := id I.loc
  obtain ⟨u, r, lk⟩ := hl j n v hj hv (.inl hk)
  have hmn : m n = some u := by
    rcases lk with ⟨_, e⟩ | ⟨k, _⟩
    · exact e
    · rcases k with k | k <;> (have : X.env.kindOf n = some .local := hk; rw [this] at k; cases k)
  exact wpAny_unbindName_local hk hn hmn (by rw [I.ok.kind]; rfl) fun h' u' hn' hs => h _ (I.names hN hj hn hl hn' (fun x hx => if_neg hx) hs)
/-- within an except suite -/
def Cx.held (X : Cx) (a : Addr) : Cx := { X with A := X.A.mark (some (.ref a)), calm := false, xe := fun _ _ => False }
theorem Cx.Ok.held {a : Addr} (ok : X.Ok) : (X.held a).Ok := ⟨ok.mod, ok.kind, ok.glob, ok.blt, ok.above, ok.inj, ok.has, ok.cab, (fun h => nomatch h), ok.frames, ok.stk, ok.exf, ok.bs, ok.bsz, ok.noex, ok.exfs, ok.funs, ok.frf⟩
theorem Inv.held {a : Addr} (I : Inv X pins σ H s) : Inv (X.held a) pins σ H s := ⟨I.ok.held, I.os, I.bare, I.base, I.loc, I.cell, I.free, I.freeC, I.pin, I.hok, I.len⟩
theorem Inv.unheld {a : Addr} (ok : X.Ok) (I : Inv (X.held a) pins σ H s) : Inv X pins σ H s := ⟨ok, I.os, I.bare, I.base, I.loc, I.cell, I.free, I.freeC, I.pin, I.hok, I.len⟩
/-- a new record, until now not tracked, is tracked -/
theorem Inv.adopt {a : Addr} {o : HO} {vs : Array Value} {oe : Obj} (I : Inv X pins σ H s) (ha : H a = none) (h0 : X.s₀.heap.get? a = none) (he : s.heap.get? a = some oe) (hd : oe.data = .fields vs) (hp : ∀ p ∈ X.pn ++ pins, p.1 ≠ a) (new : ObjOk X.prog X.w (upd H a o) s.heap a o) :
    Inv X pins σ (upd H a o) s := by
  have nL : X.env.locals ≠ a := fun z => by
    obtain ⟨m, ⟨ob, es, ep, e, dd, _⟩, _⟩ := I.loc
    rw [z, he] at e; cases e
    rw [hd] at dd; cases dd
  have nC : ∀ x c, X.env.cells.lookup x = some c → c ≠ a := fun x c e z => by
    obtain ⟨v, ob, e1, dd⟩ := I.cell x c e
    rw [z, he] at e1; cases e1
    rw [hd] at dd; cases dd
  have up : ∀ b u, H b = some u → upd H a o b = some u := fun b u e => by rw [upd_ne (fun z => by rw [z, ha] at e; cases e)]; exact e
  refine ⟨I.ok, I.os, I.bare, ⟨I.base.keep, I.base.slot, fun b ob e k hx => ?_, I.base.there, fun b xs e => up _ _ (I.base.tups b xs e), fun b ob u e => up _ _ (I.base.frzs b ob u e), fun b qs ps e => up _ _ (I.base.tbls b qs ps e)⟩, I.loc, I.cell, by rw [upd_ne nL]; exact I.free, fun x c e => by rw [upd_ne (nC x c e)]; exact I.freeC x c e, fun p hpp => ?_, fun b u e => ?_, I.len⟩
  · rw [upd_ne (fun z => by rw [z, h0] at e; cases e)]
    exact I.base.free b ob e k hx
  · obtain ⟨e, k, r⟩ := I.pin p hpp
    exact ⟨e, by rw [upd_ne (hp p hpp)]; exact k, r⟩
  · by_cases hb : b = a
    · subst hb; rw [upd_same] at e; cases e; exact new
    · rw [upd_ne hb] at e
      exact (I.hok b u e).stay (fun _ _ _ q => q) (fun c q => up c _ q) (fun c _ _ _ _ q => up c _ q) fun c xs q => up c _ q
/-- tracked records, and slots of the frames, have changed -/
theorem Inv.touch {h' : Heap} {L : List Addr} {t' : Nat} (I : Inv X pins σ H s) (k : ∀ b o, b ∉ frs X.stack → b ∉ L → s.heap.get? b = some o → h'.get? b = some o) (sl : ∀ b o, b ∈ frs X.stack → s.heap.get? b = some o → ∃ sl, h'.get? b = some { o with slots := sl })
    (hL : ∀ b ∈ L, ∃ φ, H b = some (.ext φ) ∧ φ h' ∧ ∃ o, h'.get? b = some o) : Inv X pins σ H { s with heap := h', toks := t' } := by
  have fr : ∀ b ∈ frs X.stack, H b = none := I.stkFree
  refine I.call' (ch := []) rfl ⟨fun b o e n hb _ => k b o hb (fun z => ?_) e, fun b o e n hb _ => sl b o hb e, fun _ _ _ n _ => n, fun b o e _ => ?_, fun _ _ e => e, fun _ _ _ e => e, fun _ _ _ e => e⟩ (fun b u e => ?_) I.bare fun b z => nomatch z
  · obtain ⟨φ, e', _⟩ := hL b z
    rw [n] at e'; cases e'
  · by_cases hb : b ∈ frs X.stack
    · obtain ⟨q, e'⟩ := sl b o hb e
      exact ⟨_, e'⟩
    · by_cases hl : b ∈ L
      · obtain ⟨_, _, _, o', e'⟩ := hL b hl
        exact ⟨o', e'⟩
      · exact ⟨o, k b o hb hl e⟩
  · by_cases hl : b ∈ L
    · obtain ⟨φ, e', p, o', e''⟩ := hL b hl
      rw [e] at e'; cases e'
      exact ⟨p, ⟨o', e''⟩, (I.hok b _ e).2.2⟩
    · refine (I.hok b u e).stay (fun c w hc ec => k c w (fun z => ?_) (fun z => ?_) ec) (fun _ z => z) (fun _ _ _ _ _ z => z) fun _ _ z => z
      · have := fr c z
        rcases hc with rfl | hc
        · rw [this] at e; cases e
        · rw [this] at hc; cases hc
      · rcases hc with rfl | hc
        · exact hl z
        · obtain ⟨φ, e', _⟩ := hL c z
          rw [hc] at e'; cases e'
/-- an exception's record, a traceback entry's -/
def ExcIs (a : Addr) (cls : Value) (h : Heap) : Prop := ∃ (o : Obj) (vs : Array Value), h.get? a = some o ∧ o.cls = cls ∧ o.data = .fields vs
def TbIs (T : Addr) (h : Heap) : Prop := ∃ (o : Obj) (vs : Array Value), h.get? T = some o ∧ o.data = .fields vs
def excO (a : Addr) (cls : Value) : HO := .ext (ExcIs a cls)
def tbO (T : Addr) : HO := .ext (TbIs T)
theorem exc_ok {P : Program} {w : World} {h : Heap} {H : Hp} {a : Addr} {cls : Value} (x : ExcIs a cls h) : ObjOk P w H h a (excO a cls) :=
  ⟨x, let ⟨o, _, e, _⟩ := x; ⟨o, e⟩, fun h1 h2 ⟨o, vs, e, r⟩ k => ⟨o, vs, k o e, r⟩⟩
theorem tb_ok {P : Program} {w : World} {h : Heap} {H : Hp} {T : Addr} (x : TbIs T h) : ObjOk P w H h T (tbO T) :=
  ⟨x, let ⟨o, _, e, _⟩ := x; ⟨o, e⟩, fun h1 h2 ⟨o, vs, e, r⟩ k => ⟨o, vs, k o e, r⟩⟩
end
section
variable {prog : Program} {w : World} {A : Around} {E : Value → Shared → Prop} {s : Shared} {env : Env}
/-- the exception is noted in the frame that catches it: T its last entry, T2 the new one -/
theorem note_all {base : Heap} {outer : List Env} {L e T : Addr} {oe oT : Obj} {vs ts : Array Value} {Q : Unit → Shared → Prop} (hfr : A.frames = some (env :: outer)) (hl : s.heap.FunFrames base (env :: outer)) (hf : env.frame = some L) (he : s.heap.get? e = some oe) (hd : oe.data = .fields vs) (h1 : vs[1]? = some (.ref T))
    (hTe : T ≠ e) (hT : s.heap.get? T = some oT) (hdT : oT.data = .fields ts) (h3 : ts[3]? = some .none)
    (h : ∀ h', (∀ b o, b ∉ frs (env :: outer) → b ≠ e → b ≠ T → s.heap.get? b = some o → h'.get? b = some o) → (∀ b o, b ∈ frs (env :: outer) → s.heap.get? b = some o → ∃ sl, h'.get? b = some { o with slots := sl }) → TbIs T h' →
      (∃ (oe' : Obj) (vs' : Array Value) (T2 : Addr) (oT2 : Obj) (ts2 : Array Value), h'.get? e = some oe' ∧ oe'.cls = oe.cls ∧ oe'.data = .fields vs' ∧ vs'[1]? = some (.ref T2) ∧ T2 ≠ e ∧ h'.get? T2 = some oT2 ∧ oT2.data = .fields ts2 ∧ ts2[3]? = some .none ∧ s.heap.get? T2 = none) → Q () { s with heap := h' }) :
    wpAny (model prog w) A (noteFrame (.ref e) env) (fun _ s' => wpAny (model prog w) A (setFlight (.ref e) none) Q E s') E s := by
  unfold noteFrame
  simp only [hf]
  refine wpAny_bind (wpAny_field he hd h1 ?_)
  rw [if_pos (show (Value.ref T != Value.none) = true from by simp)]
  refine wpAny_bind (wpAny_field hT hdT h3 ?_)
  rw [if_neg (show ¬ ((Value.none == rawInt L) = true) from by simp [rawInt])]
  refine wpAny_bind (wpAny_setField hT hdT (Array.getElem?_eq_some_iff.mp h3).1 ?_)
  have other : ∀ b, b ≠ T → (s.heap.update T (Obj.mapFields (·.setIfInBounds 3 Value.none))).get? b = s.heap.get? b := fun b hb => Heap.get?_update_other _ _ (Ne.symm hb)
  have hdT' := Obj.data_mapFields hdT (·.setIfInBounds 3 Value.none)
  have hT' := Heap.get?_update_self (Obj.mapFields (·.setIfInBounds 3 Value.none)) hT (Obj.isFreed_of_fields hdT')
  generalize s.heap.update T (Obj.mapFields (·.setIfInBounds 3 Value.none)) = h2 at other hT'
  have nr : ∀ b o, s.heap.get? b = some o → (∀ vs, o.data ≠ .fields vs) → b ≠ T := fun b o hb hnf q => by
    rw [q, hT] at hb; injection hb with hb; subst hb; exact hnf ts hdT
  have hl2 : h2.FunFrames base (env :: outer) := hl.of_keeps fun b o hb hnf => ⟨o, (other b (nr b o hb hnf)).trans hb, rfl⟩
  have fT : T ∉ frs (env :: outer) := fun z => by
    obtain ⟨_, o, e1, e2⟩ := hl.mem z
    rw [hT] at e1; cases e1; exact e2 _ hdT
  have fe : e ∉ frs (env :: outer) := fun z => by
    obtain ⟨_, o, e1, e2⟩ := hl.mem z
    rw [he] at e1; cases e1; exact e2 _ hd
  refine wpAny_newEntry (base := without h2 (frs (env :: outer) ++ [e])) hfr (funs_rebase hl2 fun b hb => without_in (List.mem_append_left _ hb)) hf ((other e (Ne.symm hTe)).trans he) (without_stays _ _) (without_in (List.mem_append_right _ (List.mem_singleton.mpr rfl))) hd (Array.getElem?_eq_some_iff.mp h1).1
    fun h' ⟨x1, x2, x3, x4⟩ => ?_
  have st : ∀ b o, b ∉ frs (env :: outer) → b ≠ e → h2.get? b = some o → h'.get? b = some o := fun b o n1 n2 q => x1 b o (by rw [without_out (fun z => (List.mem_append.mp z).elim n1 fun z => n2 (List.mem_singleton.mp z))]; exact q)
  obtain ⟨oe', vs', T2, oT2, ts2, t1, t2, t3, t4, t5, t6, t7, t8, t9⟩ := x3
  have f2 : T2 ∉ frs (env :: outer) := fun z => by
    obtain ⟨_, o, e1, e2⟩ := x2.mem z
    rw [t7] at e1; cases e1; exact e2 _ t8
  have n2 : h2.get? T2 = none := by rw [without_out (fun z => (List.mem_append.mp z).elim f2 fun z => t6 (List.mem_singleton.mp z))] at t5; exact t5
  have n2T : T2 ≠ T := fun z => by rw [z, hT'] at n2; cases n2
  refine h h' (fun b o b1 b2 b3 q => st b o b1 b2 ((other b b3).trans q)) (fun b o hb q => ?_) ⟨_, _, st T _ fT hTe hT', hdT'⟩ ⟨oe', vs', T2, oT2, ts2, t1, t2, t3, t4, t6, t7, t8, t9, by rw [← other T2 n2T]; exact n2⟩
  obtain ⟨_, o', e1, e2⟩ := hl.mem hb
  rw [q] at e1; cases e1
  exact x4 b o ((other b (nr b o q e2)).trans q) e2
end
section
variable {X : Cx} {pins : List (Addr × Obj)} {σ : St} {H : Hp} {s : Shared} {k : Nat} {fa : Addr} {fd : FuncData} {ps : List Str} {sp : Sp}
/-- a call; its exception as it lies -/
theorem ex_call {Ec : XK} {Q : VK} {Xe : Value → Shared → Prop} {x : Str} {e : Expr} {es : List Expr} {t : TA} {p pos : Pos} (F : FnOk X.prog X.w X.K X.mg X.base (CXE X.prog X.w) k fa fd ps sp) (hr : Room k X.A) (hg : Gl X x) (hm : X.mg x = some (.ref fa)) (hk : PySem.W.keepIn X.K (.ref fa) = true) (hb : Binds X.K fd ps [])
    (ha : PA X.nox (e :: es) t) (I : Inv X pins σ H s) (h : t σ H fun vs H1 => sp vs H1 Q Ec) (hx : ∀ H1 s1 e s', Inv X pins σ H1 s1 → CXE X.prog X.w X.stack H1 s1 Ec e s' → Xe e s')
    (hdb : (x == ("__debug__" : Str)) = false := by decide) (he : starEach (e :: es) X.env = (false, eval e X.env) :: starEach es X.env := by rfl) (hpl : (backTo pos (starEach es X.env)).any (·.1) = false := by rfl) :
    wpAny (model X.prog X.w) X.A (eval (.Call (.Name x p) (e :: es) [] pos) X.env) (EP X pins σ Q) Xe s := by
  refine wpAny_Call_Name_kw (ld_glob I hg hm ?_ hdb)
  refine PySem.W.callWith_K (h₀ := X.base) I.ok.mod.kin hk (wpAny_mono (ha pos pins s σ H _ (I.wish _) h) (fun us s1 ⟨vs, H1, I1, r, q⟩ => ⟨I1.unwish.kIn, ?_⟩) fun _ _ z => False.elim z) he hpl
  have I1' := I1.unwish
  have hl : us.length = ps.length := by rw [← r.length]; exact F.len _ _ _ _ q
  refine wpAny_call (codeAny_mono (F.run X.A X.stack s1 H1 ⟨us, []⟩ us vs Q Ec hr I1'.env0 (by have := hb s1 us I1'.kIn (by rw [List.append_nil]; exact hl); rw [List.append_nil] at this; exact this) r q) fun r s' hq => ?_)
  cases r with
  | error e => exact hx H1 s1 e s' I1' hq
  | ok fl =>
    cases fl with
    | ret u => exact I1'.after hq
    | next => exact False.elim hq
    | brk => exact False.elim hq
    | cont => exact False.elim hq
/-- the caught exception's mark -/
theorem flight_ok {M : Model} {A : Around} {E : Value → Shared → Prop} {a T : Addr} {oe oT : Obj} {vs ts : Array Value} {Q : Unit → Shared → Prop} (I : Inv X pins σ H s) (he : s.heap.get? a = some oe) (hd : oe.data = .fields vs) (h1 : vs[1]? = some (.ref T)) (hT : s.heap.get? T = some oT) (hdT : oT.data = .fields ts) (h3 : 3 < ts.size)
    (tr : H T = some (tbO T)) (h : ∀ h', Inv X pins σ H { s with heap := h' } → Q () { s with heap := h' }) : wpAny M A (setFlight (.ref a) none) Q E s := by
  unfold setFlight
  refine wpAny_bind (wpAny_field he hd h1 ?_)
  rw [if_pos (show (Value.ref T != Value.none) = true from by simp)]
  refine wpAny_setField hT hdT h3 ?_
  have other : ∀ b, b ≠ T → (s.heap.update T (Obj.mapFields (·.setIfInBounds 3 ((none : Option Addr).elim Value.none fun f => rawInt f)))).get? b = s.heap.get? b := fun b hb => Heap.get?_update_other _ _ (Ne.symm hb)
  have hdT' := Obj.data_mapFields hdT (·.setIfInBounds 3 ((none : Option Addr).elim Value.none fun f => rawInt f))
  have hT' := Heap.get?_update_self (Obj.mapFields (·.setIfInBounds 3 ((none : Option Addr).elim Value.none fun f => rawInt f))) hT (Obj.isFreed_of_fields hdT')
  refine h _ (I.touch (L := [T]) (t' := s.toks) (fun b o _ n q => (other b (fun z => n (List.mem_singleton.mpr z))).trans q) (fun b o hb q => ⟨o.slots, (other b (fun z => ?_)).trans q⟩) fun b hb => ?_)
  · have := I.stkFree b hb
    rw [z, tr] at this; cases this
  · rw [List.mem_singleton.mp hb]
    exact ⟨_, tr, ⟨_, _, hT', hdT'⟩, _, hT'⟩
end
end L2

set_option Elab.async false
set_option linter.all false
set_option maxRecDepth 100000
/-! isinstance of a caught exception of an own class -/
namespace L2
open PySem PySem.Spec PyProof.Rows PySem.W
/-- what the class at C must have -/
structure KExc (K : PySem.W.Frag) (C : Addr) : Prop where
  ga : findIn K (.ref C) "__getattribute__" = some (some (.builtin "BaseException.__getattribute__"))
  gn : findIn K (.ref C) "__getattr__" = some none
  cl : findIn K (.ref C) "__class__" = some (some (.builtin "object.__class__"))
  mb : mroIn K C (.type "BaseException") = some true
  mo : mroIn K C (.type "object") = some true
  ic : hasDictIn K C = true
section
variable {prog : Program} {w : World} {A : Around} {E : Value → Shared → Prop} {K : PySem.W.Frag} {h : Heap} {g : Array GenState} {d : Drawn} {t : Nat} {os : OsState} {a C : Addr} {o : Obj}
theorem sub_at {M : Model} {base : Value} {r : Bool} {Q : Bool → Shared → Prop} (X : K.In h) (e : mroIn K C base = some r) (hq : Q r ⟨h, g, d, t, os⟩) : wpAny M A (isSubtype (.ref C) base) Q E ⟨h, g, d, t, os⟩ := looks_mroIn X e A Q E _ (fun _ _ e => e) hq
theorem find_at {M : Model} {v : Value} {n : Str} {r : Option Value} {Q : Option Value → Shared → Prop} (X : K.In h) (e : findIn K v n = some r) (hq : Q r ⟨h, g, d, t, os⟩) : wpAny M A (typeLookup v n) Q E ⟨h, g, d, t, os⟩ := looks_findIn X e A Q E _ (fun _ _ e => e) hq
theorem class_get_exc {R : Result → Shared → Prop} (X : K.In h) (k : KExc K C) (hx : h.get? a = some o) (hc : o.cls = .ref C) (hq : R (.ok (.ret (.ref C))) ⟨h, g, d, t, os⟩) :
    codeAny (model prog w) A (.call (.builtin "getset_descriptor.__get__") ⟨[.builtin "object.__class__", .ref a, .ref C], []⟩) R ⟨h, g, d, t, os⟩ := by
  have hT5 : (⟨h, g, d, t, os⟩ : Shared).TypeIs (.builtin "object.__class__") "getset_descriptor" := F.typeOf_object_class
  have mo : mroIn K C (.type (".".intercalate ("object.__class__".cutAt '.').dropLast)) = some true := by rw [F.owner_object_class]; exact k.mo
  refine codeAny_call_builtin F.slot_gs_get.plain F.entry_gs_get (F.slot_gs_get.check _ _ _ _ _ _ _ _ hT5 (F.args_gs_get _ _ _) ?_)
  repeat (any_goals (first | assumption | (with_reducible refine wpAny_loadPart_at hx ?_; rw [hc]) | (with_reducible refine sub_at X mo ?_) | wp_step))
  refine ⟨Code.quiet_builtin _ (by decide +kernel), codeAny_builtin F.entry_object_class ?_⟩
  repeat (any_goals (first | assumption | (with_reducible refine wpAny_loadPart_at hx ?_; rw [hc]) | wp_step))
theorem check_ga_exc {M : Model} {nameV : Value} {Q : Unit → Shared → Prop} (X : K.In h) (k : KExc K C) (hx : h.get? a = some o) (hc : o.cls = .ref C) (hq : Q () ⟨h, g, d, t, os⟩) : wpAny M A (checkBuiltinCall "BaseException.__getattribute__" ⟨[.ref a, nameV], []⟩) Q E ⟨h, g, d, t, os⟩ := by
  have hk : builtinKind "BaseException.__getattribute__" = some .slot := by decide +kernel
  have hsplit : splitId "BaseException.__getattribute__" = some ("BaseException", "__getattribute__") := by decide +kernel
  have mb := k.mb
  have ha := F.args_bexc_ga (.ref a) nameV
  simp only [checkBuiltinCall, hk, hsplit]
  refine wpAny_bind ?_
  unfold isInstance
  repeat (first | (with_reducible refine wpAny_loadPart_at hx ?_; rw [hc]) | (with_reducible refine sub_at X mb ?_) | wp_step)
  exact hq
theorem class_entry_exc {tk : Tok} {Q : Fin → Shared → Prop} (X : K.In h) (k : KExc K C) (hx : h.get? a = some o) (hc : o.cls = .ref C) (hq : Q (.done (.ret (.ref C))) ⟨h, g, d, t, os⟩) :
    wpAny (model prog w) A (Builtin.«object.__getattribute__» ⟨[.ref a, .str "__class__" tk], []⟩) Q E ⟨h, g, d, t, os⟩ := by
  have hT5 : (⟨h, g, d, t, os⟩ : Shared).TypeIs (.builtin "object.__class__") "getset_descriptor" := F.typeOf_object_class
  have cl := k.cl
  have f5 := F.typeOf_object_class
  have f6 := F.slot_gs_get.lookup
  have f7 := F.slot_gs_set.lookup
  repeat (any_goals (first | assumption | (with_reducible refine wpAny_loadPart_at hx ?_; rw [hc]) | (with_reducible refine find_at X cl ?_) | wp_step))
  refine class_get_exc X k hx hc ?_
  repeat (any_goals (first | assumption | wp_step))
theorem class_by_exc {tk : Tok} {Q : Value → Shared → Prop} (FB : ExcAttrFacts "ValueError") (X : K.In h) (k : KExc K C) (hx : h.get? a = some o) (hc : o.cls = .ref C) (hq : Q (.ref C) ⟨h, g, d, t, os⟩) : wpAny (model prog w) A (getAttrBy (.ref a) (.str "__class__" tk) false) Q E ⟨h, g, d, t, os⟩ := by
  have f3 := FB.ga.bind (.ref a)
  have hx2 : (Value.builtin "BaseException.__getattribute__" == Value.builtin "object.__getattribute__") = false := by decide +kernel
  have ga := k.ga
  have gn := k.gn
  repeat (any_goals (first | assumption | (with_reducible refine wpAny_loadPart_at hx ?_; rw [hc]) | (with_reducible refine find_at X ga ?_) | (with_reducible refine find_at X gn ?_) | wp_step))
  refine codeAny_call_builtin FB.ga.plain F.entry_bexc_ga (check_ga_exc X k hx hc (class_entry_exc X k hx hc ?_))
  repeat (any_goals (first | assumption | wp_step))
theorem class_attr_exc {Q : Option Value → Shared → Prop} (FB : ExcAttrFacts "ValueError") (X : K.In h) (k : KExc K C) (hx : h.get? a = some o) (hc : o.cls = .ref C) (hq : Q (some (.ref C)) ⟨h, g, d, t + 1, os⟩) : wpAny (model prog w) A (getAttr? (.ref a) "__class__") Q E ⟨h, g, d, t, os⟩ := by
  unfold getAttr? getAttrBy?
  repeat (any_goals (first | assumption | with_reducible apply class_by_exc FB X k hx hc | wp_step))
end
theorem kitx_exc {K : PySem.W.Frag} {a C : Addr} (k : KExc K C) : KitX K (.ref a) (.ref C) (fun h => ∃ o, h.get? a = some o ∧ o.cls = .ref C) where
  ty := fun M h _ ⟨o, e, c⟩ => by
    intro A Q E s kk q
    obtain ⟨hp, g, d, t, os⟩ := s
    have e' := kk _ _ e
    repeat (first | (with_reducible refine wpAny_loadPart_at e' ?_; rw [c]) | wp_step)
    exact q
  it := fun _ _ X _ => by
    obtain ⟨cd, hcD, _⟩ := any_some k.ic
    unfold clsIn at hcD
    split at hcD
    · rename_i c' d' cd' sl' ho
      intro A' Q' E' s' kk q
      unfold isType loadHead
      exact wpAny_bind (wpAny_loadPart (kk _ _ (X _ _ ho)) (wpAny_pure q))
    · cases hcD
  ne := fun h tp dd its n sl X htp => by
    obtain ⟨cd, hcD, _⟩ := any_some k.ic
    refine Bool.eq_false_iff.mpr fun q => ?_
    have e : C = tp := Value.ref.inj (beq_iff_eq.mp q)
    subst e
    unfold clsIn at hcD
    split at hcD
    · rename_i c' d' cd' sl' ho
      have z := (X _ _ ho).symm.trans htp
      cases z
    · cases hcD
  ca := fun {_ _ _ _ _ s} X p q => by
    obtain ⟨hp, g, d, t, os⟩ := s
    obtain ⟨o, e, c⟩ := p
    exact class_attr_exc F.excAttr_ValueError X k e c q
def rIsX (K : PySem.W.Frag) : List V → Hp → VK → Prop := fun xs H Q => ∃ a C S b, xs = [.ref a, .ref S] ∧ H a = some (excO a (.ref C)) ∧ KExc K C ∧ kitOne K (.ref C) (.ref S) = some b ∧ Q (.bl b) H
def rIsXT (K : PySem.W.Frag) : List V → Hp → VK → Prop := fun xs H Q => ∃ a C T b, xs = [.ref a, .ty T] ∧ H a = some (excO a (.ref C)) ∧ KExc K C ∧ kitOne K (.ref C) (.type T) = some b ∧ Q (.bl b) H
theorem exc_at {X : Cx} {pins : List (Addr × Obj)} {σ : St} {H : Hp} {s : Shared} {a : Addr} {cls : Value} (I : Inv X pins σ H s) (e : H a = some (excO a cls)) : ∃ o, s.heap.get? a = some o ∧ o.cls = cls :=
  let ⟨⟨o, _, h1, h2, _⟩, _, _⟩ := (show ObjOk X.prog X.w H s.heap a (excO a cls) from I.hok a _ e)
  ⟨o, h1, h2⟩
theorem call_isx {X : Cx} : CallR X (.builtin "isinstance") (rIsX X.K) := by
  intro pins s σ H xs us Q I r h
  obtain ⟨a, C, S, b, rfl, ea, k, e, q⟩ := h
  obtain ⟨u, w', rfl, rx, ry⟩ := vals2 r
  cases (show w' = Value.ref S from ry)
  cases (show u = Value.ref a from rx)
  exact kia_one (kitx_exc k) I.kIn (exc_at I ea) e (fun z => nomatch z) fun tk => ⟨.bl b, H, I.tok _, rfl, q⟩
theorem call_isxT {X : Cx} : CallR X (.builtin "isinstance") (rIsXT X.K) := by
  intro pins s σ H xs us Q I r h
  obtain ⟨a, C, T, b, rfl, ea, k, e, q⟩ := h
  obtain ⟨u, w', rfl, rx, ry⟩ := vals2 r
  cases (show w' = Value.type T from ry)
  cases (show u = Value.ref a from rx)
  exact kia_one (kitx_exc k) I.kIn (exc_at I ea) e (fun z => nomatch z) fun tk => ⟨.bl b, H, I.tok _, rfl, q⟩
end L2

set_option Elab.async false
set_option linter.all false
set_option maxRecDepth 100000
/-! classes of exceptions by what the linked text holds of them -/
namespace L2
open PySem PySem.Spec PyProof.Rows PySem.W PySem.Calls
section
variable {M : Model} {A : Around} {E : Value → Shared → Prop} {K : PySem.W.Frag} {h : Heap} {g : Array GenState} {d : Drawn} {t : Nat} {os : OsState}
theorem type_at {v c : Value} {Q : Value → Shared → Prop} (X : K.In h) (e : typeIn K v = some c) (hq : Q c ⟨h, g, d, t, os⟩) : wpAny M A (typeOf v) Q E ⟨h, g, d, t, os⟩ := looks_typeIn X e A Q E _ (fun _ _ e => e) hq
/-- a class that an except clause may name -/
structure KSup (K : PySem.W.Frag) (S : Addr) : Prop where
  ty : typeIn K (.ref S) = some (.type "type")
  mb : mroIn K S (.type "BaseException") = some true
  ic : hasDictIn K S = true
theorem excMatches_K {e C S : Addr} {oe : Obj} {Q : Bool → Shared → Prop} (X : K.In h) (k : KSup K S) (he : h.get? e = some oe) (hcls : oe.cls = .ref C) (ms : mroIn K C (.ref S) = some true) (hq : Q true ⟨h, g, d, t, os⟩) : wpAny M A (excMatches (.ref e) (.ref S)) Q E ⟨h, g, d, t, os⟩ := by
  have ty := k.ty
  have mb := k.mb
  have f := tc_notTuple
  obtain ⟨cd, hcd, _⟩ := any_some k.ic
  unfold clsIn at hcd
  split at hcd
  · rename_i c' d' cd' sl' ho
    have hS := X _ _ ho
    unfold excMatches
    repeat (first | (with_reducible refine wpAny_loadPart_at he ?_; rw [hcls]) | (with_reducible refine type_at X ty ?_) | with_reducible refine wpAny_loadPart_at hS ?_ | (with_reducible refine sub_at X mb ?_) | (with_reducible refine sub_at X ms ?_) | wp_step)
    exact hq
  · cases hcd
end
section
variable {prog : Program} {w : World} {A : Around} {E : Value → Shared → Prop} {s : Shared} {env : Env}
theorem handle_as {K : PySem.W.Frag} {a C S : Addr} {t : Expr} {n : Str} {b₀ : Stmt} {suite : List Stmt} {pos : Pos} {rest : List ExceptHandler} {Q : Flow → Shared → Prop} (k : KSup K S) (ms : mroIn K C (.ref S) = some true)
    (h : wpAny (model prog w) (A.mark (some (.ref a))) (eval t env) (fun c s₁ => c = .ref S ∧ K.In s₁.heap ∧ (∃ oe, s₁.heap.get? a = some oe ∧ oe.cls = .ref C) ∧
      wpAny (model prog w) (A.mark (some (.ref a))) (setFlight (.ref a) none) (fun _ s₂ => wpAny (model prog w) (A.mark (some (.ref a))) (storeName env n (.ref a)) (fun _ s₃ => wpAny (model prog w) (A.mark (some (.ref a))) (execs (b₀ :: suite) env)
        (fun f s₄ => wpAny (model prog w) A (do bindName env n .none; unbindBehindTheSuite env n pos) (fun _ s₅ => Q f s₅) E s₄) (fun _ _ => False) s₃) (fun _ _ => False) s₂) (fun _ _ => False) s₁) (fun _ _ => False) s) :
    wpAny (model prog w) A (handleBy (.ref a) env (.ExceptHandler (some t) (some n) (b₀ :: suite) pos :: rest)) Q E s := by
  refine wpAny_handleBy_cons (codeAny_handlers_test (wpAny_mono h (fun c s₁ h₁ => ?_) fun _ _ y => False.elim y)) (by intro q; cases q)
  obtain ⟨rfl, KI, ⟨oe, he, hcls⟩, hk⟩ := h₁
  obtain ⟨hh, g, d, tk, os⟩ := s₁
  refine excMatches_K KI k he hcls ms (codeAny_handlers_suite_as ?_)
  exact wpAny_mono hk (fun _ s₂ h₂ => wpAny_mono h₂ (fun _ s₃ h₃ => wpAny_mono h₃ (fun _ _ y => y) fun _ _ y => False.elim y) fun _ _ y => False.elim y) fun _ _ y => False.elim y
end
section
variable {X : Cx} {pins : List (Addr × Obj)} {σ : St} {H : Hp} {s : Shared} {k : Nat} {fa : Addr} {fd : FuncData} {ps : List Str} {sp : Sp}
end
/-- an exception's class out of the linked text -/
theorem own_K {K : PySem.W.Frag} {h : Heap} {mg : Str → Option Value} {x : Str} {C : Addr} {bmB : List Value} {newId : String} (X : K.In h) (hm : mg x = some (.ref C)) (q : excIn K C bmB newId = true) : OwnCls x C bmB newId mg h := by
  refine ⟨hm, ?_⟩
  unfold excIn at q
  split at q
  · rename_i dd cd sl ho
    split at q
    · rename_i C' bm k0 k1 k2 k3 n k5 e1 e2
      simp only [Bool.and_eq_true, beq_iff_eq, Bool.not_eq_true'] at q
      obtain ⟨⟨⟨⟨⟨z1, z2⟩, z3⟩, z4⟩, z5⟩, z6⟩ := q
      have hC := X _ _ ho
      obtain ⟨nm, bs, mro, ns, qn, hd, sn, sub, ab, col, del⟩ := cd
      simp only at e1 z3 z5 z6
      subst e1 z1 z2 z3
      obtain ⟨l⟩ := sl
      simp only at e2
      subst e2
      exact ⟨bm, ns, nm, qn, bs, hd, sn, sub, ab, col, dd, k0, k1, k2, k3, k5, _, hC, .of_isNs (isNs_of_in X z5), nsMap_none_of_in X z5 z6, tail_of_in X z4⟩
    · cases q
  · cases q
theorem ps_raiseK {X : Cx} {E : XK} {x : Str} {C : Addr} {B newId initId : String} {bm : List Value} {np cpos pos : Pos} {e₀ : Expr} {rest : List Expr} {t : TA} (R : Rs X E) (hc : X.calm = true) (hg : Gl X x) (hm : X.mg x = some (.ref C)) (hq : excIn X.K C bm newId = true) (FB : ExcBaseFacts B newId initId bm) (ha : PA X (e₀ :: rest) t)
    (he : starEach (e₀ :: rest) X.env = (false, eval e₀ X.env) :: starEach rest X.env := by rfl) (hp : (backTo cpos (starEach rest X.env)).any (·.1) = false := by rfl) (hd : (x == ("__debug__" : Str)) = false := by decide) :
    PS X (.Raise (some (.Call (.Name x np) (e₀ :: rest) [] cpos)) none pos) (tRaise E (.ref C) t) := fun pins s σ H D I h =>
  ps_raise R hc hg (own_K I.ok.mod.kin hm hq) FB ha he hp hd pins s σ H D I h
/-- a def that may raise, and its promise -/
structure CalE (P : Program) (w : World) (K : PySem.W.Frag) (mg : Str → Option Value) (base : Heap) (n : Nat) (x : Str) (ps : List Str) (sp : Sp) : Prop where
  ex : ∃ f fd, FnOk P w K mg base (CXE P w) n f fd ps sp ∧ Binds K fd ps [] ∧ PySem.W.keepIn K (.ref f) = true ∧ mg x = some (.ref f)
theorem Dfn.calE {P : Program} {w : World} {K : PySem.W.Frag} {mg : Str → Option Value} {base : Heap} {x : Str} {st : Stmt} {N ps : List Str} {k : Nat} {sp : Sp} (d : Dfn K mg x st ps) (S : FnScope N ps (defScope st)) (len : ∀ vs H Q E, sp vs H Q E → vs.length = ps.length)
    (hbody : ∀ (f : Addr) (cdv : Value) (A : Around) (outer : List Env) (s : Shared) (H : Hp) (vs : List V) (Q : VK) (E : XK), Room k (A.deeper (envOfC x (defScope st) s.heap.objs.size f cdv)) → sp vs H Q E → Rs (cxOf (CXE P w) P w K mg base N x (defScope st) f cdv A outer s H E) E →
      ∃ t, PSs (cxOf (CXE P w) P w K mg base N x (defScope st) f cdv A outer s H E) (defBody st) t ∧ t { nx := fun _ H' => Q .non H', rt := Q } (start N vs) H) : CalE P w K mg base (k + 1) x ps sp := by
  obtain ⟨f, fd, F, b, m⟩ := d.ex
  exact ⟨f, fd, F.okE S len (hbody f), b, F.kp, m⟩
/-- a statement that raises nothing -/
theorem PS.nox {X : Cx} {st : Stmt} {t : TS} (h : PS X.nox st t) : PS X st t := fun pins s σ H D I hw =>
  wpAny_mono (h pins s σ H D (I.wish _) hw) (fun _ _ q => q.unwish) fun _ _ z => False.elim z
theorem call_isxK {X : Cx} (K : PySem.W.Frag) (h : X.K = K := by rfl) : CallR X (.builtin "isinstance") (rIsX K) := h ▸ call_isx
theorem call_isxTK {X : Cx} (K : PySem.W.Frag) (h : X.K = K := by rfl) : CallR X (.builtin "isinstance") (rIsXT K) := h ▸ call_isxT
end L2

set_option Elab.async false
set_option linter.all false
set_option maxRecDepth 100000
/-! try: f(..) except C: suite, without a name; a callee's exceptions that go on -/
namespace L2
open PySem PySem.Spec PyProof.Rows PySem.W PySem.Calls
section
variable {prog : Program} {w : World} {A : Around} {E : Value → Shared → Prop} {s : Shared} {env : Env}
end
section
variable {X : Cx} {pins : List (Addr × Obj)} {σ : St} {H : Hp} {s : Shared} {k : Nat} {fa : Addr} {fd : FuncData} {ps : List Str} {sp : Sp}
end
theorem passE0 {X : Cx} : Passes (CXE X.prog X.w) X E0 := fun pins σ H s e s' I c => by
  obtain ⟨a, cls, H2, rfl, os, bare, un, hok, _, ee⟩ := c
  exact False.elim ee
/-- a call of a def that may raise, and here does not -/
theorem pe_callEn {X : Cx} {n k : Nat} {x : Str} {ps : List Str} {sp : Sp} {p pos : Pos} {e : Expr} {es : List Expr} {t : TA} (C : CalE X.prog X.w X.K X.mg X.base n x ps sp) (hr : Room k X.A) (hle : n ≤ k) (hg : Gl X x) (ha : PA X (e :: es) t) (hdb : (x == ("__debug__" : Str)) = false := by decide)
    (h1 : notStar e = true := by rfl) (h2 : es.all notStar = true := by rfl) : PE X (.Call (.Name x p) (e :: es) [] pos) (tCall sp [] E0 t) := by
  obtain ⟨f, fd, F, b, kp, m⟩ := C.ex
  exact pe_call F (hr.mono hle) hg m kp b .nil passE0 ha hdb (star_cons h1) (star_any h2)
end L2

set_option Elab.async false
set_option linter.all false
set_option maxRecDepth 100000
/-! try: f(..) except C as n: suite; texts in order -/
namespace L2
open PySem PySem.Spec PyProof.Rows PySem.W PySem.Calls
section
variable {X : Cx} {pins : List (Addr × Obj)} {σ : St} {H : Hp} {s : Shared} {k : Nat} {fa : Addr} {fd : FuncData} {ps : List Str} {sp : Sp}
def tTryA (K : PySem.W.Frag) (S : Addr) (sp : Sp) (j : Nat) (t : TA) (ts : TS) : TS := fun D σ H => t σ H fun vs H1 => sp vs H1 (fun v H2 => D.nx σ H2) fun cls oa H2 => ∀ a, oa = some a → ∃ C, cls = .ref C ∧ mroIn K C (.ref S) = some true ∧
  ∀ H3, Same H2 H3 → H3 a = some (excO a cls) → ts { nx := fun σ' H' => (∃ v, σ'[j]? = some (some v)) ∧ D.nx (σ'.set j none) H', rt := fun _ _ => False } (σ.set j (some (.ref a))) H3
end
theorem op_le_str {X : Cx} : OpR X (compareOp .LtE) (fun x y H Q => ∃ i j, x = .str i ∧ y = .str j ∧ Q (.bl (!(decide (j.cps.toList < i.cps.toList)))) H) := by
  intro pins s σ H x y v u Q I rx ry h
  obtain ⟨i, j, rfl, rfl, q⟩ := h
  obtain ⟨t, rfl⟩ := rx
  obtain ⟨t', rfl⟩ := ry
  exact PySem.P.le_str (fin_bl I q rfl)
/-- isinstance(e, (A, B, ..)) of a caught exception -/
def rIsXP (K : PySem.W.Frag) : List V → Hp → VK → Prop := fun xs H Q => ∃ (a C tp : Addr) (Cs : List Addr) (b : Bool), xs = [.ref a, .ref tp] ∧ H a = some (excO a (.ref C)) ∧ KExc K C ∧ H tp = some (.tup (Cs.map V.ref)) ∧ kitAny K (.ref C) (Cs.map Value.ref) = some b ∧ Q (.bl b) H
end L2

set_option Elab.async false
set_option linter.all false
set_option maxRecDepth 100000
/-! try: a statement, f(..), except C as n: suite; list.extend(tuple), str.upper, list.pop() -/
namespace L2
open PySem PySem.Spec PyProof.Rows PySem.W PySem.Calls
section
variable {X : Cx} {pins : List (Addr × Obj)} {σ : St} {H : Hp} {s : Shared} {k : Nat} {fa : Addr} {fd : FuncData} {ps : List Str} {sp : Sp}
def tTry2A (K : PySem.W.Frag) (S : Addr) (sp : Sp) (j : Nat) (tb : TS) (t : TA) (ts : TS) : TS := fun D σ H => tb { nx := fun σ1 H1 => tTryA K S sp j t ts D σ1 H1, rt := fun _ _ => False } σ H
theorem ps_try2A {f c n : Str} {j : Nat} {S : Addr} {e : Expr} {es : List Expr} {t : TA} {ts : TS} {np cpos apos cp hpos pos : Pos} {b₀ st1 : Stmt} {tb : TS} {suite : List Stmt} (hb1 : PS X.nox st1 tb) (F : FnOk X.prog X.w X.K X.mg X.base (CXE X.prog X.w) k fa fd ps sp) (hr : Room k X.A) (hg : Gl X f) (hm : X.mg f = some (.ref fa))
    (hkp : PySem.W.keepIn X.K (.ref fa) = true) (hb : Binds X.K fd ps []) (ha : PA X.nox (e :: es) t) (hgS : Gl X c) (hmS : X.mg c = some (.ref S)) (kS : KSup X.K S)
    (hx : X.ex = []) (hst : X.stack = X.env :: X.outer) (hfr : X.env.frame = some X.env.locals) (hN : X.N.Nodup) (hj : X.N[j]? = some n) (hnl : X.env.scope.names.lookup n = some .local) (hsu : ∀ a, PSs (X.held a) (b₀ :: suite) ts)
    (hs : swapsWith (.Call (.Name f np) (e :: es) [] cpos) none apos.line X.env = pure false := by rfl) (hdb : (f == ("__debug__" : Str)) = false := by decide)
    (hdc : (c == ("__debug__" : Str)) = false := by decide) (he : starEach (e :: es) X.env = (false, eval e X.env) :: starEach es X.env := by rfl) (hpl : (backTo cpos (starEach es X.env)).any (·.1) = false := by rfl) :
    PS X (.Try [st1, .Expr (.Call (.Name f np) (e :: es) [] cpos) apos] [.ExceptHandler (some (.Name c cp)) (some n) (b₀ :: suite) hpos] [] [] pos) (tTry2A X.K S sp j tb t ts) := by
  intro pins s0 σ0 H0 D I0 h0
  refine wpAny_Try_except (wpAny_execs_cons (wpAny_mono (hb1 pins s0 σ0 H0 _ (I0.wish _) h0) (fun fl s hp0 => ?_) fun _ _ z => False.elim z))
  have hp0 := hp0.unwish
  cases fl with
  | brk => obtain ⟨_, _, _, z⟩ := hp0; exact False.elim z
  | cont => obtain ⟨_, _, _, z⟩ := hp0; exact False.elim z
  | ret u => obtain ⟨_, _, _, _, _, z⟩ := hp0; exact False.elim z
  | next =>
  obtain ⟨σ, H, I, h⟩ := hp0
  refine (wpAny_execs_cons (wpAny_Expr_any (wpAny_mono (ex_call F hr hg hm hkp hb ha I h (Xe := _) (fun H1 s1 ev s' I1 cx => ?_) hdb he hpl) (fun v s1 ⟨y, H1, I1, r1, q1⟩ => ?_) fun _ _ z => z) I.quiet hs))
  · -- an exception
    obtain ⟨a, cls, H2, rfl, os, bare, un, hok, ⟨oe, vs, T, oT, tts, t1, t2, t3, t4, t6, t7, t8, t9, n1, n2, h1, h2⟩, ee⟩ := cx
    obtain ⟨C, rfl, ms, ht⟩ := ee a rfl
    have I2 : Inv X pins σ H2 s' := I1.call' (ch := []) os un hok bare fun b z => nomatch z
    have nex : ∀ b, b ∉ X.ex := fun b z => by rw [hx] at z; cases z
    have s0 : ∀ b, s1.heap.get? b = none → X.s₀.heap.get? b = none := fun b z => by
      cases q : X.s₀.heap.get? b with
      | none => rfl
      | some o =>
        obtain ⟨o', e'⟩ := I1.base.there b o q (nex b)
        rw [z] at e'; cases e'
    have pn : ∀ b, s1.heap.get? b = none → ∀ p ∈ X.pn ++ pins, p.1 ≠ b := fun b z p hp q => by
      have := (I1.pin p hp).1
      rw [q, z] at this; cases this
    have I3 := I2.adopt (o := excO a (.ref C)) h1 (s0 a n1) t1 t3 (pn a n1) (exc_ok ⟨oe, vs, t1, t2, t3⟩)
    have h2' : upd H2 a (excO a (.ref C)) T = none := by rw [upd_ne t6]; exact h2
    have I4 := I3.adopt (o := tbO T) h2' (s0 T n2) t7 t8 (pn T n2) (tb_ok ⟨oT, tts, t7, t8⟩)
    refine note_all (base := X.base) (outer := X.outer) (L := X.env.locals) (T := T) (by rw [← hst]; exact I.ok.frames) (by rw [← hst]; exact I2.stack) hfr t1 t3 t4 t6 t7 t8 t9 fun h'' kk sl tb ⟨oe', vs', T2, oT2, ts2, u1, u2, u3, u4, u5, u6, u7, u8, u9⟩ => ?_
    rw [← hst] at kk sl
    have ea4 : upd (upd H2 a (excO a (.ref C))) T (tbO T) a = some (excO a (.ref C)) := by rw [upd_ne (Ne.symm t6), upd_same]
    have I5 := I4.touch (L := [a, T]) (t' := s'.toks) (h' := h'') (fun b o b1 b2 q => kk b o b1 (fun z => b2 (by simp [z])) (fun z => b2 (by simp [z])) q) sl fun b hb => by
      simp only [List.mem_cons, List.not_mem_nil, or_false] at hb
      rcases hb with rfl | rfl
      · exact ⟨_, ea4, ⟨oe', vs', u1, u2.trans t2, u3⟩, _, u1⟩
      · obtain ⟨o, w, e1, e2⟩ := id tb
        exact ⟨_, upd_same, tb, o, e1⟩
    have T2n : s1.heap.get? T2 = none := by
      cases q : s1.heap.get? T2 with
      | none => rfl
      | some o =>
        obtain ⟨o', e'⟩ := un.there T2 o q (fun z => nomatch z)
        rw [u9] at e'; cases e'
    have T2T : T2 ≠ T := fun z => by rw [z, t7] at u9; cases u9
    have HT2 : upd (upd H2 a (excO a (.ref C))) T (tbO T) T2 = none := by
      rw [upd_ne T2T, upd_ne u5]
      cases q : H2 T2 with
      | none => rfl
      | some o =>
        obtain ⟨o', e'⟩ := objok_there (hok T2 o q)
        rw [u9] at e'; cases e'
    have I6 := I5.adopt (o := tbO T2) HT2 (s0 T2 T2n) u6 u7 (pn T2 T2n) (tb_ok ⟨oT2, ts2, u6, u7⟩)
    generalize eH : upd (upd (upd H2 a (excO a (.ref C))) T (tbO T)) T2 (tbO T2) = H3 at I6
    have g3 : Same H2 H3 := by rw [← eH]; exact (same_upd h1 _).trans ((same_upd h2' _).trans (same_upd HT2 _))
    have ea3 : H3 a = some (excO a (.ref C)) := by rw [← eH, upd_ne (Ne.symm u5)]; exact ea4
    have eT3 : H3 T2 = some (tbO T2) := by rw [← eH]; exact upd_same
    refine handle_as kS ms (ld_glob (X := X.held a) (I6.held (a := a)) hgS hmS ⟨rfl, I6.kIn, ⟨oe', u1, u2.trans t2⟩, ?_⟩ hdc)
    refine flight_ok I6 u1 u3 u4 u6 u7 (Array.getElem?_eq_some_iff.mp u8).1 eT3 fun h7 I7 => ?_
    refine store_ok (v := V.ref a) I7 hN hj (.inl hnl) rfl (fun s8 I8 => ?_) (.inr hnl)
    refine wpAny_mono (hsu a pins s8 _ H3 _ (I8.held (a := a)) (ht H3 g3 ea3)) (fun fl s9 hp => ?_) fun _ _ z => False.elim z
    cases fl with
    | next =>
      obtain ⟨σ9, H9, I9, ⟨v, hv⟩, q9⟩ := hp
      have I9' := I9.unheld I.ok
      refine wpAny_bind (wpAny_bindName (store_ok (v := V.non) I9' hN hj (.inl hnl) rfl (fun s10 I10 => ?_) (.inr hnl)))
      unfold unbindBehindTheSuite
      refine wpAny_onRaise (unbind_ok (v := V.non) I10 hN hj hnl (List.getElem?_set_self (by rw [I9'.len]; exact (List.getElem?_eq_some_iff.mp hj).1)) fun s11 I11 => ?_)
      rw [List.set_set] at I11
      exact ⟨_, H9, I11, q9⟩
    | brk => obtain ⟨_, _, _, z⟩ := hp; exact False.elim z
    | cont => obtain ⟨_, _, _, z⟩ := hp; exact False.elim z
    | ret u => obtain ⟨_, _, _, _, _, z⟩ := hp; exact False.elim z
  · exact wpAny_execs_nil (wpAny_execs_nil ⟨_, H1, I1, q1⟩)
end
theorem ps_try2AC {X : Cx} {k m : Nat} {f c n : Str} {j : Nat} {S : Addr} {ps : List Str} {sp : Sp} {e : Expr} {es : List Expr} {t : TA} {ts : TS} {np cpos apos cp hpos pos : Pos} {b₀ st1 : Stmt} {tb : TS} {suite : List Stmt} (hb1 : PS X.nox st1 tb) (C : CalE X.prog X.w X.K X.mg X.base m f ps sp) (hr : Room k X.A) (hle : m ≤ k) (hg : Gl X f)
    (ha : PA X.nox (e :: es) t) (hgS : Gl X c) (hmS : X.mg c = some (.ref S)) (kS : KSup X.K S) (hx : X.ex = []) (hst : X.stack = X.env :: X.outer) (hfr : X.env.frame = some X.env.locals) (hN : X.N.Nodup) (hj : X.N[j]? = some n)
    (hnl : X.env.scope.names.lookup n = some .local) (hsu : ∀ a, PSs (X.held a) (b₀ :: suite) ts)
    (hs : swapsWith (.Call (.Name f np) (e :: es) [] cpos) none apos.line X.env = pure false := by rfl) (hdb : (f == ("__debug__" : Str)) = false := by decide)
    (hdc : (c == ("__debug__" : Str)) = false := by decide) (h1 : notStar e = true := by rfl) (h2 : es.all notStar = true := by rfl) :
    PS X (.Try [st1, .Expr (.Call (.Name f np) (e :: es) [] cpos) apos] [.ExceptHandler (some (.Name c cp)) (some n) (b₀ :: suite) hpos] [] [] pos) (tTry2A X.K S sp j tb t ts) := by
  obtain ⟨fa, fd, F, b, kp, mm⟩ := C.ex
  exact ps_try2A hb1 F (hr.mono hle) hg mm kp b ha hgS hmS kS hx hst hfr hN hj hnl hsu hs hdb hdc (star_cons h1) (star_any h2)
def rUpper : V → List V → Hp → VK → Prop := fun x vs H Q => ∃ z, x = .str z ∧ vs = [] ∧ Builtin.Str.tooLong (Txt.upper z).length = false ∧ Q (.str (Txt.upper z)) H
theorem mt_upper {X : Cx} : MtR X "str.upper" rUpper := by
  intro pins s σ H x xs v us Q I rx rs h
  obtain ⟨z, rfl, rfl, hf, q⟩ := h
  obtain ⟨t, rfl⟩ := rx
  cases rs
  exact SC.upper hf ⟨.str _, H, I.tok _, ⟨_, rfl⟩, q⟩
end L2
namespace PySem
open AutoSeq1
theorem list_extend_tup (l b : Addr) (items items2 : Array Value) (n n2 : Nat) (dd : Option Addr) (sl : Array (Option Value)) (hs0 : ¬(!items.isEmpty && Builtin.List.listTooLong (items.size + items2.size)) = true) (hs1 : items.size ≤ sizeLine) (hs2 : items.size + items2.size ≤ sizeLine + 1) :
    Meets (Builtin.«list.extend» ⟨[.ref l, .ref b], []⟩) (fun _ R s => s.heap.get? l = some { cls := .type "list", dict := none, data := .seq items n, slots := #[] } ∧ s.heap.get? b = some { cls := .type "tuple", dict := dd, data := .seq items2 n2, slots := sl } ∧ R (.ok (.ret Value.none)) { s with heap := s.heap.update l (Obj.mapSeq fun x => x ++ items2), toks := s.toks }) :=
  .of_wp fun pg wd Ar Re st0 hyp => by
    obtain ⟨hp0, ga, dr, tks, ost⟩ := st0
    obtain ⟨el, eb, fin⟩ := hyp
    have s1 := idx_int
    have s2 := sub_tuple_tuple
    have s3 := sub_list_list
    have s4 := sub_tuple_list
    have s5 := sub_list_tuple
    have fit : (items ++ items2).size ≤ sizeLine + 1 := by rw [Array.size_append]; omega
    wp_walk using (wpAny_updateSeq el rfl (hz := hs1) (_hz' := fit)), wpAny_loadPart' el, wpAny_loadPart' eb
    exact ⟨_, rfl, fin⟩
end PySem
namespace L2
open PySem PySem.Spec PyProof.Rows PySem.W PySem.Calls
def rExtendT (K : PySem.W.Frag) : V → List V → Hp → VK → Prop := fun x vs H Q => ∃ l b xs zs, x = .ref l ∧ vs = [.ref b] ∧ H l = some (.lst xs) ∧ SqT K H b zs ∧ xs.length + zs.length ≤ sizeLine ∧ Q .non (upd H l (.lst (xs ++ zs)))
theorem mt_extendT {X : Cx} : MtM X "list.extend" (rExtendT X.K) := by
  intro pins s σ H x vs v us Q I rx rv h
  obtain ⟨l, b, xs, zs, rfl, rfl, hH, hB, hz, q⟩ := h
  cases rx
  obtain ⟨u, rfl, ru⟩ := rv.one
  cases ru
  obtain ⟨z, its, n, r, hl, e⟩ := I.lstM hH
  obtain ⟨its2, r2, ⟨⟨c2, dd2, da2, sl2⟩, e2, hc2, n2, hd2⟩, _⟩ := I.tuple hB
  simp only at hc2 hd2
  subst hc2 hd2
  have hl2 := r2.length
  have hsz : its.toArray.size + its2.toArray.size ≤ sizeLine := by rw [List.size_toArray, List.size_toArray]; omega
  have hlong : ¬ (!its.toArray.isEmpty && Builtin.List.listTooLong (its.toArray.size + its2.toArray.size)) = true := by
    rw [notLongL hsz, Bool.and_false]
    exact Bool.false_ne_true
  refine call_meets F.slot_list_extend ⟨_, e, rfl⟩ F.entry_list_extend (F.args_list_extend_2 _ _)
    (list_extend_tup l b its.toArray its2.toArray n n2 dd2 sl2 hlong (by rw [List.size_toArray]; omega) (by omega)) ⟨e, e2, ?_⟩
  refine ⟨.non, _, I.lset (its' := its ++ its2) hH e (by simp) (r.append r2) ?_, rfl, q⟩
  rw [List.length_append]
  omega
theorem mt_extendTK {X : Cx} (K : PySem.W.Frag) (h : X.K = K := by rfl) : MtM X "list.extend" (rExtendT K) := h ▸ mt_extendT
end L2

set_option Elab.async false
set_option linter.all false
set_option maxRecDepth 100000
namespace L2
open PySem PySem.Spec PyProof.Rows
structure RoomH (k : Nat) (A : Around) : Prop where
  dp : A.depth + 3 * k + 5 < recursionLimit
  un : A.units + 16 * k + 200 < cLine
theorem RoomH.mono {j k : Nat} {A : Around} (r : RoomH k A) (h : j ≤ k) : RoomH j A := ⟨by have := r.dp; omega, by have := r.un; omega⟩
theorem RoomH.deeper {k : Nat} {A : Around} (r : RoomH (k + 1) A) (env : Env) : RoomH k (A.deeper env) :=
  ⟨by have := r.dp; show A.depth + 1 + 3 * k + 5 < _; omega, by have := r.un; show A.units + 3 + 16 * k + 200 < _; omega⟩
theorem RoomH.depth {k : Nat} {A : Around} (r : RoomH k A) : A.depth < recursionLimit := by have := r.dp; omega
theorem RoomH.units {k : Nat} {A : Around} (r : RoomH k A) : A.units + 64 < cLine := by have := r.un; omega
theorem Room.toH {k : Nat} {A : Around} (r : Room k A) (v : Option Value) : RoomH k (A.mark v) := ⟨r.dp, r.un⟩
structure FnOkH (P : Program) (w : World) (K : PySem.W.Frag) (mg : Str → Option Value) (base : Heap) (CX : CXT) (k : Nat) (f : Addr) (fd : FuncData) (ps : List Str) (sp : Sp) : Prop where
  len : ∀ vs H Q E, sp vs H Q E → vs.length = ps.length
  run : ∀ (A : Around) (outer : List Env) (s : Shared) (H : Hp) (args : Args) (us : List Value) (vs : List V) (Q : VK) (E : XK), RoomH k A → Env0 P w K mg base A outer s H → BindsTo s fd args (ps.zip us) → Vals vs us → sp vs H Q E →
    codeAny (model P w) A (.call (.ref f) args) (CR CX outer P w H s Q E) s
theorem FnOkH.mono {P : Program} {w : World} {K : PySem.W.Frag} {mg : Str → Option Value} {base : Heap} {CX : CXT} {j k : Nat} {f : Addr} {fd : FuncData} {ps : List Str} {sp : Sp} (F : FnOkH P w K mg base CX j f fd ps sp) (h : j ≤ k) :
    FnOkH P w K mg base CX k f fd ps sp := ⟨F.len, fun A outer s H args us vs Q E hr => F.run A outer s H args us vs Q E (hr.mono h)⟩
section
variable {X : Cx} {CX : CXT} {k : Nat} {f C : Addr} {fd : FuncData} {ps : List Str} {sp : Sp} {dvs : List V} {ds : List Value} {E : XK} {x m : Str} {p pos apos : Pos} {e o : Expr} {es : List Expr} {ta : TE} {t : TA}
theorem run_fnH {pins : List (Addr × Obj)} {σ : St} {H : Hp} {s : Shared} {Q : VK} {us : List Value} {vs : List V} (F : FnOkH X.prog X.w X.K X.mg X.base CX k f fd ps sp) (hr : RoomH k X.A) (hb : Binds X.K fd ps ds) (hd : Vals dvs ds) (hx : Passes CX X E)
    (I : Inv X pins σ H s) (r : Vals vs us) (h : sp (vs ++ dvs) H Q E) : wpAny (model X.prog X.w) X.A (call (.ref f) us) (EP X pins σ Q) X.xe s := by
  have r2 : Vals (vs ++ dvs) (us ++ ds) := r.append hd
  have hl : (us ++ ds).length = ps.length := by rw [← r2.length]; exact F.len _ _ _ _ h
  refine wpAny_call (codeAny_mono (F.run X.A X.stack s H ⟨us, []⟩ (us ++ ds) (vs ++ dvs) Q E hr I.env0 (hb s us I.kIn hl) r2 h) fun r s' hq => ?_)
  cases r with
  | error e => exact hx pins σ H s e s' I hq
  | ok fl =>
    cases fl with
    | ret u => exact I.after hq
    | next => exact False.elim hq
    | brk => exact False.elim hq
    | cont => exact False.elim hq
theorem pe_callH (F : FnOkH X.prog X.w X.K X.mg X.base CX k f fd ps sp) (hr : RoomH k X.A) (hg : Gl X x) (hm : X.mg x = some (.ref f)) (hk : PySem.W.keepIn X.K (.ref f) = true) (hb : Binds X.K fd ps ds) (hd : Vals dvs ds) (hx : Passes CX X E)
    (ha : PA X (e :: es) t) (hdb : (x == ("__debug__" : Str)) = false := by decide) (he : starEach (e :: es) X.env = (false, eval e X.env) :: starEach es X.env := by rfl) (hpl : (backTo pos (starEach es X.env)).any (·.1) = false := by rfl) :
    PE X (.Call (.Name x p) (e :: es) [] pos) (tCall sp dvs E t) := by
  intro pins s σ H Q I h
  refine wpAny_Call_Name_kw (ld_glob I hg hm ?_ hdb)
  refine PySem.W.callWith_K (h₀ := X.base) I.ok.mod.kin hk (thn (ha pos pins s σ H _ I h) fun us s1 ⟨vs, H1, I1, r, q⟩ => ⟨I1.kIn, ?_⟩) he hpl
  exact run_fnH F hr hb hd hx I1 r q
end
def cxOfH (CX : CXT) (P : Program) (w : World) (K : PySem.W.Frag) (mg : Str → Option Value) (base : Heap) (N : List Str) (qual : Str) (scope : Scope) (f : Addr) (cd : Value) (A : Around) (outer : List Env) (s : Shared) (H : Hp) (E : XK) : Cx where
  prog := P
  w := w
  K := K
  mg := mg
  base := base
  A := A.deeper (envOfC qual scope s.heap.objs.size f cd)
  N := N
  s₀ := s
  H₀ := H
  env := envOfC qual scope s.heap.objs.size f cd
  outer := outer
  stack := envOfC qual scope s.heap.objs.size f cd :: outer
  ex := []
  calm := false
  fn := fun _ => true
  pn := []
  xe := fun e s' => wpAny (model P w) (A.deeper (envOfC qual scope s.heap.objs.size f cd)) (leaving (envOfC qual scope s.heap.objs.size f cd) e) (fun _ s'' => CX outer H s E e s'') (fun e' s'' => CX outer H s E e' s'') s'
theorem inv_startH {CX : CXT} {P : Program} {w : World} {K : PySem.W.Frag} {mg : Str → Option Value} {base : Heap} {N ps : List Str} {qual : Str} {scope : Scope} {f : Addr} {cd : Value} {A : Around} {outer : List Env} {s s1 : Shared} {H : Hp} {E : XK} {us : List Value} {vs : List V}
    (S : FnScope N ps scope) (e0 : Env0 P w K mg base A outer s H) (hl : vs.length = ps.length) (r : Vals vs us)
    (x : InCallC s s.heap.objs.size (bindL (envOfC qual scope s.heap.objs.size f cd).kindOf (ps.zip us) fun _ => none) (cellsFrom (s.heap.objs.size + 1) scope.names []) (bindC (envOfC qual scope s.heap.objs.size f cd).kindOf (ps.zip us) fun _ => none) s1) :
    Inv (cxOfH CX P w K mg base N qual scope f cd A outer s H E) [] (start N vs) H s1 := by
  have hpl : ps.length ≤ N.length := by have := congrArg List.length S.pre; rw [List.length_take] at this; omega
  obtain ⟨h1, tk, rfl, hk⟩ := x.done
  have noA : ∀ b : Addr, b ∉ (cxOfH CX P w K mg base N qual scope f cd A outer s H E).ex := fun b z => absurd (show b ∈ ([] : List Addr) from z) (by simp)
  refine ⟨⟨e0.mod, S.kind, rfl, rfl, Nat.le_refl _, fun y z c h1 h2 => ?_, fun y hy => ?_, fun y c _ h => ?_, (fun h => nomatch h), Around.frames_deeper e0.frames, .inr ⟨rfl, rfl⟩, fun b z => absurd z (noA b), e0.bs, e0.bsz, fun b _ _ => noA b, fun b z => absurd z (noA b), e0.funs, e0.frf⟩,
    rfl, e0.bare, Un.kept hk, ⟨_, x.toInCall.ns, fun i y v h1 h2 h3 => ?_⟩, fun y c h => ⟨_, x.cell y c h⟩, e0.hok.fresh (Nat.le_refl _), fun y c h => ?_, fun p hp => absurd (show p ∈ ([] : List (Addr × Obj)) from hp) (by simp), e0.hok.kept hk, ?_⟩
  · exact name_of_addr x.apart (PySem.mem_of_lookup h1) (PySem.mem_of_lookup h2)
  · have hy : scope.names.lookup y = some .cell ∨ scope.names.lookup y = some .free := hy
    rcases hy with hy | hy
    · exact cell_has hy
    · exact absurd rfl (S.nofree _ (PySem.mem_of_lookup hy))
  · exact Nat.le_of_lt (x.above y c (PySem.mem_of_lookup h))
  · have hi : i < vs.length := by
      unfold start at h2
      by_cases hi : i < vs.length
      · exact hi
      · rw [List.getElem?_append_right (by simpa using hi)] at h2
        rw [List.getElem?_replicate] at h2
        split at h2 <;> cases h2
    have ha : vs[i]? = some v := by
      unfold start at h2
      rw [List.getElem?_append_left (by simpa using hi), List.getElem?_map] at h2
      cases e : vs[i]? with
      | none => rw [e] at h2; cases h2
      | some a => rw [e] at h2; cases h2; rfl
    obtain ⟨u, hu, rv⟩ := r.get ha
    have hp : ps[i]? = some y := by
      rw [← S.pre, List.getElem?_take_of_lt (by omega)]; exact h1
    have ndP : ps.Nodup := by rw [← S.pre]; exact S.nd.sublist (List.take_sublist _ _)
    refine ⟨u, rv, ?_⟩
    rcases S.par y (List.mem_of_getElem? hp) with k | k
    · exact .inl ⟨k, bindL_get ndP hp hu k⟩
    · obtain ⟨c, e⟩ := cell_has (n := s.heap.objs.size + 1) k
      refine .inr ⟨.inl k, c, e, ?_⟩
      have q := x.cell y c e
      rw [bindC_get ndP hp hu (by show scope.names.lookup y ≠ _; rw [k]; decide)] at q
      exact q
  · exact e0.hok.fresh (Nat.le_of_lt (x.above y c (PySem.mem_of_lookup h)))
  · unfold start
    show _ = N.length
    rw [List.length_append, List.length_map, List.length_replicate]
    omega
theorem fn_ofH {CX : CXT} {P : Program} {w : World} {K : PySem.W.Frag} {mg : Str → Option Value} {base : Heap} {k : Nat} {f : Addr} {name qual : Str} {params : Arguments} {body : List Stmt} {scope : Scope} {dV kV doc pm cdv ct oc : Value} {an od : Option Addr}
    {osl : Array (Option Value)} {N ps : List Str} {sp : Sp} (lk : K.lookup f = some ⟨oc, od, .func (PySem.W.fnOf name qual params body scope dV kV doc pm an cdv ct), osl⟩) (hcd : PySem.W.codeIn K cdv qual = true) (S : FnScope N ps scope)
    (len : ∀ vs H Q E, sp vs H Q E → vs.length = ps.length)
    (hbody : ∀ (A : Around) (outer : List Env) (s : Shared) (H : Hp) (vs : List V) (Q : VK) (E : XK), RoomH k (A.deeper (envOfC qual scope s.heap.objs.size f cdv)) → sp vs H Q E →
      ∃ t, PSs (cxOfH CX P w K mg base N qual scope f cdv A outer s H E) body t ∧ t { nx := fun _ H' => Q .non H', rt := Q } (start N vs) H) :
    FnOkH P w K mg base CX (k + 1) f (PySem.W.fnOf name qual params body scope dV kV doc pm an cdv ct) ps sp := by
  refine ⟨len, fun A outer s H args us vs Q E hr e0 hb r hsp => ?_⟩
  have hl := len _ _ _ _ hsp
  have KX : K.In s.heap := e0.mod.kin.keeps fun b o e => (e0.bs b o e).1
  have lim : s.heap.NoLimit := e0.mod.nolimit.keeps fun b o e => (e0.bs b o e).1
  have hkind : ∀ y ∈ ps.zip us, scope.names.lookup y.1 = some .local ∨ (scope.names.lookup y.1 = some .cell ∧ ((cellsFrom (s.heap.objs.size + 1) scope.names []).lookup y.1).isSome = true) := fun ⟨n, v⟩ hy => by
    rcases S.par n (List.of_mem_zip hy).1 with q | q
    · exact .inl q
    · exact .inr ⟨q, PySem.W.cellsFrom_some _ _ _ (.inl q)⟩
  refine codeAny_call_function hr.depth (KX _ _ lk) rfl S.co S.gen rfl (PySem.W.codeRec_of KX hcd) (hb _ _ _ _ ?_)
  refine wpAny_newFunctionEnv_cells S.kind hkind fun env he s1 x => ?_
  subst he
  refine ⟨lim.keeps x.toInCall.keep, codeAny_func ?_⟩
  obtain ⟨t, ht, hq⟩ := hbody A outer s H vs Q E (hr.deeper _) hsp
  have I : Inv (cxOfH CX P w K mg base N qual scope f cdv A outer s H E) [] (start N vs) H s1 := inv_startH S e0 hl r x
  refine wpAny_mono (ht [] s1 (start N vs) H _ I hq) (fun fl s' hs => ?_) fun e s' hs => hs
  have fin : ∀ {σ' : St} {H' : Hp} {v : V} {u : Value}, Inv (cxOfH CX P w K mg base N qual scope f cdv A outer s H E) [] σ' H' s' → RelV v u → Q v H' → CE outer P w H s Q u s' :=
    fun {σ' H' v u} J rv q => ⟨v, H', J.os, J.bare, J.base, J.hok, rv, q⟩
  cases fl with
  | ret u =>
    obtain ⟨v, σ', H', J, rv, q⟩ := hs
    exact fin J rv q
  | next =>
    obtain ⟨σ', H', J, q⟩ := hs
    exact fin (v := V.non) (u := Value.none) J rfl q
  | brk =>
    obtain ⟨_, _, _, q⟩ := hs
    exact False.elim q
  | cont =>
    obtain ⟨_, _, _, q⟩ := hs
    exact False.elim q
section
variable {P : Program} {w : World} {K : PySem.W.Frag} {mg : Str → Option Value} {base : Heap}
theorem Fun.okH {x qual : Str} {st : Stmt} {f : Addr} {fd : FuncData} {N ps : List Str} {k : Nat} {sp : Sp} (F : Fun K x qual st f fd) (S : FnScope N ps (defScope st)) (len : ∀ vs H Q E, sp vs H Q E → vs.length = ps.length)
    (hbody : ∀ (cdv : Value) (A : Around) (outer : List Env) (s : Shared) (H : Hp) (vs : List V) (Q : VK) (E : XK), RoomH k (A.deeper (envOfC qual (defScope st) s.heap.objs.size f cdv)) → sp vs H Q E →
      ∃ t, PSs (cxOfH CX0 P w K mg base N qual (defScope st) f cdv A outer s H E).nox (defBody st) t ∧ t { nx := fun _ H' => Q .non H', rt := Q } (start N vs) H) : FnOkH P w K mg base CX0 (k + 1) f fd ps sp := by
  obtain ⟨oc, od, kV, doc, pm, an, cdv, ct, osl, rfl, lk, hcd⟩ := F.ex
  refine fn_ofH lk hcd S len fun A outer s H vs Q E hr hsp => ?_
  obtain ⟨t, h, q⟩ := hbody cdv A outer s H vs Q E hr hsp
  exact ⟨t, h.nox, q⟩
structure CalH (P : Program) (w : World) (K : PySem.W.Frag) (mg : Str → Option Value) (base : Heap) (n : Nat) (x : Str) (ps : List Str) (sp : Sp) : Prop where
  ex : ∃ f fd, FnOkH P w K mg base CX0 n f fd ps sp ∧ Binds K fd ps [] ∧ PySem.W.keepIn K (.ref f) = true ∧ mg x = some (.ref f)
theorem Dfn.calH {x : Str} {st : Stmt} {N ps : List Str} {k : Nat} {sp : Sp} (d : Dfn K mg x st ps) (S : FnScope N ps (defScope st)) (len : ∀ vs H Q E, sp vs H Q E → vs.length = ps.length)
    (hbody : ∀ (f : Addr) (cdv : Value) (A : Around) (outer : List Env) (s : Shared) (H : Hp) (vs : List V) (Q : VK) (E : XK), RoomH k (A.deeper (envOfC x (defScope st) s.heap.objs.size f cdv)) → sp vs H Q E →
      ∃ t, PSs (cxOfH CX0 P w K mg base N x (defScope st) f cdv A outer s H E).nox (defBody st) t ∧ t { nx := fun _ H' => Q .non H', rt := Q } (start N vs) H) : CalH P w K mg base (k + 1) x ps sp := by
  obtain ⟨f, fd, F, b, m⟩ := d.ex
  exact ⟨f, fd, F.okH S len (hbody f), b, F.kp, m⟩
end
section
variable {X : Cx} {n k : Nat} {x : Str} {ps : List Str} {sp : Sp} {p pos : Pos} {e : Expr} {es : List Expr} {t : TA}
theorem pe_callHC (C : CalH X.prog X.w X.K X.mg X.base n x ps sp) (hr : RoomH k X.A) (hle : n ≤ k) (hg : Gl X x) (ha : PA X (e :: es) t) (hdb : (x == ("__debug__" : Str)) = false := by decide)
    (h1 : notStar e = true := by rfl) (h2 : es.all notStar = true := by rfl) : PE X (.Call (.Name x p) (e :: es) [] pos) (tCall sp [] E0 t) := by
  obtain ⟨f, fd, F, b, kp, m⟩ := C.ex
  exact pe_callH F (hr.mono hle) hg m kp b .nil pass0 ha hdb (star_cons h1) (star_any h2)
end
end L2

set_option Elab.async false
set_option linter.all false
set_option maxRecDepth 100000
/-! range(a, b, step), walked; tuple * n -/
namespace L2
open PySem PySem.Spec PyProof.Rows
section
variable {X : Cx}
end
/-! ### range with a step -/
end L2

set_option Elab.async false
set_option linter.all false
set_option maxRecDepth 100000
/-! a comprehension over a range whose items are new lists -/
namespace L2
open PySem PySem.Spec PyProof.Rows
section
variable {tn : List Str} {cp : List (Nat × Str)} {g : TG} {tif : TT} {te : TE} {σ0 : St} {Q : VK} {H1 : Hp} {lo : Int} {n : Nat}
end
end L2

set_option Elab.async false
set_option linter.all false
set_option maxRecDepth 100000
/-! lists in order, lists in lists -/
namespace PySem.SeqAt
open AutoSeq1 (wpAny_loadPart')
open MeetsSeq MeetsSeq2 MeetsSeq3 SeqRoads2
end PySem.SeqAt
namespace L2
open PySem PySem.Spec PyProof.Rows
section
variable {X : Cx} {k : Nat} {H : Hp} {x y : V} {a b : Addr} {xs ys : List V}
end
end L2

set_option Elab.async false
set_option linter.all false
set_option maxRecDepth 100000
/-! NAMES AND FRAMES: what they are, and the promises of the defs that tell it -/
namespace SS
open PySem PySem.Spec PyProof.Rows L2
def SMALL : Str := "abcdefghijklmnopqrstuvwxyz"
def GREAT : Str := "ABCDEFGHIJKLMNOPQRSTUVWXYZ"
def FIGS : Str := "0123456789"
/-! ### the mirror -/
def signIn (c : Nat) (z : Str) : Bool := !(Builtin.Str.occurrences z ⟨#[c]⟩ 0 z.length 1).isEmpty
def nameB (z letters : Str) : Bool := match z.cps.toList with
  | [] => false
  | c :: r => decide (r.length ≤ 3) && signIn c letters && r.all fun d => signIn d FIGS
def isNm (x : V) (letters : Str) : Bool := match x with
  | .str z => nameB z letters
  | _ => false
def sp_lf : Sp := fun vs H Q _ => ∃ x letters k, vs = [x, .str letters] ∧ Kd H x k ∧ (∀ z, x = .str z → z.length ≤ 1000) ∧ ∀ H', Same H H' → Q (.bl (isNm x letters)) H'
/-! ### the promises -/
def sp_pl (letters : Str) : Sp := fun vs H Q _ => ∃ x k, vs = [x] ∧ Kd H x k ∧ (∀ z, x = .str z → z.length ≤ 1000) ∧ ∀ H', Same H H' → Q (.bl (isNm x letters)) H'
/-- what a drawn name is -/
structure Nam (z letters : Str) : Prop where
  ex : ∃ d ds, z.cps.toList = d :: ds ∧ d ∈ letters.cps.toList ∧ ds.length ≤ 3 ∧ ∀ x ∈ ds, x ∈ FIGS.cps.toList
theorem in_small : ∀ c ∈ SMALL.cps.toList, signIn c SMALL = true := by decide +kernel
theorem in_figs : ∀ c ∈ FIGS.cps.toList, signIn c FIGS = true := by decide +kernel
theorem nam_is {z l : Str} (hl : ∀ c ∈ l.cps.toList, signIn c l = true) (h : Nam z l) : isNm (.str z) l = true := by
  obtain ⟨d, ds, e, h1, h2, h3⟩ := h.ex
  simp only [isNm, nameB, e]
  rw [hl d h1, decide_eq_true h2, Bool.true_and, Bool.true_and]
  exact List.all_eq_true.mpr fun x hx => in_figs x (h3 x hx)
theorem sign_in (c : Nat) (z : Str) : signIn c z = decide (c ∈ z.cps.toList) := PySem.StrLaws.found_one z c
/-- a thing of a plain kind, no great text -/
def Thing (H : Hp) (y : V) : Prop := (∃ k, Kd H y k) ∧ ∀ z, y = .str z → z.length ≤ 1000
theorem Thing.same {H H' : Hp} {y : V} (h : Thing H y) (g : Same H H') : Thing H' y := ⟨let ⟨k, q⟩ := h.1; ⟨k, q.same g⟩, h.2⟩
theorem Thing.str {H : Hp} {z : Str} (h : z.length ≤ 1000) : Thing H (.str z) := ⟨⟨_, .str z⟩, fun z' e => by cases e; exact h⟩
theorem Thing.non {H : Hp} : Thing H .non := ⟨⟨_, .non⟩, fun z' e => by cases e⟩
theorem Thing.int {H : Hp} (i : Int) : Thing H (.int i) := ⟨⟨_, .int i⟩, fun z' e => by cases e⟩
theorem Thing.bl {H : Hp} (b : Bool) : Thing H (.bl b) := ⟨⟨_, .bl b⟩, fun z' e => by cases e⟩
theorem Thing.lst {H : Hp} {a : Addr} {xs : List V} (e : H a = some (.lst xs)) : Thing H (.ref a) := ⟨⟨_, .lst e⟩, fun z' e => by cases e⟩
theorem Thing.tup {H : Hp} {a : Addr} {xs : List V} (e : H a = some (.tup xs)) : Thing H (.ref a) := ⟨⟨_, .tup e⟩, fun z' e => by cases e⟩
theorem Thing.dK {H : Hp} {a : Addr} {xs : List (Key × V)} (e : H a = some (.dK xs)) : Thing H (.ref a) := ⟨⟨_, .dK e⟩, fun z' e => by cases e⟩
def isName (x : V) : Bool := isNm x SMALL || isNm x GREAT
/-- a list of things -/
def Things (H : Hp) (xs : List V) : Prop := xs.length ≤ 1000 ∧ ∀ y ∈ xs, Thing H y
theorem Things.same {H H' : Hp} {xs : List V} (h : Things H xs) (g : Same H H') : Things H' xs := ⟨h.1, fun y hy => (h.2 y hy).same g⟩
end SS

set_option Elab.async false
set_option linter.all false
set_option maxRecDepth 100000
/-! what the laws' own defs promise -/
namespace SS
open PySem PySem.Spec PyProof.Rows L2
def sp_cell (K : PySem.W.Frag) : Sp := fun vs H Q _ => ∃ (a : Addr) (ns : List Int) (k : Int), vs = [.ref a, .int k] ∧ SqL K H a (ns.map V.int) ∧ 0 ≤ k ∧ ∀ c, Q (.int c) H
def sp_lawF (K : PySem.W.Frag) : Sp := fun vs H Q _ => ∃ (a : Addr) (ns : List Int), vs = [.ref a] ∧ SqL K H a (ns.map V.int) ∧ ns.length ≤ 63 ∧ ∀ H', Q (.bl true) H'
theorem mem_cut {α : Type} {xs : List α} {lo hi : Option Int} {y : α} (h : y ∈ cutL xs lo hi) : y ∈ xs := List.mem_of_mem_drop (List.mem_of_mem_take h)
theorem Things.cut {H : Hp} {xs : List V} {lo hi : Option Int} (h : Things H xs) : Things H (cutL xs lo hi) := ⟨Nat.le_trans (cutL_len xs lo hi) h.1, fun y hy => h.2 y (mem_cut hy)⟩
end SS
namespace SS
open PySem PySem.Spec PyProof.Rows L2
theorem cutL_map {α β : Type} (f : α → β) (xs : List α) (lo hi : Option Int) : cutL (xs.map f) lo hi = (cutL xs lo hi).map f := by
  unfold cutL
  rw [List.length_map, List.map_take, List.map_drop]
theorem Things.app {H : Hp} {xs ys : List V} (h1 : Things H xs) (h2 : Things H ys) (l : xs.length + ys.length ≤ 1000) : Things H (xs ++ ys) := ⟨by rw [List.length_append]; exact l, fun y hy => (List.mem_append.mp hy).elim (h1.2 y) (h2.2 y)⟩
theorem Things.one {H : Hp} {y : V} (h : Thing H y) : Things H [y] := ⟨by show 1 ≤ 1000; decide, fun z hz => by rw [List.mem_singleton.mp hz]; exact h⟩
theorem Things.nil {H : Hp} : Things H [] := ⟨Nat.zero_le _, fun _ h => nomatch h⟩
end SS

set_option Elab.async false
set_option linter.all false
set_option maxRecDepth 100000
/-! SAYINGS: what they are, how the heap bears them -/
namespace SS
open PySem PySem.Spec PyProof.Rows L2
inductive Sy where
  | bare (w n m : Str)
  | neg (s : Sy)
  | two (w : Str) (s t : Sy)
  | qu (w n : Str) (s : Sy)
def bareWords : List Str := ["in", "same", "within", "ahead", "next", "left", "right", "above"]
def Sy.depth : Sy → Nat
  | .bare _ _ _ => 1
  | .neg s => s.depth + 1
  | .two _ s t => max s.depth t.depth + 1
  | .qu _ _ s => s.depth + 1
def Sy.parts : Sy → Nat
  | .bare _ _ _ => 1
  | .neg s => s.parts + 1
  | .two _ s t => s.parts + t.parts + 1
  | .qu _ _ s => s.parts + 1
/-- the saying as the heap bears it -/
inductive Rep (H : Hp) : V → Sy → Prop where
  | bare {a : Addr} {w n m : Str} (hw : w ∈ bareWords) (e : H a = some (.tup [.str w, .str n, .str m])) : Rep H (.ref a) (.bare w n m)
  | neg {a : Addr} {x : V} {s : Sy} (e : H a = some (.tup [.str "not", x])) (h : Rep H x s) : Rep H (.ref a) (.neg s)
  | two {a : Addr} {w : Str} {x y : V} {s t : Sy} (hw : w ∈ (["and", "or"] : List Str)) (e : H a = some (.tup [.str w, x, y])) (h1 : Rep H x s) (h2 : Rep H y t) : Rep H (.ref a) (.two w s t)
  | qu {a : Addr} {w n : Str} {x : V} {s : Sy} (hw : w ∈ (["some", "all"] : List Str)) (e : H a = some (.tup [.str w, .str n, x])) (h : Rep H x s) : Rep H (.ref a) (.qu w n s)
theorem Rep.same {H H' : Hp} {v : V} {s : Sy} (r : Rep H v s) (g : Same H H') : Rep H' v s := by
  induction r with
  | bare hw e => exact .bare hw (g _ _ e)
  | neg e _ ih => exact .neg (g _ _ e) ih
  | two hw e _ _ ih1 ih2 => exact .two hw (g _ _ e) ih1 ih2
  | qu hw e _ ih => exact .qu hw (g _ _ e) ih
theorem Rep.tup {H : Hp} {v : V} {s : Sy} (r : Rep H v s) : ∃ a xs, v = .ref a ∧ H a = some (.tup xs) := by
  cases r with
  | bare hw e => exact ⟨_, _, rfl, e⟩
  | neg e _ => exact ⟨_, _, rfl, e⟩
  | two hw e _ _ => exact ⟨_, _, rfl, e⟩
  | qu hw e _ => exact ⟨_, _, rfl, e⟩
/-! ### words -/
/-! ### names that nothing tells -/
/-- each once -/
def addAll : List Str → List Str → List Str
  | f, [] => f
  | f, x :: r => addAll (if x ∈ f then f else f ++ [x]) r
def once (xs : List Str) : List Str := addAll [] xs
end SS

set_option Elab.async false
set_option linter.all false
set_option maxRecDepth 100000
/-! the promises of the defs about sayings -/
namespace SS
open PySem PySem.Spec PyProof.Rows L2
def isT (H : Hp) (x : V) : Bool := match x with
  | .ref a => match H a with
    | some (.tup _) => true
    | _ => false
  | _ => false
theorem Kd.isT {H : Hp} {x : V} {k : String} (h : Kd H x k) : subT k "tuple" = isT H x := by
  cases h with
  | lst e => simp only [SS.isT, e]; decide
  | tup e => simp only [SS.isT, e]; decide
  | dK e => simp only [SS.isT, e]; decide
  | _ => rfl
def Sy.inner : Sy → List Sy
  | .bare _ _ _ => []
  | .neg s => [s]
  | .two _ s t => [s, t]
  | .qu _ _ s => [s]
theorem Rep.kd {H : Hp} {v : V} {s : Sy} (r : Rep H v s) : Kd H v "tuple" := by
  obtain ⟨a, xs, rfl, e⟩ := r.tup
  exact .tup e
theorem Rep.isT {H : Hp} {v : V} {s : Sy} (r : Rep H v s) : isT H v = true := by
  obtain ⟨a, xs, rfl, e⟩ := r.tup
  simp only [SS.isT, e]
/-- a saying's tuple, and its sayings among the items -/
theorem Rep.items {H : Hp} {v : V} {s : Sy} (r : Rep H v s) : ∃ a xs, v = .ref a ∧ H a = some (.tup xs) ∧ xs.length ≤ 3 ∧ (∀ y ∈ xs, ∃ k, Kd H y k) ∧ Paired (Rep H) (xs.filter (SS.isT H)) s.inner := by
  cases r with
  | bare hw e =>
    refine ⟨_, _, rfl, e, Nat.le_refl _, fun y hy => ?_, .nil⟩
    simp only [List.mem_cons, List.not_mem_nil, or_false] at hy
    rcases hy with rfl | rfl | rfl <;> exact ⟨_, .str _⟩
  | neg e h =>
    refine ⟨_, _, rfl, e, by simp, fun y hy => ?_, ?_⟩
    · simp only [List.mem_cons, List.not_mem_nil, or_false] at hy
      rcases hy with rfl | rfl
      · exact ⟨_, .str _⟩
      · exact ⟨_, h.kd⟩
    · rw [List.filter_cons_of_neg (by simp [SS.isT]), List.filter_cons_of_pos h.isT]
      exact .cons h .nil
  | two hw e h1 h2 =>
    refine ⟨_, _, rfl, e, by simp, fun y hy => ?_, ?_⟩
    · simp only [List.mem_cons, List.not_mem_nil, or_false] at hy
      rcases hy with rfl | rfl | rfl
      · exact ⟨_, .str _⟩
      · exact ⟨_, h1.kd⟩
      · exact ⟨_, h2.kd⟩
    · rw [List.filter_cons_of_neg (by simp [SS.isT]), List.filter_cons_of_pos h1.isT, List.filter_cons_of_pos h2.isT]
      exact .cons h1 (.cons h2 .nil)
  | qu hw e h =>
    refine ⟨_, _, rfl, e, by simp, fun y hy => ?_, ?_⟩
    · simp only [List.mem_cons, List.not_mem_nil, or_false] at hy
      rcases hy with rfl | rfl | rfl
      · exact ⟨_, .str _⟩
      · exact ⟨_, .str _⟩
      · exact ⟨_, h.kd⟩
    · rw [List.filter_cons_of_neg (by simp [SS.isT]), List.filter_cons_of_neg (by simp [SS.isT]), List.filter_cons_of_pos h.isT]
      exact .cons h .nil
end SS
namespace SS
open PySem PySem.Spec PyProof.Rows L2
theorem Paired.at {α β : Type} {R : α → β → Prop} : ∀ {xs : List α} {ys : List β} {i : Nat} {x : α}, Paired R xs ys → xs[i]? = some x → ∃ y, ys[i]? = some y ∧ R x y
  | _, _, _, _, .nil, h => by simp at h
  | _, _, 0, _, .cons h _, e => by simp at e; subst e; exact ⟨_, rfl, h⟩
  | _, _, i + 1, _, .cons _ h, e => by simp only [List.getElem?_cons_succ] at e ⊢; exact Paired.at h e
theorem Paired.len {α β : Type} {R : α → β → Prop} : ∀ {xs : List α} {ys : List β}, Paired R xs ys → xs.length = ys.length
  | _, _, .nil => rfl
  | _, _, .cons _ h => by rw [List.length_cons, List.length_cons, Paired.len h]
end SS
namespace SS
open PySem PySem.Spec PyProof.Rows L2
end SS

set_option Elab.async false
set_option linter.all false
set_option maxRecDepth 100000
/-! drawn sayings: what the laws' own drawing promises -/
namespace SS
open PySem PySem.Spec PyProof.Rows L2
def isPl (z : Str) : Bool := isNm (.str z) SMALL
def isSt (z : Str) : Bool := isNm (.str z) GREAT
theorem nm_ex {z l : Str} (h : isNm (.str z) l = true) : ∃ c r, z.cps.toList = c :: r ∧ r.length ≤ 3 ∧ c ∈ l.cps.toList ∧ ∀ d ∈ r, d ∈ FIGS.cps.toList := by
  simp only [isNm, nameB] at h
  split at h
  · cases h
  · rename_i c r e
    rw [Bool.and_eq_true, Bool.and_eq_true, sign_in, decide_eq_true_eq, decide_eq_true_eq, List.all_eq_true] at h
    exact ⟨c, r, e, h.1.1, h.1.2, fun d hd => by have := h.2 d hd; rw [sign_in, decide_eq_true_eq] at this; exact this⟩
theorem name_cases {z : Str} (h : isName (.str z) = true) : isPl z = true ∨ isSt z = true := by
  unfold isName at h
  rw [Bool.or_eq_true] at h
  exact h
/-- a list of names, each once -/
structure Names (tl : List Str) : Prop where
  nd : tl.Nodup
  nm : ∀ z ∈ tl, isName (.str z) = true
  len : ∀ z ∈ tl, z.length ≤ 4
theorem Names.nil : Names [] := ⟨List.nodup_nil, fun _ h => (nomatch h), fun _ h => (nomatch h)⟩
theorem Names.snoc {tl : List Str} {z : Str} (h : Names tl) (h1 : isName (.str z) = true) (h2 : z.length ≤ 4) (h3 : z ∉ tl) : Names (tl ++ [z]) := by
  refine ⟨nd_snoc h.nd h3, fun y hy => ?_, fun y hy => ?_⟩
  · rcases List.mem_append.mp hy with hy | hy
    · exact h.nm y hy
    · rw [List.mem_singleton.mp hy]; exact h1
  · rcases List.mem_append.mp hy with hy | hy
    · exact h.len y hy
    · rw [List.mem_singleton.mp hy]; exact h2
end SS
namespace SS
open PySem PySem.Spec PyProof.Rows L2
end SS
namespace SS
open PySem PySem.Spec PyProof.Rows L2
end SS
namespace SS
open PySem PySem.Spec PyProof.Rows L2
end SS

set_option Elab.async false
set_option linter.all false
set_option maxRecDepth 100000
/-! what has the form of a saying; which sayings are let -/
namespace SS
open PySem PySem.Spec PyProof.Rows L2
def forms : List (Str × List Str) := [("in", ["place", "set"]), ("same", ["place", "place"]), ("within", ["set", "set"]), ("ahead", ["place", "place"]), ("next", ["place", "place"]), ("left", ["place", "place"]), ("right", ["place", "place"]), ("above", ["place", "place"]),
  ("not", ["saying"]), ("and", ["saying", "saying"]), ("or", ["saying", "saying"]), ("some", ["name", "saying"]), ("all", ["name", "saying"])]
/-- what may be looked into, so deep -/
def Exp (H : Hp) : Nat → V → Prop
  | 0, v => Thing H v
  | n + 1, v => Thing H v ∧ ∀ a xs, v = .ref a → H a = some (.tup xs) → xs.length ≤ 1000 ∧ ∀ x ∈ xs, Exp H n x
theorem Exp.thing {H : Hp} : ∀ {n : Nat} {v : V}, Exp H n v → Thing H v
  | 0, _, h => h
  | _ + 1, _, h => h.1
theorem Thing.same_tup {H H' : Hp} {a : Addr} {xs : List V} (h : Thing H (.ref a)) (g : Same H H') (e : H' a = some (.tup xs)) : H a = some (.tup xs) := by
  obtain ⟨⟨k, hk⟩, _⟩ := h
  cases hk with
  | lst z => rw [g _ _ z] at e; cases e
  | tup z => rw [g _ _ z] at e; cases e; exact z
  | dK z => rw [g _ _ z] at e; cases e
theorem Exp.same {H H' : Hp} (g : Same H H') : ∀ {n : Nat} {v : V}, Exp H n v → Exp H' n v
  | 0, _, h => Thing.same h g
  | n + 1, v, h => ⟨h.1.same g, fun a xs ev e => by
    subst ev
    obtain ⟨h1, h2⟩ := h.2 a xs rfl (h.1.same_tup g e)
    exact ⟨h1, fun x hx => (h2 x hx).same g⟩⟩
theorem Exp.mono {H : Hp} : ∀ {n : Nat} {v : V}, Exp H (n + 1) v → Exp H n v
  | 0, _, h => h.1
  | n + 1, v, h => ⟨h.1, fun a xs ev e => ⟨(h.2 a xs ev e).1, fun x hx => ((h.2 a xs ev e).2 x hx).mono⟩⟩
/-! ### sayings of the right sorts -/
def wfB : Sy → Bool
  | .bare w n m => if w = "in" then isPl n && isSt m else if w = "within" then isSt n && isSt m else isPl n && isPl m
  | .neg s => wfB s
  | .two _ s t => wfB s && wfB t
  | .qu _ n s => isName (.str n) && wfB s
def letB (barred : List Str) (most : Nat) : List Str → Sy → Bool
  | known, .bare w n m => decide (known.length ≤ most) && decide (w ∉ barred) && (decide (n ∈ known) && decide (m ∈ known))
  | known, .neg s => decide (known.length ≤ most) && decide (("not" : Str) ∉ barred) && letB barred most known s
  | known, .two w s t => decide (known.length ≤ most) && decide (w ∉ barred) && (letB barred most known s && letB barred most known t)
  | known, .qu w n s => decide (known.length ≤ most) && decide (w ∉ barred) && (decide (n ∉ known) && letB barred most (known ++ [n]) s)
end SS

set_option Elab.async false
set_option linter.all false
set_option maxRecDepth 100000
set_option maxHeartbeats 1000000
namespace SS
open PySem PySem.Spec PyProof.Rows L2
section
variable {f : V → Bool} {x y : V} {r : List V} {s1 s2 : Str}
end
end SS
namespace SS
open PySem PySem.Spec PyProof.Rows L2
/-- the written table of forms -/
structure Forms (K : PySem.W.Frag) (w : World) (fa : Addr) : Prop where
  ex : ∃ f, DctK K w fa f ∧ ∀ x, (∃ ss b, forms.lookup x = some ss ∧ f x = some (.ref b) ∧ ∀ H, SqT K H b (List.map V.str ss)) ∨ (forms.lookup x = none ∧ f x = none)
end SS
namespace SS
open PySem PySem.Spec PyProof.Rows L2
def wordOf : Sy → Str
  | .bare w _ _ => w
  | .neg _ => "not"
  | .two w _ _ => w
  | .qu w _ _ => w
end SS
namespace SS
open PySem PySem.Spec PyProof.Rows L2
end SS
namespace SS
open L2
end SS

set_option Elab.async false
set_option linter.all false
set_option maxRecDepth 100000
set_option maxHeartbeats 1000000
/-! written things: what they are as sayings -/
namespace SS
open PySem PySem.Spec PyProof.Rows L2
/-- a written thing; a tuple as the chain of its items -/
inductive Lit where
  | str (z : Str)
  | oth
  | tnil
  | tcons (x r : Lit)
  deriving DecidableEq
/-- neither a text nor a tuple -/
def Oth (H : Hp) (v : V) : Prop := ∃ k, Kd H v k ∧ k ≠ "str" ∧ k ≠ "tuple"
/-- the heap bears the thing -/
def LitAt (H : Hp) : Lit → V → Prop
  | .str z, v => v = .str z ∧ z.length ≤ 1000
  | .oth, v => Oth H v
  | .tnil, v => ∃ a, v = .ref a ∧ H a = some (.tup [])
  | .tcons x r, v => ∃ a y ys, v = .ref a ∧ H a = some (.tup (y :: ys)) ∧ ys.length ≤ 100 ∧ LitAt H x y ∧ Items H r ys
where Items (H : Hp) : Lit → List V → Prop
  | .tcons x r, ys => ∃ z zs, ys = z :: zs ∧ LitAt H x z ∧ Items H r zs
  | .tnil, ys => ys = []
  | _, _ => False
abbrev Items := LitAt.Items
end SS
namespace SS
open PySem PySem.Spec PyProof.Rows L2
theorem Oth.same {H H' : Hp} {v : V} (g : Same H H') (h : Oth H v) : Oth H' v := let ⟨k, z, r⟩ := h; ⟨k, z.same g, r⟩
mutual
theorem LitAt.same {H H' : Hp} (g : Same H H') : ∀ {l : Lit} {v : V}, LitAt H l v → LitAt H' l v
  | .str z, _, h => h
  | .oth, _, h => Oth.same g h
  | .tnil, _, ⟨a, e, h⟩ => ⟨a, e, g _ _ h⟩
  | .tcons x r, _, ⟨a, y, ys, e, h, hl, h1, h2⟩ => ⟨a, y, ys, e, g _ _ h, hl, LitAt.same g h1, Items.same g h2⟩
theorem Items.same {H H' : Hp} (g : Same H H') : ∀ {l : Lit} {ys : List V}, Items H l ys → Items H' l ys
  | .tcons x r, _, ⟨z, zs, e, h1, h2⟩ => ⟨z, zs, e, LitAt.same g h1, Items.same g h2⟩
  | .tnil, _, h => h
  | .str _, _, h => h
  | .oth, _, h => h
end
theorem LitAt.thing {H : Hp} : ∀ {l : Lit} {v : V}, LitAt H l v → Thing H v
  | .str z, _, ⟨e, h⟩ => by subst e; exact .str h
  | .oth, v, ⟨k, h, h1, _⟩ => ⟨⟨k, h⟩, fun z e => by subst e; cases h; exact absurd rfl h1⟩
  | .tnil, _, ⟨a, e, h⟩ => by subst e; exact .tup h
  | .tcons x r, _, ⟨a, y, ys, e, h, _, _, _⟩ => by subst e; exact .tup h
mutual
theorem LitAt.exp {H : Hp} : ∀ (n : Nat) {l : Lit} {v : V}, LitAt H l v → Exp H n v
  | 0, _, _, h => h.thing
  | n + 1, .str z, _, h => ⟨h.thing, fun a xs e _ => by rw [h.1] at e; cases e⟩
  | n + 1, .oth, v, h => ⟨h.thing, fun a xs e e' => by
    subst e
    obtain ⟨k, hk, _, h2⟩ := h
    exact absurd (hk.inj (.tup e')) h2⟩
  | n + 1, .tnil, _, h => ⟨h.thing, fun a xs e e' => by
    obtain ⟨a', e1, e2⟩ := h
    rw [e] at e1
    cases e1
    rw [e2] at e'
    cases e'
    exact ⟨Nat.zero_le _, fun x hx => nomatch hx⟩⟩
  | n + 1, .tcons x r, _, h => ⟨h.thing, fun a xs e e' => by
    obtain ⟨a', y, ys, e1, e2, hl, h1, h2⟩ := h
    rw [e] at e1
    cases e1
    rw [e2] at e'
    cases e'
    refine ⟨by rw [List.length_cons]; omega, fun x' hx => ?_⟩
    rcases List.mem_cons.mp hx with rfl | hx
    · exact LitAt.exp n h1
    · exact Items.exp n h2 x' hx⟩
theorem Items.exp {H : Hp} : ∀ (n : Nat) {l : Lit} {ys : List V}, Items H l ys → ∀ y ∈ ys, Exp H n y
  | n, .tcons x r, _, ⟨z, zs, e, h1, h2⟩, y, hy => by
    subst e
    rcases List.mem_cons.mp hy with rfl | hy
    · exact LitAt.exp n h1
    · exact Items.exp n h2 y hy
  | n, .tnil, _, h, y, hy => by rw [show _ = [] from h] at hy; exact nomatch hy
  | n, .str _, _, h, y, hy => False.elim h
  | n, .oth, _, h, y, hy => False.elim h
end
def toSy : Lit → Option Sy
  | .tcons (.str w) (.tcons x .tnil) => if w = "not" then (toSy x).map .neg else none
  | .tcons (.str w) (.tcons x (.tcons y .tnil)) => if w ∈ bareWords then (match x, y with
      | .str n, .str m => some (.bare w n m)
      | _, _ => none) else if w ∈ (["and", "or"] : List Str) then (match toSy x, toSy y with
      | some s, some t => some (.two w s t)
      | _, _ => none) else if w ∈ (["some", "all"] : List Str) then (match x with
      | .str n => (toSy y).map (.qu w n)
      | _ => none) else none
  | _ => none
theorem join_bare : ∀ w ∈ (["and", "or"] : List Str), w ∉ bareWords := by decide +kernel
theorem tell_bare : ∀ w ∈ (["some", "all"] : List Str), w ∉ bareWords ∧ w ∉ (["and", "or"] : List Str) := by decide +kernel
theorem LitAt.of_str {H : Hp} {l : Lit} {z : Str} (h : LitAt H l (.str z)) : l = .str z := by
  cases l with
  | str y => obtain ⟨e, _⟩ := h; cases e; rfl
  | oth => obtain ⟨k, hk, h1, _⟩ := h; cases hk; exact absurd rfl h1
  | tnil => obtain ⟨a, e, _⟩ := h; cases e
  | tcons x r => obtain ⟨a, y, ys, e, _⟩ := h; cases e
theorem LitAt.of_tup {H : Hp} {l : Lit} {a : Addr} {y : V} {ys : List V} (h : LitAt H l (.ref a)) (e : H a = some (.tup (y :: ys))) : ∃ x r, l = .tcons x r ∧ LitAt H x y ∧ Items H r ys := by
  cases l with
  | str z => obtain ⟨e', _⟩ := h; cases e'
  | oth => obtain ⟨k, hk, _, h2⟩ := h; exact absurd (hk.inj (.tup e)) h2
  | tnil => obtain ⟨a', e1, e2⟩ := h; cases e1; rw [e] at e2; cases e2
  | tcons x r =>
    obtain ⟨a', y', ys', e1, e2, _, h1, h2⟩ := h
    cases e1
    rw [e] at e2
    cases e2
    exact ⟨x, r, rfl, h1, h2⟩
theorem Items.cons {H : Hp} {l : Lit} {y : V} {ys : List V} (h : Items H l (y :: ys)) : ∃ x r, l = .tcons x r ∧ LitAt H x y ∧ Items H r ys := by
  cases l with
  | tcons x r => obtain ⟨z, zs, e, h1, h2⟩ := h; cases e; exact ⟨x, r, rfl, h1, h2⟩
  | tnil => have e : (y :: ys) = [] := h; cases e
  | str z => exact False.elim h
  | oth => exact False.elim h
theorem Items.nil' {H : Hp} {l : Lit} (h : Items H l []) : l = .tnil := by
  cases l with
  | tcons x r => obtain ⟨z, zs, e, _⟩ := h; cases e
  | tnil => rfl
  | str z => exact False.elim h
  | oth => exact False.elim h
/-- what it is as a saying -/
theorem lit_rep {H : Hp} {v : V} {s : Sy} (r : Rep H v s) : ∀ {l : Lit}, LitAt H l v → toSy l = some s := by
  induction r with
  | bare hw e =>
    intro l h
    obtain ⟨x, r, rfl, h1, h2⟩ := h.of_tup e
    obtain ⟨x2, r2, rfl, h3, h4⟩ := Items.cons h2
    obtain ⟨x3, r3, rfl, h5, h6⟩ := Items.cons h4
    rw [h1.of_str, h3.of_str, h5.of_str, Items.nil' h6]
    simp only [toSy]
    rw [if_pos hw]
  | neg e _ ih =>
    intro l h
    obtain ⟨x, r, rfl, h1, h2⟩ := h.of_tup e
    obtain ⟨x2, r2, rfl, h3, h4⟩ := Items.cons h2
    rw [h1.of_str, Items.nil' h4]
    simp only [toSy]
    rw [if_pos trivial, ih h3]
    rfl
  | two hw e _ _ ih1 ih2 =>
    intro l h
    obtain ⟨x, r, rfl, h1, h2⟩ := h.of_tup e
    obtain ⟨x2, r2, rfl, h3, h4⟩ := Items.cons h2
    obtain ⟨x3, r3, rfl, h5, h6⟩ := Items.cons h4
    rw [h1.of_str, Items.nil' h6]
    simp only [toSy]
    rw [if_neg (join_bare _ hw), if_pos hw, ih1 h3, ih2 h5]
  | qu hw e _ ih =>
    intro l h
    obtain ⟨x, r, rfl, h1, h2⟩ := h.of_tup e
    obtain ⟨x2, r2, rfl, h3, h4⟩ := Items.cons h2
    obtain ⟨x3, r3, rfl, h5, h6⟩ := Items.cons h4
    rw [h1.of_str, h3.of_str, Items.nil' h6]
    simp only [toSy]
    rw [if_neg (tell_bare _ hw).1, if_neg (tell_bare _ hw).2, if_pos hw, ih h5]
    rfl
/-- not let among these names -/
def Bad (H : Hp) (bw : List Str) (mo : Nat) (tl : List Str) (v : V) : Prop := ∀ s, Rep H v s → wfB s = true → letB bw mo tl s = false
def badL (bw : List Str) (mo : Nat) (tl : List Str) (l : Lit) : Bool := match toSy l with
  | none => true
  | some s => !wfB s || !letB bw mo tl s
theorem LitAt.bad {H : Hp} {l : Lit} {v : V} {bw : List Str} {mo : Nat} {tl : List Str} (h : LitAt H l v) (hb : badL bw mo tl l = true) : Bad H bw mo tl v := fun s r hw => by
  have e := lit_rep r h
  unfold badL at hb
  rw [e] at hb
  have hb' : (!wfB s || !letB bw mo tl s) = true := hb
  rw [hw] at hb'
  simpa using hb'
end SS

set_option Elab.async false
set_option linter.all false
set_option maxRecDepth 100000
set_option maxHeartbeats 1000000
/-! drawn sayings are let; what comes of names more or fewer, of nots round them -/
namespace SS
open PySem PySem.Spec PyProof.Rows L2
theorem nm_len {z l : Str} (h : isNm (.str z) l = true) : z.length ≤ 4 := by
  obtain ⟨c, r, e, hl, _⟩ := nm_ex h
  rw [str_len, e, List.length_cons]
  omega
theorem name_len {z : Str} (h : isName (.str z) = true) : z.length ≤ 4 := (name_cases h).elim nm_len nm_len
theorem words_short : ∀ w ∈ bareWords, w.length ≤ 1000 := by decide +kernel
theorem wf_names {w n m : Str} (h : wfB (.bare w n m) = true) : n.length ≤ 4 ∧ m.length ≤ 4 := by
  have h' : (if w = ("in" : Str) then isPl n && isSt m else if w = ("within" : Str) then isSt n && isSt m else isPl n && isPl m) = true := h
  split at h'
  · rw [Bool.and_eq_true] at h'; exact ⟨nm_len h'.1, nm_len h'.2⟩
  · split at h'
    · rw [Bool.and_eq_true] at h'; exact ⟨nm_len h'.1, nm_len h'.2⟩
    · rw [Bool.and_eq_true] at h'; exact ⟨nm_len h'.1, nm_len h'.2⟩
theorem Exp.str {H : Hp} {z : Str} (h : z.length ≤ 1000) : ∀ n, Exp H n (.str z)
  | 0 => Thing.str h
  | n + 1 => ⟨Thing.str h, fun a xs e => by cases e⟩
theorem Exp.tup {H : Hp} {a : Addr} {xs : List V} {n : Nat} (e : H a = some (.tup xs)) (hl : xs.length ≤ 1000) (h : ∀ x ∈ xs, Exp H n x) : Exp H (n + 1) (.ref a) :=
  ⟨Thing.tup e, fun a' xs' ev e' => by cases ev; rw [e] at e'; cases e'; exact ⟨hl, h⟩⟩
theorem Rep.exp {H : Hp} {v : V} {s : Sy} (r : Rep H v s) : wfB s = true → ∀ n, Exp H n v := by
  induction r with
  | bare hw e =>
    intro h n
    obtain ⟨l1, l2⟩ := wf_names h
    cases n with
    | zero => exact Thing.tup e
    | succ n =>
      refine Exp.tup e (by simp) fun x hx => ?_
      simp only [List.mem_cons, List.not_mem_nil, or_false] at hx
      rcases hx with rfl | rfl | rfl
      · exact Exp.str (words_short _ hw) n
      · exact Exp.str (by omega) n
      · exact Exp.str (by omega) n
  | neg e _ ih =>
    intro h n
    cases n with
    | zero => exact Thing.tup e
    | succ n =>
      refine Exp.tup e (by simp) fun x hx => ?_
      simp only [List.mem_cons, List.not_mem_nil, or_false] at hx
      rcases hx with rfl | rfl
      · exact Exp.str (by decide +kernel) n
      · exact ih h n
  | two hw e _ _ ih1 ih2 =>
    rename_i w _ _ s t _ _
    intro h n
    have h' : (wfB s && wfB t) = true := h
    rw [Bool.and_eq_true] at h'
    cases n with
    | zero => exact Thing.tup e
    | succ n =>
      refine Exp.tup e (by simp) fun x hx => ?_
      simp only [List.mem_cons, List.not_mem_nil, or_false] at hx
      rcases hx with rfl | rfl | rfl
      · refine Exp.str ?_ n
        have : ∀ w ∈ (["and", "or"] : List Str), w.length ≤ 1000 := by decide +kernel
        exact this w hw
      · exact ih1 h'.1 n
      · exact ih2 h'.2 n
  | qu hw e _ ih =>
    rename_i w nm _ s _
    intro h n
    have h' : (isName (.str nm) && wfB s) = true := h
    rw [Bool.and_eq_true] at h'
    cases n with
    | zero => exact Thing.tup e
    | succ n =>
      refine Exp.tup e (by simp) fun x hx => ?_
      simp only [List.mem_cons, List.not_mem_nil, or_false] at hx
      rcases hx with rfl | rfl | rfl
      · refine Exp.str ?_ n
        have : ∀ w ∈ (["some", "all"] : List Str), w.length ≤ 1000 := by decide +kernel
        exact this w hw
      · exact Exp.str (by have := name_len h'.1; omega) n
      · exact ih h'.2 n
/-! ### drawn sayings -/
/-! ### names more, names fewer -/
/-! ### nots round it -/
end SS

set_option Elab.async false
set_option linter.all false
set_option maxRecDepth 100000
/-! promises of the laws' walks over sayings -/
namespace SS
open PySem PySem.Spec PyProof.Rows L2
end SS

set_option Elab.async false
set_option linter.all false
set_option maxRecDepth 100000
set_option maxHeartbeats 1000000
/-! what is told of a thing and a frame -/
namespace SS
open PySem PySem.Spec PyProof.Rows L2
/-- short texts, few -/
structure Few (tl : List Str) : Prop where
  l : tl.length ≤ 1000
  z : ∀ z ∈ tl, z.length ≤ 1000
theorem Names.few {tl : List Str} (nm : Names tl) (hl : tl.length ≤ 4) : Few tl := ⟨by omega, fun z hz => by have := nm.len z hz; omega⟩
section
variable {H : Hp} {a : Addr} {tl bw : List Str} {mo : Nat} {v : V} {s : Sy} {b : Bool} {Q : VK} {E : XK}
end
/-! ### which sayings -/
end SS

set_option Elab.async false
set_option linter.all false
set_option maxRecDepth 100000
/-! the written table of forms, found in the text -/
namespace SS
open PySem PySem.Spec PyProof.Rows L2
section
variable {K : PySem.W.Frag} {w : World} {h : Heap} {mg : Str → Option Value}
end
end SS

set_option Elab.async false
set_option linter.all false
set_option maxRecDepth 100000
set_option maxHeartbeats 1000000
/-! the parts of a saying, and which words and names they bear -/
namespace SS
open PySem PySem.Spec PyProof.Rows L2
inductive Reps (H : Hp) : List V → List Sy → Prop
  | nil : Reps H [] []
  | cons {v : V} {s : Sy} {vs : List V} {ss : List Sy} (r : Rep H v s) (q : Reps H vs ss) : Reps H (v :: vs) (s :: ss)
theorem Reps.same {H H' : Hp} {vs : List V} {ss : List Sy} (h : Reps H vs ss) (g : Same H H') : Reps H' vs ss := by
  induction h with
  | nil => exact .nil
  | cons r _ ih => exact .cons (r.same g) ih
theorem Reps.app {H : Hp} {vs us : List V} {ss ts : List Sy} (h : Reps H vs ss) (k : Reps H us ts) : Reps H (vs ++ us) (ss ++ ts) := by
  induction h with
  | nil => exact k
  | cons r _ ih => exact .cons r ih
theorem Reps.len {H : Hp} {vs : List V} {ss : List Sy} (h : Reps H vs ss) : vs.length = ss.length := by
  induction h with
  | nil => rfl
  | cons r _ ih => rw [List.length_cons, List.length_cons, ih]
theorem Reps.mem {H : Hp} {vs : List V} {ss : List Sy} (h : Reps H vs ss) : ∀ v ∈ vs, ∃ s ∈ ss, Rep H v s := by
  induction h with
  | nil => exact fun v hv => nomatch hv
  | cons r _ ih =>
    intro v hv
    rcases List.mem_cons.mp hv with rfl | hv
    · exact ⟨_, List.mem_cons_self, r⟩
    · obtain ⟨s, m, q⟩ := ih v hv
      exact ⟨s, List.mem_cons_of_mem _ m, q⟩
/-! ### what stands in a part -/
def headV (H : Hp) : V → V
  | .ref a => match H a with
    | some (.tup (x :: _)) => x
    | _ => .non
  | _ => .non
def secV (H : Hp) : V → V
  | .ref a => match H a with
    | some (.tup (_ :: y :: _)) => y
    | _ => .non
  | _ => .non
theorem Rep.head {H : Hp} {v : V} {s : Sy} (r : Rep H v s) : ∃ a y l, v = .ref a ∧ H a = some (.tup (.str (wordOf s) :: y :: l)) ∧ headV H v = .str (wordOf s) ∧ secV H v = y := by
  cases r with
  | bare hw e => exact ⟨_, _, _, rfl, e, by simp only [headV, e]; rfl, by simp only [secV, e]⟩
  | neg e _ => exact ⟨_, _, _, rfl, e, by simp only [headV, e]; rfl, by simp only [secV, e]⟩
  | two hw e _ _ => exact ⟨_, _, _, rfl, e, by simp only [headV, e]; rfl, by simp only [secV, e]⟩
  | qu hw e _ => exact ⟨_, _, _, rfl, e, by simp only [headV, e]; rfl, by simp only [secV, e]⟩
end SS

set_option Elab.async false
set_option linter.all false
set_option maxRecDepth 100000
set_option maxHeartbeats 1000000
namespace SS
open PySem PySem.Spec PyProof.Rows L2
section
variable {H : Hp} {a : Addr} {tl bw : List Str} {mo : Nat} {v : V} {s : Sy} {b : Bool} {Q : VK} {E : XK}
end
end SS

set_option linter.all false
/-! MACHINES, the bare mathematics: no program, no heap -/
namespace SM
structure Mc where
  w : Nat
  ways : List (List Nat)
  ends : List Bool
structure Mc.Ok (m : Mc) : Prop where
  wid : m.w ≤ 4
  pos : 0 < m.ends.length
  few : m.ends.length ≤ 100
  len : m.ways.length = m.ends.length
  line : ∀ l ∈ m.ways, l.length = 2 ^ m.w
  room : ∀ l ∈ m.ways, ∀ r ∈ l, r < m.ends.length
abbrev Mc.n (m : Mc) : Nat := m.ends.length
def Mc.go (m : Mc) (r l : Nat) : Nat := (m.ways.getD r []).getD l 0
def Mc.fin (m : Mc) (r : Nat) : Bool := m.ends.getD r false
theorem Mc.Ok.at {m : Mc} (ok : m.Ok) {r l : Nat} (hr : r < m.ends.length) (hl : l < 2 ^ m.w) : ∃ line, m.ways[r]? = some line ∧ line[l]? = some (m.go r l) ∧ m.go r l < m.ends.length := by
  have h1 : r < m.ways.length := by rw [ok.len]; exact hr
  have e1 : m.ways[r]? = some m.ways[r] := List.getElem?_eq_getElem h1
  have h2 : l < m.ways[r].length := by rw [ok.line _ (List.getElem_mem h1)]; exact hl
  have e2 : m.ways[r][l]? = some m.ways[r][l] := List.getElem?_eq_getElem h2
  have eg : m.go r l = m.ways[r][l] := by
    simp only [Mc.go, List.getD_eq_getElem?_getD, e1, Option.getD_some, e2]
  exact ⟨_, e1, by rw [eg]; exact e2, by rw [eg]; exact ok.room _ (List.getElem_mem h1) _ (List.getElem_mem h2)⟩
theorem Mc.Ok.go_lt {m : Mc} (ok : m.Ok) {r l : Nat} (hr : r < m.n) (hl : l < 2 ^ m.w) : m.go r l < m.n := let ⟨_, _, _, h⟩ := ok.at hr hl; h
theorem Mc.fin_at {m : Mc} {r : Nat} (hr : r < m.ends.length) : m.ends[r]? = some (m.fin r) := by
  unfold Mc.fin
  rw [List.getD_eq_getElem?_getD, List.getElem?_eq_getElem hr, Option.getD_some]
def Mc.run (m : Mc) (r : Nat) (row : List Nat) : Nat := row.foldl m.go r
theorem Mc.run_snoc (m : Mc) (r : Nat) (row : List Nat) (l : Nat) : m.run r (row ++ [l]) = m.go (m.run r row) l := by unfold Mc.run; rw [List.foldl_append]; rfl
theorem Mc.Ok.run_lt {m : Mc} (ok : m.Ok) : ∀ (row : List Nat) (r : Nat), r < m.ends.length → (∀ l ∈ row, l < 2 ^ m.w) → m.run r row < m.ends.length
  | [], r, h, _ => h
  | x :: row, r, h, hl => by
    obtain ⟨_, _, _, h2⟩ := ok.at h (hl x List.mem_cons_self)
    exact run_lt ok row (m.go r x) h2 fun l z => hl l (List.mem_cons_of_mem _ z)
theorem pow_nat (n : Nat) : (2 : Int) ^ n = ((2 ^ n : Nat) : Int) := by
  induction n with
  | zero => rfl
  | succ n ih => rw [Int.pow_succ, Nat.pow_succ, ih]; omega
theorem pow_small {w : Nat} (h : w ≤ 4) : 1 ≤ 2 ^ w ∧ 2 ^ w ≤ 16 := by
  have : w = 0 ∨ w = 1 ∨ w = 2 ∨ w = 3 ∨ w = 4 := by omega
  rcases this with rfl | rfl | rfl | rfl | rfl <;> decide
/-! ### alike from two rooms on -/
def Mc.Row (m : Mc) (row : List Nat) : Prop := ∀ l ∈ row, l < 2 ^ m.w
def Par (m : Mc) (r : Nat) (m' : Mc) (r' : Nat) : Prop := ∀ row, m.Row row → m.fin (m.run r row) = m'.fin (m'.run r' row)
theorem Mc.Row.cons {m : Mc} {l : Nat} {row : List Nat} (hl : l < 2 ^ m.w) (h : m.Row row) : m.Row (l :: row) := fun x hx => by
  rcases List.mem_cons.mp hx with rfl | hx
  · exact hl
  · exact h x hx
theorem Mc.Row.nil (m : Mc) : m.Row [] := fun _ h => nomatch h
theorem Par.refl (m : Mc) (r : Nat) : Par m r m r := fun _ _ => rfl
theorem Par.go {m m' : Mc} {r r' l : Nat} (h : Par m r m' r') (hl : l < 2 ^ m.w) : Par m (m.go r l) m' (m'.go r' l) := fun row hr => h (l :: row) (hr.cons hl)
theorem Par.symm {m m' : Mc} {r r' : Nat} (h : Par m r m' r') (hw : m.w = m'.w) : Par m' r' m r := fun row hr => (h row fun l hl => by rw [hw]; exact hr l hl).symm
theorem Par.trans {m m' m'' : Mc} {r r' r'' : Nat} (h : Par m r m' r') (h' : Par m' r' m'' r'') (hw : m.w = m'.w) : Par m r m'' r'' := fun row hr => (h row hr).trans (h' row fun l hl => by rw [← hw]; exact hr l hl)
theorem Par.fin {m m' : Mc} {r r' : Nat} (h : Par m r m' r') : m.fin r = m'.fin r' := h [] (Mc.Row.nil m)
/-- a relation that is kept along the ways, and whose truths are the same -/
theorem Par.of {m m' : Mc} (R : Nat → Nat → Prop) (hf : ∀ r r', R r r' → m.fin r = m'.fin r') (hg : ∀ r r' l, R r r' → l < 2 ^ m.w → R (m.go r l) (m'.go r' l)) {r r' : Nat} (h : R r r') : Par m r m' r' := fun row => by
  induction row generalizing r r' with
  | nil => exact fun _ => hf r r' h
  | cons l row ih => exact fun hr => ih (hg r r' l h (hr l List.mem_cons_self)) fun x hx => hr x (List.mem_cons_of_mem _ hx)
/-! ### the order of coming, the one least machine -/
def Lex (r' l' r l : Nat) : Prop := r' < r ∨ (r' = r ∧ l' < l)
structure Mc.Ord (m : Mc) : Prop where
  grow : ∀ r l b, r < m.n → l < 2 ^ m.w → 0 < b → b < m.go r l → ∃ r' l', l' < 2 ^ m.w ∧ Lex r' l' r l ∧ m.go r' l' = b
  par : ∀ b, 0 < b → b < m.n → ∃ r' l', r' < b ∧ l' < 2 ^ m.w ∧ m.go r' l' = b
structure Canon (m : Mc) : Prop where
  ord : m.Ord
  dist : ∀ i j, i < m.n → j < m.n → Par m i m j → i = j
/-! ### rooms come to -/
/-- the list's item, by its place -/
def ix (xs : List Nat) (i : Nat) : Nat := xs.getD i 0
theorem ix_at {xs : List Nat} {i : Nat} (h : i < xs.length) : xs[i]? = some (ix xs i) := by
  unfold ix
  rw [List.getD_eq_getElem?_getD, List.getElem?_eq_getElem h, Option.getD_some]
theorem ix_of {xs : List Nat} {i v : Nat} (h : xs[i]? = some v) : ix xs i = v := by unfold ix; rw [List.getD_eq_getElem?_getD, h]; rfl
theorem ix_mem {xs : List Nat} {i : Nat} (h : i < xs.length) : ix xs i ∈ xs := List.mem_of_getElem? (ix_at h)
theorem ix_ex {xs : List Nat} {v : Nat} (h : v ∈ xs) : ∃ i, i < xs.length ∧ ix xs i = v := by
  obtain ⟨i, hi, e⟩ := List.getElem_of_mem h
  exact ⟨i, hi, ix_of (by rw [List.getElem?_eq_getElem hi, e])⟩
theorem ix_app {xs ys : List Nat} {i : Nat} (h : i < xs.length) : ix (xs ++ ys) i = ix xs i := by
  unfold ix; rw [List.getD_eq_getElem?_getD, List.getD_eq_getElem?_getD, List.getElem?_append_left h]
theorem ix_last (xs : List Nat) (v : Nat) : ix (xs ++ [v]) xs.length = v := by simp [ix]
theorem ix_inj {xs : List Nat} (hn : xs.Nodup) {i j : Nat} (hi : i < xs.length) (hj : j < xs.length) (e : ix xs i = ix xs j) : i = j := by
  have h1 := ix_at hi
  rw [e, ← ix_at hj] at h1
  exact (List.getElem?_inj hi hn).mp h1
/-- what stands when the ways of the places ahead of (at, l) have been gone: l letters of the place at -/
structure Come (m : Mc) (rooms : List Nat) (at' l : Nat) : Prop where
  nd : rooms.Nodup
  zero : ix rooms 0 = 0
  pos : 0 < rooms.length
  lt : ∀ r ∈ rooms, r < m.n
  disc : ∀ b, 0 < b → b < rooms.length → ∃ r' l', r' < b ∧ l' < 2 ^ m.w ∧ Lex r' l' at' l ∧ m.go (ix rooms r') l' = ix rooms b
  clos : ∀ r l', r < rooms.length → l' < 2 ^ m.w → Lex r l' at' l → ∃ t, t < rooms.length ∧ ix rooms t = m.go (ix rooms r) l' ∧
    ∀ b, 0 < b → b < t → ∃ r'' l'', l'' < 2 ^ m.w ∧ Lex r'' l'' r l' ∧ r'' < rooms.length ∧ m.go (ix rooms r'') l'' = ix rooms b
theorem Come.start {m : Mc} (h : 0 < m.n) : Come m [0] 0 0 :=
  ⟨by simp, rfl, by simp, fun r hr => by rw [List.mem_singleton.mp hr]; exact h, fun b h0 h1 => by simp at h1; omega, fun r l' _ _ lx => by rcases lx with z | ⟨_, z⟩ <;> omega⟩
theorem lex_next {r l' a l : Nat} (h : Lex r l' a (l + 1)) : Lex r l' a l ∨ (r = a ∧ l' = l) := by
  rcases h with h | ⟨h, h'⟩
  · exact .inl (.inl h)
  · by_cases e : l' = l
    · exact .inr ⟨h, e⟩
    · exact .inl (.inr ⟨h, by omega⟩)
theorem lex_up {r l' a l : Nat} (h : Lex r l' a l) : Lex r l' a (l + 1) := h.imp id fun ⟨h, h'⟩ => ⟨h, by omega⟩
/-- an old room -/
theorem Come.old {m : Mc} {rooms : List Nat} {a l : Nat} (c : Come m rooms a l) (ha : a < rooms.length) (hk : m.go (ix rooms a) l ∈ rooms) : Come m rooms a (l + 1) := by
  refine ⟨c.nd, c.zero, c.pos, c.lt, fun b h0 h1 => ?_, fun r l' hr hl' lx => ?_⟩
  · obtain ⟨r', l', h2, h3, h4, h5⟩ := c.disc b h0 h1
    exact ⟨r', l', h2, h3, lex_up h4, h5⟩
  · rcases lex_next lx with lx | ⟨rfl, rfl⟩
    · exact c.clos r l' hr hl' lx
    · obtain ⟨t, ht, et⟩ := ix_ex hk
      refine ⟨t, ht, et, fun b h0 h1 => ?_⟩
      obtain ⟨r', l'', h2, h3, h4, h5⟩ := c.disc b h0 (by omega)
      exact ⟨r', l'', h3, h4, by omega, h5⟩
/-- a new one -/
theorem Come.new {m : Mc} {rooms : List Nat} {a l : Nat} (c : Come m rooms a l) (ha : a < rooms.length) (hl : l < 2 ^ m.w) (hn : m.go (ix rooms a) l < m.n) (hk : ¬ m.go (ix rooms a) l ∈ rooms) : Come m (rooms ++ [m.go (ix rooms a) l]) a (l + 1) := by
  have len : (rooms ++ [m.go (ix rooms a) l]).length = rooms.length + 1 := by simp
  have up : ∀ {r : Nat}, r < rooms.length → ix (rooms ++ [m.go (ix rooms a) l]) r = ix rooms r := fun h => ix_app h
  refine ⟨?_, by rw [up c.pos]; exact c.zero, by omega, fun r hr => ?_, fun b h0 h1 => ?_, fun r l' hr hl' lx => ?_⟩
  · refine List.nodup_append.mpr ⟨c.nd, by simp, fun x hx y hy => ?_⟩
    rw [List.mem_singleton.mp hy]
    intro e; rw [e] at hx; exact hk hx
  · rcases List.mem_append.mp hr with h | h
    · exact c.lt r h
    · rw [List.mem_singleton.mp h]; exact hn
  · by_cases hb : b < rooms.length
    · obtain ⟨r', l', h2, h3, h4, h5⟩ := c.disc b h0 hb
      exact ⟨r', l', h2, h3, lex_up h4, by rw [up (by omega), up hb]; exact h5⟩
    · have e : b = rooms.length := by omega
      subst e
      exact ⟨a, l, ha, hl, .inr ⟨rfl, by omega⟩, by rw [up ha, ix_last]⟩
  · rcases lex_next lx with lx | ⟨rfl, rfl⟩
    · have hra : r < rooms.length := by rcases lx with z | ⟨z, _⟩ <;> omega
      obtain ⟨t, ht, et, g⟩ := c.clos r l' hra hl' lx
      refine ⟨t, by omega, by rw [up ht, up hra]; exact et, fun b h0 h1 => ?_⟩
      obtain ⟨r'', l'', h2, h3, h4, h5⟩ := g b h0 h1
      exact ⟨r'', l'', h2, h3, by omega, by rw [up h4, up (by omega)]; exact h5⟩
    · refine ⟨rooms.length, by omega, by rw [ix_last, up ha], fun b h0 h1 => ?_⟩
      obtain ⟨r', l'', h2, h3, h4, h5⟩ := c.disc b h0 h1
      exact ⟨r', l'', h3, h4, by omega, by rw [up (by omega), up h1]; exact h5⟩
theorem Come.turn {m : Mc} {rooms : List Nat} {a : Nat} (c : Come m rooms a (2 ^ m.w)) : Come m rooms (a + 1) 0 := by
  have up : ∀ {r l : Nat}, l < 2 ^ m.w → Lex r l (a + 1) 0 → Lex r l a (2 ^ m.w) := fun {r l} hl lx => by
    rcases lx with z | ⟨_, z⟩
    · by_cases e : r = a
      · exact .inr ⟨e, hl⟩
      · exact .inl (by omega)
    · omega
  refine ⟨c.nd, c.zero, c.pos, c.lt, fun b h0 h1 => ?_, fun r l' hr hl' lx => c.clos r l' hr hl' (up hl' lx)⟩
  obtain ⟨r', l', h2, h3, h4, h5⟩ := c.disc b h0 h1
  refine ⟨r', l', h2, h3, ?_, h5⟩
  rcases h4 with z | ⟨z, _⟩
  · exact .inl (by omega)
  · exact .inl (by omega)
theorem nodup_le : ∀ {xs : List Nat} {n : Nat}, xs.Nodup → (∀ x ∈ xs, x < n) → xs.length ≤ n
  | xs, 0, _, h => by cases xs with | nil => exact Nat.le_refl _ | cons x r => exact absurd (h x List.mem_cons_self) (Nat.not_lt_zero _)
  | xs, n + 1, hn, h => by
    have h1 : (xs.erase n).length ≤ n := nodup_le (hn.erase n) fun x hx => by
      have h2 := h x (List.mem_of_mem_erase hx)
      have h3 : x ≠ n := fun e => by rw [e] at hx; exact (List.Nodup.not_mem_erase hn) hx
      omega
    by_cases hm : n ∈ xs
    · have h2 := List.length_erase_of_mem hm
      have h3 := List.length_pos_of_mem hm
      omega
    · rw [List.erase_of_not_mem hm] at h1; omega
/-! ### a machine of some of the rooms -/
/-! ### sorts -/
/-- numbered as they first come -/
structure Srt (ns : List Nat) : Prop where
  grow : ∀ i, i < ns.length → ∀ b, b < ix ns i → ∃ j, j < i ∧ ix ns j = b
theorem Srt.le {ns : List Nat} (h : Srt ns) (i : Nat) (hi : i < ns.length) : ix ns i ≤ i := by
  induction i using Nat.strongRecOn with
  | _ i ih =>
    by_cases h0 : ix ns i = 0
    · omega
    · obtain ⟨j, hj, e⟩ := h.grow i hi (ix ns i - 1) (by omega)
      have := ih j hj (by omega)
      omega
/-- the sorts of a machine on the way: those of one sort have one truth, those of two are parted -/
structure Sorts (m : Mc) (ns : List Nat) : Prop where
  srt : Srt ns
  len : ns.length = m.n
  fin : ∀ i j, i < m.n → j < m.n → ix ns i = ix ns j → m.fin i = m.fin j
  sep : ∀ i j, i < m.n → j < m.n → Par m i m j → ix ns i = ix ns j
/-- the first room of each sort -/
structure Firsts (ns fs : List Nat) : Prop where
  lt : ∀ s, s < fs.length → ix fs s < ns.length
  is : ∀ s, s < fs.length → ix ns (ix fs s) = s
  le : ∀ s j, s < fs.length → j < ns.length → ix ns j = s → ix fs s ≤ j
  all : ∀ i, i < ns.length → ix ns i < fs.length
/-! ### numbers of marks -/
structure Num {α : Type} (marks : List α) (ns : List Nat) : Prop where
  len : ns.length = marks.length
  eq : ∀ i j a b, marks[i]? = some a → marks[j]? = some b → (ix ns i = ix ns j ↔ a = b)
  srt : Srt ns
end SM
namespace SM
/-! ### each mark once, as they first come -/
section
variable {α : Type} [DecidableEq α]
end
end SM
namespace SM
/-- what a machine that is least keeps to -/
structure Red (m m' : Mc) : Prop where
  ok : m'.Ok
  w : m'.w = m.w
  canon : Canon m'
  par : Par m 0 m' 0
  le : m'.n ≤ m.n
end SM
namespace SM
/-! ### pairs of rooms come to together, each as a list of two -/
structure PCome (m1 m2 : Mc) (ls : List (List Nat)) (at' l : Nat) : Prop where
  zero : ls[0]? = some [0, 0]
  nd : ls.Nodup
  sound : ∀ x ∈ ls, ∃ row, m1.Row row ∧ x = [m1.run 0 row, m2.run 0 row]
  clos : ∀ i l' a b, Lex i l' at' l → l' < 2 ^ m1.w → ls[i]? = some [a, b] → [m1.go a l', m2.go b l'] ∈ ls
theorem PCome.start (m1 m2 : Mc) : PCome m1 m2 [[0, 0]] 0 0 :=
  ⟨rfl, by simp, fun x hx => by rw [List.mem_singleton.mp hx]; exact ⟨[], Mc.Row.nil _, rfl⟩, fun i l' a b lx => by rcases lx with z | ⟨_, z⟩ <;> omega⟩
theorem PCome.old {m1 m2 : Mc} {ls : List (List Nat)} {at' l a b : Nat} (c : PCome m1 m2 ls at' l) (ha : ls[at']? = some [a, b]) (hk : [m1.go a l, m2.go b l] ∈ ls) : PCome m1 m2 ls at' (l + 1) :=
  ⟨c.zero, c.nd, c.sound, fun i l' x y lx hl e => by
    rcases lex_next lx with lx | ⟨rfl, rfl⟩
    · exact c.clos i l' x y lx hl e
    · rw [ha] at e; cases e; exact hk⟩
theorem run_more {m : Mc} {r l : Nat} {row : List Nat} : m.run r (row ++ [l]) = m.go (m.run r row) l := Mc.run_snoc m r row l
theorem PCome.new {m1 m2 : Mc} {ls : List (List Nat)} {at' l a b : Nat} (c : PCome m1 m2 ls at' l) (hl : l < 2 ^ m1.w) (ha : ls[at']? = some [a, b]) (hk : ¬ [m1.go a l, m2.go b l] ∈ ls) : PCome m1 m2 (ls ++ [[m1.go a l, m2.go b l]]) at' (l + 1) := by
  have up : ∀ {i : Nat} {x : List Nat}, ls[i]? = some x → (ls ++ [[m1.go a l, m2.go b l]])[i]? = some x := fun {i x} h => by
    rw [List.getElem?_append_left (List.getElem?_eq_some_iff.mp h).1]; exact h
  have low : ∀ {i : Nat} {x : List Nat}, i ≤ at' → (ls ++ [[m1.go a l, m2.go b l]])[i]? = some x → ls[i]? = some x := fun {i x} hi h => by
    have := (List.getElem?_eq_some_iff.mp ha).1
    rw [List.getElem?_append_left (by omega)] at h; exact h
  refine ⟨up c.zero, ?_, fun x hx => ?_, fun i l' x y lx hl' e => ?_⟩
  · refine List.nodup_append.mpr ⟨c.nd, by simp, fun x hx y hy => ?_⟩
    rw [List.mem_singleton.mp hy]
    intro e; rw [e] at hx; exact hk hx
  · rcases List.mem_append.mp hx with h | h
    · exact c.sound x h
    · rw [List.mem_singleton.mp h]
      obtain ⟨row, h1, h2⟩ := c.sound _ (List.mem_of_getElem? ha)
      rw [List.cons.injEq, List.cons.injEq] at h2
      refine ⟨row ++ [l], fun z hz => ?_, by rw [run_more, run_more, ← h2.1, ← h2.2.1]⟩
      rcases List.mem_append.mp hz with h | h
      · exact h1 z h
      · rw [List.mem_singleton.mp h]; exact hl
  · rcases lex_next lx with lx | ⟨rfl, rfl⟩
    · have hi : i ≤ at' := by rcases lx with z | ⟨z, _⟩ <;> omega
      exact List.mem_append_left _ (c.clos i l' x y lx hl' (low hi e))
    · have := low (Nat.le_refl _) e
      rw [ha] at this
      cases this
      exact List.mem_append_right _ (List.mem_singleton.mpr rfl)
theorem PCome.turn {m1 m2 : Mc} {ls : List (List Nat)} {at' : Nat} (c : PCome m1 m2 ls at' (2 ^ m1.w)) : PCome m1 m2 ls (at' + 1) 0 :=
  ⟨c.zero, c.nd, c.sound, fun i l' x y lx hl e => c.clos i l' x y (by
    rcases lx with z | ⟨_, z⟩
    · by_cases h : i = at'
      · exact .inr ⟨h, hl⟩
      · exact .inl (by omega)
    · omega) hl e⟩
theorem PCome.skip {m1 m2 : Mc} {ls : List (List Nat)} {at' : Nat} (c : PCome m1 m2 ls at' 0) (h : ls.length ≤ at') : PCome m1 m2 ls (at' + 1) 0 :=
  ⟨c.zero, c.nd, c.sound, fun i l' x y lx hl e => by
    have := (List.getElem?_eq_some_iff.mp e).1
    exact c.clos i l' x y (.inl (by omega)) hl e⟩
theorem PCome.at_lt {m1 m2 : Mc} (o1 : m1.Ok) (o2 : m2.Ok) (hw : m1.w = m2.w) {ls : List (List Nat)} {at' l : Nat} (c : PCome m1 m2 ls at' l) {x : List Nat} (h : x ∈ ls) : ∃ a b, x = [a, b] ∧ a < m1.n ∧ b < m2.n := by
  obtain ⟨row, h1, rfl⟩ := c.sound x h
  exact ⟨_, _, rfl, o1.run_lt row 0 o1.pos h1, o2.run_lt row 0 o2.pos fun z hz => by rw [← hw]; exact h1 z hz⟩
theorem PCome.len {m1 m2 : Mc} (o1 : m1.Ok) (o2 : m2.Ok) (hw : m1.w = m2.w) {ls : List (List Nat)} {at' l : Nat} (c : PCome m1 m2 ls at' l) : ls.length ≤ m1.n * m2.n := by
  have h : (ls.map fun x => x.getD 0 0 * m2.n + x.getD 1 0).length ≤ m1.n * m2.n := by
    refine nodup_le ?_ fun y hy => ?_
    · have inj : ∀ x ∈ ls, ∀ y ∈ ls, x.getD 0 0 * m2.n + x.getD 1 0 = y.getD 0 0 * m2.n + y.getD 1 0 → x = y := fun x hx y hy e => by
        obtain ⟨a, b, rfl, ha, hb⟩ := c.at_lt o1 o2 hw hx
        obtain ⟨a', b', rfl, ha', hb'⟩ := c.at_lt o1 o2 hw hy
        simp only [List.getD_cons_zero, List.getD_cons_succ] at e
        have e1 : a = a' := by
          have h1 := congrArg (· / m2.n) e
          simp only [Nat.mul_comm _ m2.n] at h1
          rw [Nat.mul_add_div (by omega), Nat.mul_add_div (by omega), Nat.div_eq_of_lt hb, Nat.div_eq_of_lt hb'] at h1
          omega
        subst e1
        rw [show b = b' by omega]
      have : ∀ (l : List (List Nat)), (∀ x ∈ l, x ∈ ls) → l.Nodup → (l.map fun x => x.getD 0 0 * m2.n + x.getD 1 0).Nodup := fun l => by
        induction l with
        | nil => intro _ _; exact List.nodup_nil
        | cons x l ih =>
          intro hl hn
          rw [List.nodup_cons] at hn
          rw [List.map_cons, List.nodup_cons]
          refine ⟨fun z => ?_, ih (fun y hy => hl y (List.mem_cons_of_mem _ hy)) hn.2⟩
          obtain ⟨y, my, e⟩ := List.mem_map.mp z
          have := inj y (hl y (List.mem_cons_of_mem _ my)) x (hl x List.mem_cons_self) e
          rw [this] at my
          exact hn.1 my
      exact this ls (fun _ h => h) c.nd
    · obtain ⟨x, mx, rfl⟩ := List.mem_map.mp hy
      obtain ⟨a, b, rfl, ha, hb⟩ := c.at_lt o1 o2 hw mx
      simp only [List.getD_cons_zero, List.getD_cons_succ]
      have : (a + 1) * m2.n ≤ m1.n * m2.n := Nat.mul_le_mul_right _ ha
      rw [Nat.succ_mul] at this
      omega
  rw [List.length_map] at h
  exact h
end SM
namespace SM
/-! ### rooms numbered anew -/
/-- each number below n once, 0 first -/
structure Places (ps : List Nat) (n : Nat) : Prop where
  len : ps.length = n
  nd : ps.Nodup
  lt : ∀ x ∈ ps, x < n
  zero : ix ps 0 = 0
theorem nodup_all : ∀ {n : Nat} {xs : List Nat}, xs.Nodup → (∀ x ∈ xs, x < n) → xs.length = n → ∀ y, y < n → y ∈ xs
  | n, xs, hn, hl, he, y, hy => by
    by_cases h : y ∈ xs
    · exact h
    · have h1 := nodup_le (xs := xs ++ [y]) (n := n) (List.nodup_append.mpr ⟨hn, by simp, fun a ha b hb => by rw [List.mem_singleton.mp hb]; intro e; exact h (e ▸ ha)⟩) fun x hx => by
        rcases List.mem_append.mp hx with z | z
        · exact hl x z
        · rw [List.mem_singleton.mp z]; exact hy
      rw [List.length_append, List.length_singleton] at h1
      omega
theorem Places.ex {ps : List Nat} {n : Nat} (h : Places ps n) {y : Nat} (hy : y < n) : ∃ t, t < n ∧ ix ps t = y := by
  obtain ⟨t, ht, e⟩ := ix_ex (nodup_all h.nd h.lt h.len y hy)
  exact ⟨t, by rw [← h.len]; exact ht, e⟩
theorem Places.inj {ps : List Nat} {n : Nat} (h : Places ps n) {s t : Nat} (hs : s < n) (ht : t < n) (e : ix ps s = ix ps t) : s = t := ix_inj h.nd (by rw [h.len]; exact hs) (by rw [h.len]; exact ht) e
theorem Places.at_lt {ps : List Nat} {n : Nat} (h : Places ps n) {t : Nat} (ht : t < n) : ix ps t < n := h.lt _ (ix_mem (by rw [h.len]; exact ht))
/-- all truths turned -/
def turned (m : Mc) : Mc := ⟨m.w, m.ways, m.ends.map fun b => !b⟩
end SM
namespace SM
/-- a line of the other machine's room that is called ix ps t -/
structure OLine (m : Mc) (ps : List Nat) (N t : Nat) (ln : List Nat) : Prop where
  len : ln.length = 2 ^ m.w
  lt : ∀ r ∈ ln, r < N
  go : t < 2 * m.n → ∀ l, l < 2 ^ m.w → ∃ c, c < 2 ∧ ln[l]? = some (ix ps (2 * m.go (t / 2) l + c))
end SM

set_option Elab.async false
set_option linter.all false
set_option maxRecDepth 100000
/-! MACHINES: the mirror -/
namespace SM
open PySem PySem.Spec PyProof.Rows L2 SS
abbrev nV (n : Nat) : V := .int (n : Int)
/-! ### how the heap bears one -/
def Line (H : Hp) (v : V) (l : List Nat) : Prop := ∃ a, v = .ref a ∧ H a = some (.tup (l.map nV))
def RepM (H : Hp) (a : Addr) (m : Mc) : Prop := ∃ (b c : Addr) (rs : List V), H a = some (.tup [nV m.w, .ref b, .ref c]) ∧ H b = some (.tup rs) ∧ Paired (Line H) rs m.ways ∧ H c = some (.tup (m.ends.map V.bl))
theorem Line.ts {H H' : Hp} {v : V} {l : List Nat} (h : Line H v l) (g : TupS H H') : Line H' v l := let ⟨a, e, z⟩ := h; ⟨a, e, g _ _ z⟩
theorem RepM.ts {H H' : Hp} {a : Addr} {m : Mc} (h : RepM H a m) (g : TupS H H') : RepM H' a m := by
  obtain ⟨b, c, rs, h1, h2, h3, h4⟩ := h
  exact ⟨b, c, rs, g _ _ h1, g _ _ h2, L2.Paired.mapP h3 fun _ _ z => z.ts g, g _ _ h4⟩
theorem RepM.same {H H' : Hp} {a : Addr} {m : Mc} (h : RepM H a m) (g : Same H H') : RepM H' a m := h.ts g.tups
theorem Paired.at2 {α β : Type} {R : α → β → Prop} : ∀ {xs : List α} {ys : List β} {i : Nat} {y : β}, Paired R xs ys → ys[i]? = some y → ∃ x, xs[i]? = some x ∧ R x y
  | _, _, _, _, .nil, h => by simp at h
  | _, _, 0, _, .cons h _, e => by simp at e; subst e; exact ⟨_, rfl, h⟩
  | _, _, i + 1, _, .cons _ h, e => by simp only [List.getElem?_cons_succ] at e ⊢; exact Paired.at2 h e
theorem Paired.snoc {α β : Type} {R : α → β → Prop} : ∀ {xs : List α} {ys : List β} {x : α} {y : β}, Paired R xs ys → R x y → Paired R (xs ++ [x]) (ys ++ [y])
  | _, _, _, _, .nil, h => .cons h .nil
  | _, _, _, _, .cons h t, z => .cons h (Paired.snoc t z)
/-! ### promises -/
theorem map_nV (l : List Nat) : l.map nV = (l.map fun (n : Nat) => (n : Int)).map V.int := by rw [List.map_map]; rfl
end SM

set_option Elab.async false
set_option linter.all false
set_option maxRecDepth 100000
/-! MACHINES REDUCED: the heap's side -/
namespace SM
open PySem PySem.Spec PyProof.Rows L2 SS
/-- what numbers[r] is, for each r of l: g r; numbers a dict or a list -/
def Lk (H : Hp) (b : Addr) (l : List Nat) (g : Nat → Nat) : Prop :=
  (∃ kvs : List (Key × V), H b = some (.dK kvs) ∧ ∀ r ∈ l, valV kvs (.inl (r : Int)) = some (nV (g r))) ∨ ∃ ns : List Nat, H b = some (.lst (ns.map nV)) ∧ ∀ r ∈ l, ns[r]? = some (g r)
theorem Lk.same {H H' : Hp} {b : Addr} {l : List Nat} {g : Nat → Nat} (h : Lk H b l g) (s : Same H H') : Lk H' b l g := by
  rcases h with ⟨kvs, e, z⟩ | ⟨ns, e, z⟩
  · exact .inl ⟨kvs, s _ _ e, z⟩
  · exact .inr ⟨ns, s _ _ e, z⟩
/-! ### a table of marks -/
section
variable {α κ : Type} [DecidableEq α] [DecidableEq κ]
end
def keyL (l : List Nat) : List Key := l.map fun (n : Nat) => (Sum.inl (n : Int) : Key)
theorem keyL_inj : ∀ (a b : List Nat), keyL a = keyL b → a = b
  | [], [], _ => rfl
  | [], _ :: _, h => nomatch h
  | _ :: _, [], h => nomatch h
  | x :: a, y :: b, h => by
    rw [keyL, keyL, List.map_cons, List.map_cons, List.cons.injEq] at h
    rw [keyL_inj a b h.2]
    have e : (x : Int) = (y : Int) := Sum.inl.inj h.1
    rw [show x = y by omega]
/-! ### machines compared -/
section
variable {X : Cx} {H : Hp}
end
end SM

set_option Elab.async false
set_option linter.all false
set_option maxRecDepth 100000
/-! SORTS BY A FUNCTION: promises -/
namespace SM
open PySem PySem.Spec PyProof.Rows L2 SS
theorem SameN.tups {H H' : Hp} (g : SameN H H') : TupS H H' := fun b xs e => g b _ e fun _ _ z => nomatch z
end SM

set_option Elab.async false
set_option linter.all false
set_option maxRecDepth 100000
/-! TREE MACHINES, the bare mathematics -/
namespace SM
structure Tm where
  w : Nat
  ways : List (List (List Nat))
  ends : List Bool
abbrev Tm.n (m : Tm) : Nat := m.ends.length
structure Tm.Ok (m : Tm) : Prop where
  wid : m.w ≤ 3
  pos : 0 < m.ends.length
  few : m.ends.length ≤ 30
  len : m.ways.length = 2 ^ m.w
  tab : ∀ t ∈ m.ways, t.length = m.ends.length
  line : ∀ t ∈ m.ways, ∀ r ∈ t, r.length = m.ends.length
  room : ∀ t ∈ m.ways, ∀ r ∈ t, ∀ x ∈ r, x < m.ends.length
def Tm.go (m : Tm) (l a b : Nat) : Nat := ((m.ways.getD l []).getD a []).getD b 0
def Tm.fin (m : Tm) (r : Nat) : Bool := m.ends.getD r false
inductive Tr where
  | nil
  | node (l : Nat) (a b : Tr)
def Tr.size : Tr → Nat
  | .nil => 0
  | .node _ a b => 1 + a.size + b.size
def Tr.depth : Tr → Nat
  | .nil => 0
  | .node _ a b => 1 + max a.depth b.depth
def Tr.Let (n : Nat) : Tr → Prop
  | .nil => True
  | .node l a b => l < n ∧ a.Let n ∧ b.Let n
def Tr.up (z : Nat) (f : Nat → Nat → Nat → Nat) : Tr → Nat
  | .nil => z
  | .node l a b => f l (a.up z f) (b.up z f)
theorem Tr.depth_le : ∀ t : Tr, t.depth ≤ t.size
  | .nil => Nat.le_refl _
  | .node _ a b => by
    have := Tr.depth_le a
    have := Tr.depth_le b
    show 1 + max a.depth b.depth ≤ 1 + a.size + b.size
    omega
theorem Tm.Ok.at {m : Tm} (ok : m.Ok) {l a b : Nat} (hl : l < 2 ^ m.w) (ha : a < m.n) (hb : b < m.n) : ∃ t r, m.ways[l]? = some t ∧ t[a]? = some r ∧ r[b]? = some (m.go l a b) ∧ m.go l a b < m.n := by
  have h1 : l < m.ways.length := by rw [ok.len]; exact hl
  have e1 : m.ways[l]? = some m.ways[l] := List.getElem?_eq_getElem h1
  have m1 := List.getElem_mem h1
  have h2 : a < m.ways[l].length := by rw [ok.tab _ m1]; exact ha
  have e2 : m.ways[l][a]? = some m.ways[l][a] := List.getElem?_eq_getElem h2
  have m2 := List.getElem_mem h2
  have h3 : b < m.ways[l][a].length := by rw [ok.line _ m1 _ m2]; exact hb
  have e3 : m.ways[l][a][b]? = some m.ways[l][a][b] := List.getElem?_eq_getElem h3
  have eg : m.go l a b = m.ways[l][a][b] := by simp only [Tm.go, List.getD_eq_getElem?_getD, e1, Option.getD_some, e2, e3]
  exact ⟨_, _, e1, e2, by rw [eg]; exact e3, by rw [eg]; exact ok.room _ m1 _ m2 _ (List.getElem_mem h3)⟩
theorem Tm.Ok.go_lt {m : Tm} (ok : m.Ok) {l a b : Nat} (hl : l < 2 ^ m.w) (ha : a < m.n) (hb : b < m.n) : m.go l a b < m.n := let ⟨_, _, _, _, _, h⟩ := ok.at hl ha hb; h
theorem Tm.fin_at {m : Tm} {r : Nat} (hr : r < m.ends.length) : m.ends[r]? = some (m.fin r) := by
  unfold Tm.fin
  rw [List.getD_eq_getElem?_getD, List.getElem?_eq_getElem hr, Option.getD_some]
end SM

set_option Elab.async false
set_option linter.all false
set_option maxRecDepth 100000
/-! TREE MACHINES: how the heap bears them; promises -/
namespace SM
open PySem PySem.Spec PyProof.Rows L2 SS
def Tab (H : Hp) (v : V) (t : List (List Nat)) : Prop := ∃ a rs, v = .ref a ∧ H a = some (.tup rs) ∧ Paired (Line H) rs t
def RepT (H : Hp) (a : Addr) (m : Tm) : Prop := ∃ (b c : Addr) (ts : List V), H a = some (.tup [nV m.w, .ref b, .ref c]) ∧ H b = some (.tup ts) ∧ Paired (Tab H) ts m.ways ∧ H c = some (.tup (m.ends.map V.bl))
def TreeV (H : Hp) : V → Tr → Prop
  | v, .nil => v = .non
  | v, .node l a b => ∃ p va vb, v = .ref p ∧ H p = some (.tup [nV l, va, vb]) ∧ TreeV H va a ∧ TreeV H vb b
theorem Tab.ts {H H' : Hp} {v : V} {t : List (List Nat)} (h : Tab H v t) (g : TupS H H') : Tab H' v t := let ⟨a, rs, e, z, p⟩ := h; ⟨a, rs, e, g _ _ z, L2.Paired.mapP p fun _ _ z => z.ts g⟩
theorem RepT.ts {H H' : Hp} {a : Addr} {m : Tm} (h : RepT H a m) (g : TupS H H') : RepT H' a m := by
  obtain ⟨b, c, rs, h1, h2, h3, h4⟩ := h
  exact ⟨b, c, rs, g _ _ h1, g _ _ h2, L2.Paired.mapP h3 fun _ _ z => z.ts g, g _ _ h4⟩
theorem RepT.same {H H' : Hp} {a : Addr} {m : Tm} (h : RepT H a m) (g : Same H H') : RepT H' a m := h.ts g.tups
theorem TreeV.ts {H H' : Hp} (g : TupS H H') : ∀ {v : V} {t : Tr}, TreeV H v t → TreeV H' v t
  | _, .nil, h => h
  | _, .node _ _ _, ⟨p, va, vb, e, z, h1, h2⟩ => ⟨p, va, vb, e, g _ _ z, TreeV.ts g h1, TreeV.ts g h2⟩
theorem TreeV.same {H H' : Hp} {v : V} {t : Tr} (h : TreeV H v t) (g : Same H H') : TreeV H' v t := h.ts g.tups
/-- the ways' rows, found -/
theorem RepT.row {H : Hp} {m : Tm} {ts : List V} (pr : Paired (Tab H) ts m.ways) (ok : m.Ok) {l a b : Nat} (hl : l < 2 ^ m.w) (ha : a < m.n) (hb : b < m.n) :
    ∃ (p q : Addr) (rs : List V) (ln : List Nat), ts[l]? = some (.ref p) ∧ H p = some (.tup rs) ∧ rs[a]? = some (.ref q) ∧ H q = some (.tup (ln.map nV)) ∧ (ln.map nV)[b]? = some (nV (m.go l a b)) := by
  obtain ⟨t, r, e1, e2, e3, _⟩ := ok.at hl ha hb
  obtain ⟨v, ev, p, rs, rfl, ep, pp⟩ := Paired.at2 pr e1
  obtain ⟨v, ev2, q, rfl, eq⟩ := Paired.at2 pp e2
  exact ⟨p, q, rs, r, ev, ep, ev2, eq, by rw [List.getElem?_map, e3]; rfl⟩
def sp_sizeT (d : Nat) : Sp := fun vs H Q _ => ∃ (v : V) (t : Tr), vs = [v] ∧ TreeV H v t ∧ t.depth < d ∧ Q (nV t.size) H
end SM

set_option linter.all false
/-! the first row that parts two machines: bare mathematics -/
namespace SM
def Lx : List Nat → List Nat → Prop
  | [], _ => True
  | a :: u, b :: v => a < b ∨ (a = b ∧ Lx u v)
  | _ :: _, [] => False
def SL (u v : List Nat) : Prop := u.length < v.length ∨ (u.length = v.length ∧ Lx u v)
theorem Lx.refl : ∀ u : List Nat, Lx u u
  | [] => trivial
  | a :: u => .inr ⟨rfl, Lx.refl u⟩
theorem Lx.trans : ∀ {u v x : List Nat}, Lx u v → Lx v x → Lx u x
  | [], _, _, _, _ => trivial
  | a :: u, b :: v, c :: x, h, k => by
    rcases h with h | ⟨rfl, h⟩
    · rcases k with k | ⟨rfl, k⟩
      · exact .inl (by omega)
      · exact .inl h
    · rcases k with k | ⟨rfl, k⟩
      · exact .inl k
      · exact .inr ⟨rfl, Lx.trans h k⟩
  | _ :: _, [], _, h, _ => h.elim
  | _ :: _, _ :: _, [], _, h => h.elim
theorem Lx.anti : ∀ {u v : List Nat}, u.length = v.length → Lx u v → Lx v u → u = v
  | [], [], _, _, _ => rfl
  | a :: u, b :: v, e, h, k => by
    have e' : u.length = v.length := by simpa using e
    rcases h with h | ⟨rfl, h⟩
    · rcases k with k | ⟨rfl, k⟩ <;> omega
    · rcases k with k | ⟨_, k⟩
      · omega
      · rw [Lx.anti e' h k]
  | [], _ :: _, e, _, _ => by simp at e
  | _ :: _, [], e, _, _ => by simp at e
theorem Lx.snoc : ∀ {u v : List Nat} {c d : Nat}, u.length = v.length → Lx u v → (u = v → c ≤ d) → Lx (u ++ [c]) (v ++ [d])
  | [], [], c, d, _, _, h => by
    have := h rfl
    show c < d ∨ (c = d ∧ True)
    by_cases e : c = d
    · exact .inr ⟨e, trivial⟩
    · exact .inl (by omega)
  | a :: u, b :: v, c, d, e, h, k => by
    have e' : u.length = v.length := by simpa using e
    show a < b ∨ (a = b ∧ Lx (u ++ [c]) (v ++ [d]))
    rcases h with h | ⟨rfl, h⟩
    · exact .inl h
    · exact .inr ⟨rfl, Lx.snoc e' h fun z => k (by rw [z])⟩
  | [], _ :: _, _, _, e, _, _ => by simp at e
  | _ :: _, [], _, _, e, _, _ => by simp at e
theorem SL.refl (u : List Nat) : SL u u := .inr ⟨rfl, Lx.refl u⟩
theorem SL.trans {u v x : List Nat} (h : SL u v) (k : SL v x) : SL u x := by
  rcases h with h | ⟨e, h⟩
  · rcases k with k | ⟨f, k⟩ <;> exact .inl (by omega)
  · rcases k with k | ⟨f, k⟩
    · exact .inl (by omega)
    · exact .inr ⟨by omega, h.trans k⟩
theorem SL.anti {u v : List Nat} (h : SL u v) (k : SL v u) : u = v := by
  rcases h with h | ⟨e, h⟩
  · rcases k with k | ⟨f, k⟩ <;> omega
  · rcases k with k | ⟨f, k⟩
    · omega
    · exact h.anti e k
theorem SL.snoc {u v : List Nat} {c d : Nat} (h : SL u v) (k : u = v → c ≤ d) : SL (u ++ [c]) (v ++ [d]) := by
  rcases h with h | ⟨e, h⟩
  · exact .inl (by simpa using h)
  · exact .inr ⟨by simpa using e, h.snoc e k⟩
theorem SL.nil (u : List Nat) : SL [] u := by
  cases u with
  | nil => exact SL.refl _
  | cons a u => exact .inl (by simp)
theorem SL.le {u v : List Nat} (h : SL u v) : u.length ≤ v.length := by rcases h with h | ⟨e, _⟩ <;> omega
/-- pairs come to, each with its row -/
structure PRow (m1 m2 : Mc) (ls rws : List (List Nat)) (at' l : Nat) : Prop where
  len : rws.length = ls.length
  first : rws[0]? = some []
  zero : ls[0]? = some [0, 0]
  nd : ls.Nodup
  sound : ∀ (i : Nat) x u, ls[i]? = some x → rws[i]? = some u → m1.Row u ∧ x = [m1.run 0 u, m2.run 0 u] ∧ u.length ≤ i
  mono : ∀ (i j : Nat) u v, i ≤ j → rws[i]? = some u → rws[j]? = some v → SL u v
  par : ∀ (j : Nat) v, 0 < j → rws[j]? = some v → ∃ (r' l' : Nat) (u : List Nat), Lex r' l' at' l ∧ rws[r']? = some u ∧ v = u ++ [l']
  clos : ∀ (i l' a b : Nat) u, Lex i l' at' l → l' < 2 ^ m1.w → ls[i]? = some [a, b] → rws[i]? = some u → ∃ (t : Nat) (v : List Nat), ls[t]? = some [m1.go a l', m2.go b l'] ∧ rws[t]? = some v ∧ SL v (u ++ [l'])
theorem some_of {α : Type} {xs : List α} {i : Nat} (h : i < xs.length) : ∃ x, xs[i]? = some x := ⟨_, List.getElem?_eq_getElem h⟩
theorem lt_of {α : Type} {xs : List α} {i : Nat} {x : α} (h : xs[i]? = some x) : i < xs.length := (List.getElem?_eq_some_iff.mp h).1
theorem PRow.start (m1 m2 : Mc) : PRow m1 m2 [[0, 0]] [[]] 0 0 := by
  refine ⟨rfl, rfl, rfl, by simp, fun i x u h1 h2 => ?_, fun i j u v hij h1 h2 => ?_, fun j v h1 h2 => ?_, fun i l' a b u lx => by rcases lx with z | ⟨_, z⟩ <;> omega⟩
  · have h := lt_of h1
    simp only [List.length_singleton] at h
    have e : i = 0 := by omega
    subst e
    simp only [List.getElem?_cons_zero, Option.some.injEq] at h1 h2
    subst h1; subst h2
    exact ⟨Mc.Row.nil _, rfl, Nat.le_refl _⟩
  · have h := lt_of h2
    simp only [List.length_singleton] at h
    have e : i = 0 := by omega
    subst e
    simp only [List.getElem?_cons_zero, Option.some.injEq] at h1
    subst h1
    exact SL.nil _
  · have h := lt_of h2
    simp only [List.length_singleton] at h
    omega
section
variable {m1 m2 : Mc} {ls rws : List (List Nat)} {at' l : Nat}
theorem PRow.below (c : PRow m1 m2 ls rws at' l) {u : List Nat} (hu : rws[at']? = some u) {j : Nat} {v : List Nat} (hv : rws[j]? = some v) : SL v (u ++ [l]) := by
  by_cases hj : j = 0
  · subst hj
    rw [c.first] at hv
    cases hv
    exact SL.nil _
  · obtain ⟨r', l', u', lx, h1, rfl⟩ := c.par j v (by omega) hv
    rcases lx with h | ⟨rfl, h⟩
    · refine (c.mono r' at' u' u (by omega) h1 hu).snoc fun e => ?_
      subst e
      obtain ⟨x, hx⟩ := some_of (xs := ls) (i := r') (by rw [← c.len]; exact lt_of h1)
      obtain ⟨y, hy⟩ := some_of (xs := ls) (i := at') (by rw [← c.len]; exact lt_of hu)
      have e1 := (c.sound r' x u' hx h1).2.1
      have e2 := (c.sound at' y u' hy hu).2.1
      have exy : x = y := e1.trans e2.symm
      have := (List.getElem?_inj (lt_of hx) c.nd).mp (hx.trans (by rw [exy]; exact hy.symm))
      omega
    · rw [hu] at h1
      cases h1
      exact (SL.refl u).snoc fun _ => by omega
theorem PRow.old (c : PRow m1 m2 ls rws at' l) {a b : Nat} (ha : ls[at']? = some [a, b]) (hk : [m1.go a l, m2.go b l] ∈ ls) : PRow m1 m2 ls rws at' (l + 1) := by
  refine ⟨c.len, c.first, c.zero, c.nd, c.sound, c.mono, fun j v h1 h2 => ?_, fun i l' x y u lx hl e hu => ?_⟩
  · obtain ⟨r', l', u, lx, h3, h4⟩ := c.par j v h1 h2
    exact ⟨r', l', u, lex_up lx, h3, h4⟩
  · rcases lex_next lx with lx | ⟨rfl, rfl⟩
    · exact c.clos i l' x y u lx hl e hu
    · rw [ha] at e
      cases e
      obtain ⟨t, ht, et⟩ := List.getElem_of_mem hk
      obtain ⟨v, hv⟩ := some_of (xs := rws) (i := t) (by rw [c.len]; exact ht)
      exact ⟨t, v, by rw [List.getElem?_eq_getElem ht, et], hv, c.below hu hv⟩
theorem snoc_at {α : Type} {xs : List α} {y x : α} {i : Nat} (h : (xs ++ [y])[i]? = some x) : xs[i]? = some x ∨ (i = xs.length ∧ x = y) := by
  by_cases hi : i < xs.length
  · rw [List.getElem?_append_left hi] at h; exact .inl h
  · have := lt_of h
    rw [List.length_append, List.length_singleton] at this
    have e : i = xs.length := by omega
    subst e
    rw [List.getElem?_append_right (Nat.le_refl _), Nat.sub_self] at h
    simp only [List.getElem?_cons_zero, Option.some.injEq] at h
    exact .inr ⟨rfl, h.symm⟩
theorem snoc_up {α : Type} {xs : List α} {y x : α} {i : Nat} (h : xs[i]? = some x) : (xs ++ [y])[i]? = some x := by rw [List.getElem?_append_left (lt_of h)]; exact h
theorem snoc_last {α : Type} (xs : List α) (y : α) : (xs ++ [y])[xs.length]? = some y := by simp
theorem PRow.new (c : PRow m1 m2 ls rws at' l) (hl : l < 2 ^ m1.w) {a b : Nat} {u : List Nat} (ha : ls[at']? = some [a, b]) (hu : rws[at']? = some u) (hk : ¬ [m1.go a l, m2.go b l] ∈ ls) :
    PRow m1 m2 (ls ++ [[m1.go a l, m2.go b l]]) (rws ++ [u ++ [l]]) at' (l + 1) := by
  have hat : at' < ls.length := lt_of ha
  have su := c.sound at' _ u ha hu
  have eab := su.2.1
  rw [List.cons.injEq, List.cons.injEq] at eab
  refine ⟨by simp [c.len], snoc_up c.first, snoc_up c.zero, ?_, fun i x v h1 h2 => ?_, fun i j x v hij h1 h2 => ?_, fun j v h1 h2 => ?_, fun i l' x y v lx hl' e hv => ?_⟩
  · refine List.nodup_append.mpr ⟨c.nd, by simp, fun x hx y hy => ?_⟩
    rw [List.mem_singleton.mp hy]
    intro e; rw [e] at hx; exact hk hx
  · rcases snoc_at h1 with h1 | ⟨rfl, rfl⟩
    · rcases snoc_at h2 with h2 | ⟨rfl, rfl⟩
      · exact c.sound i x v h1 h2
      · have := lt_of h1
        rw [c.len] at this
        omega
    · rw [← c.len, snoc_last] at h2
      cases h2
      refine ⟨fun z hz => ?_, by rw [run_more, run_more, ← eab.1, ← eab.2.1], ?_⟩
      · rcases List.mem_append.mp hz with h | h
        · exact su.1 z h
        · rw [List.mem_singleton.mp h]; exact hl
      · have := su.2.2
        rw [List.length_append, List.length_singleton]
        omega
  · rcases snoc_at h2 with h2 | ⟨rfl, rfl⟩
    · have := lt_of h2
      rcases snoc_at h1 with h1 | ⟨rfl, rfl⟩
      · exact c.mono i j x v hij h1 h2
      · omega
    · rcases snoc_at h1 with h1 | ⟨rfl, rfl⟩
      · exact c.below hu h1
      · exact SL.refl _
  · rcases snoc_at h2 with h2 | ⟨rfl, rfl⟩
    · obtain ⟨r', l', x, lx, h3, h4⟩ := c.par j v h1 h2
      exact ⟨r', l', x, lex_up lx, snoc_up h3, h4⟩
    · exact ⟨at', l, u, .inr ⟨rfl, by omega⟩, snoc_up hu, rfl⟩
  · rcases lex_next lx with lx | ⟨rfl, rfl⟩
    · have hi : i < ls.length := by rcases lx with z | ⟨z, _⟩ <;> omega
      rw [List.getElem?_append_left hi] at e
      rw [List.getElem?_append_left (by rw [c.len]; exact hi)] at hv
      obtain ⟨t, z, h1, h2, h3⟩ := c.clos i l' x y v lx hl' e hv
      exact ⟨t, z, snoc_up h1, snoc_up h2, h3⟩
    · rw [snoc_up ha] at e
      rw [snoc_up hu] at hv
      cases e
      cases hv
      exact ⟨ls.length, u ++ [l'], snoc_last _ _, by rw [← c.len]; exact snoc_last _ _, SL.refl _⟩
theorem lex_turn {i l' a k : Nat} (hl : l' < k) (lx : Lex i l' (a + 1) 0) : Lex i l' a k := by
  rcases lx with z | ⟨_, z⟩
  · by_cases h : i = a
    · exact .inr ⟨h, hl⟩
    · exact .inl (by omega)
  · omega
theorem PRow.turn (c : PRow m1 m2 ls rws at' (2 ^ m1.w)) : PRow m1 m2 ls rws (at' + 1) 0 :=
  ⟨c.len, c.first, c.zero, c.nd, c.sound, c.mono, fun j v h1 h2 => let ⟨r', l', u, lx, h3, h4⟩ := c.par j v h1 h2; ⟨r', l', u, .inl (by rcases lx with z | ⟨z, _⟩ <;> omega), h3, h4⟩,
    fun i l' x y u lx hl e hu => c.clos i l' x y u (lex_turn hl lx) hl e hu⟩
/-- the truths of the pairs looked at -/
def Quiet (m1 m2 : Mc) (ls : List (List Nat)) (at' : Nat) : Prop := ∀ (i a b : Nat), i < at' → ls[i]? = some [a, b] → m1.fin a = m2.fin b
theorem Quiet.zero : Quiet m1 m2 ls 0 := fun i a b h => by omega
theorem Quiet.next (q : Quiet m1 m2 ls at') {a b : Nat} (ha : ls[at']? = some [a, b]) (h : m1.fin a = m2.fin b) : Quiet m1 m2 ls (at' + 1) := fun i x y hi e => by
  by_cases z : i = at'
  · subst z; rw [ha] at e; cases e; exact h
  · exact q i x y (by omega) e
theorem Quiet.more (q : Quiet m1 m2 ls at') (h : at' ≤ ls.length) {ys : List (List Nat)} : Quiet m1 m2 (ls ++ ys) at' := fun i x y hi e => by
  rw [List.getElem?_append_left (by omega)] at e
  exact q i x y hi e
/-- the first row that parts both -/
structure Least (m1 m2 : Mc) (u : List Nat) : Prop where
  row : m1.Row u
  dif : m1.fin (m1.run 0 u) ≠ m2.fin (m2.run 0 u)
  least : ∀ v, m1.Row v → m1.fin (m1.run 0 v) ≠ m2.fin (m2.run 0 v) → SL u v
theorem Least.one {u v : List Nat} (h : Least m1 m2 u) (k : Least m1 m2 v) : u = v := (h.least v k.row k.dif).anti (k.least u h.row h.dif)
theorem Least.symm {u : List Nat} (h : Least m1 m2 u) (hw : m1.w = m2.w) : Least m2 m1 u :=
  ⟨fun l hl => by rw [← hw]; exact h.row l hl, fun e => h.dif e.symm, fun v hv d => h.least v (fun l hl => by rw [hw]; exact hv l hl) fun e => d e.symm⟩
theorem Least.not {u : List Nat} (h : Least m1 m2 u) (p : Par m1 0 m2 0) : False := h.dif (p u h.row)
/-- of any row: its pair stands with a row no greater, or an earlier part of it leads to a pair not yet gone from -/
theorem PRow.cover (c : PRow m1 m2 ls rws at' 0) : ∀ n (u : List Nat), u.length = n → m1.Row u →
    (∃ (i : Nat) (v : List Nat), ls[i]? = some [m1.run 0 u, m2.run 0 u] ∧ rws[i]? = some v ∧ SL v u) ∨ ∃ (i : Nat) (v : List Nat), at' ≤ i ∧ rws[i]? = some v ∧ v.length < u.length := by
  intro n
  induction n with
  | zero =>
    intro u e hu
    have : u = [] := List.eq_nil_of_length_eq_zero e
    subst this
    exact .inl ⟨0, [], c.zero, c.first, SL.refl _⟩
  | succ n ih =>
    intro u e hu
    have hne : u ≠ [] := by intro z; rw [z] at e; simp at e
    obtain ⟨u0, x, rfl⟩ : ∃ u0 x, u = u0 ++ [x] := ⟨_, _, (List.dropLast_concat_getLast hne).symm⟩
    have e0 : u0.length = n := by simpa using e
    have hx : x < 2 ^ m1.w := hu x (by simp)
    have hu0 : m1.Row u0 := fun z hz => hu z (List.mem_append_left _ hz)
    rw [run_more, run_more]
    rcases ih u0 e0 hu0 with ⟨i, v, h1, h2, h3⟩ | ⟨i, v, h1, h2, h3⟩
    · by_cases hi : i < at'
      · obtain ⟨t, z, h4, h5, h6⟩ := c.clos i x _ _ v (.inl hi) hx h1 h2
        exact .inl ⟨t, z, h4, h5, h6.trans (h3.snoc fun _ => Nat.le_refl _)⟩
      · have := h3.le
        exact .inr ⟨i, v, by omega, h2, by rw [List.length_append, List.length_singleton]; omega⟩
    · exact .inr ⟨i, v, h1, h2, by rw [List.length_append, List.length_singleton]; omega⟩
theorem none_of (c : PRow m1 m2 ls rws ls.length 0) (q : Quiet m1 m2 ls ls.length) : Par m1 0 m2 0 := fun v hv => by
  rcases c.cover _ v rfl hv with ⟨i, x, h1, h2, h3⟩ | ⟨i, x, h1, h2, h3⟩
  · exact q i _ _ (lt_of h1) h1
  · have := lt_of h2
    rw [c.len] at this
    omega
end
end SM

set_option Elab.async false
set_option linter.all false
set_option maxRecDepth 100000
/-! MACHINES PARTED: the heap's side -/
namespace SM
open PySem PySem.Spec PyProof.Rows L2 SS
/-- the dict of rows: for each pair its row, in lists that are new, none of them at p -/
structure RowD (H0 H : Hp) (p : Addr) (kvs : List (List Key × V)) (ls rws : List (List Nat)) : Prop where
  len : kvs.length = ls.length
  out : ∀ x, ¬ x ∈ ls → valV kvs (keyL x) = none
  at' : ∀ (i : Nat) x u, ls[i]? = some x → rws[i]? = some u → ∃ D, valV kvs (keyL x) = some (.ref D) ∧ H0 D = none ∧ D ≠ p ∧ H D = some (.lst (u.map nV))
theorem RowD.keep {H0 H H' : Hp} {p : Addr} {kvs : List (List Key × V)} {ls rws : List (List Nat)} (r : RowD H0 H p kvs ls rws) (k : ∀ D xs, D ≠ p → H D = some (.lst xs) → H' D = some (.lst xs)) : RowD H0 H' p kvs ls rws :=
  ⟨r.len, r.out, fun i x u h1 h2 => let ⟨D, e1, e2, e3, e4⟩ := r.at' i x u h1 h2; ⟨D, e1, e2, e3, k D _ e3 e4⟩⟩
theorem RowD.put {H0 H : Hp} {p D : Addr} {kvs : List (List Key × V)} {ls rws : List (List Nat)} {x u : List Nat} (r : RowD H0 H p kvs ls rws) (hl : rws.length = ls.length) (hx : ¬ x ∈ ls) (h0 : H0 D = none) (hp : D ≠ p) (hD : H D = some (.lst (u.map nV))) :
    RowD H0 H p (putK kvs (keyL x) (.ref D)) (ls ++ [x]) (rws ++ [u]) := by
  refine ⟨?_, fun y hy => ?_, fun i y v h1 h2 => ?_⟩
  · rw [putK_new _ (r.out x hx), List.length_append, List.length_append, r.len]; rfl
  · rw [List.mem_append, not_or, List.mem_singleton] at hy
    rw [valV_put, if_neg (fun e => hy.2 (keyL_inj _ _ e))]
    exact r.out y hy.1
  · rcases snoc_at h1 with h1 | ⟨rfl, rfl⟩
    · have hi := lt_of h1
      rw [List.getElem?_append_left (by omega)] at h2
      rw [valV_put, if_neg (fun e => hx (by rw [← keyL_inj _ _ e]; exact List.mem_of_getElem? h1))]
      exact r.at' i y v h1 h2
    · rw [← hl, snoc_last] at h2
      cases h2
      rw [valV_put, if_pos rfl]
      exact ⟨D, rfl, h0, hp, hD⟩
end SM

set_option Elab.async false
set_option linter.all false
set_option maxRecDepth 100000
/-! machines flipped, widened: promises, and letters without a track -/
namespace SM
open PySem PySem.Spec PyProof.Rows L2 SS
def others (w t : Nat) : List Nat := (List.range (w + 1)).filter fun k => k != t
def back (bs : List Nat) : Nat := bs.reverse.foldl (fun f b => 2 * f + b) 0
end SM

set_option linter.all false
set_option maxRecDepth 100000
/-! the shortest row of a machine: by layers; promises -/
namespace SM
open PySem PySem.Spec PyProof.Rows L2 SS
structure Best (m : Mc) (u : List Nat) : Prop where
  row : m.Row u
  acc : m.fin (m.run 0 u) = true
  least : ∀ v, m.Row v → m.fin (m.run 0 v) = true → SL u v
theorem Best.one {m : Mc} {u v : List Nat} (h : Best m u) (k : Best m v) : u = v := (h.least v k.row k.acc).anti (k.least u h.row h.acc)
structure BestAt (m : Mc) (r j : Nat) (u : List Nat) : Prop where
  row : m.Row u
  len : u.length = j
  acc : m.fin (m.run r u) = true
  least : ∀ v, m.Row v → v.length = j → m.fin (m.run r v) = true → Lx u v
end SM

set_option linter.all false
/-! how many rows a machine takes -/
namespace SM
def cnt (m : Mc) : Nat → Nat → Nat
  | 0, r => if m.fin r = true then 1 else 0
  | k + 1, r => ((m.ways.getD r []).map (cnt m k)).sum
/-- the counts of all rooms, for rows of k letters -/
def cl (m : Mc) (k : Nat) : List Nat := (List.range m.ends.length).map (cnt m k)
theorem go_lt {m : Mc} (ok : m.Ok) {r l : Nat} (hr : r < m.ends.length) (hl : l < 2 ^ m.w) : m.go r l < m.ends.length := by
  obtain ⟨_, _, _, h⟩ := ok.at hr hl
  exact h
/-! ### forwards -/
def dot : List Int → (Nat → Int) → Int
  | [], _ => 0
  | x :: xs, f => x * f 0 + dot xs fun i => f (i + 1)
/-- in the midst of a step: rooms before r are done, and of r the first letters -/
structure Mid (m : Mc) (cs : List Int) (r l : Nat) (as : List Int) : Prop where
  len : as.length = m.ends.length
  is : ∀ j, dot as (fun b => (cnt m j b : Int)) = dot (cs.take r) (fun r' => (cnt m (j + 1) r' : Int)) + (cs.getD r 0) * (((m.ways.getD r []).take l).map (cnt m j)).sum
/-! ### all rows, one by one -/
end SM

set_option Elab.async false
set_option linter.all false
set_option maxRecDepth 100000
/-! refusals of machines: promises -/
namespace SM
open PySem PySem.Spec PyProof.Rows L2 SS
abbrev veM : List Value := [.type "ValueError", .type "Exception", .type "BaseException", .type "object"]
section
variable {X : Cx} {H : Hp}
end
end SM

set_option Elab.async false
set_option linter.all false
set_option maxRecDepth 100000
/-! counting rows: promises -/
namespace SM
open PySem PySem.Spec PyProof.Rows L2 SS
def NoLen (H : Hp) (v : V) (n : Int) : Prop := (∃ r : Int, v = .int r ∧ ¬ (0 ≤ r ∧ r < n)) ∨ ∃ k, Kd H v k ∧ k ≠ "int"
def sp_wholeX : Sp := fun vs H Q _ => ∃ v, vs = [v] ∧ ((∃ r : Int, v = .int r ∧ Q (.bl true) H) ∨ ∃ k, Kd H v k ∧ k ≠ "int" ∧ Q (.bl false) H)
def sp_belowX : Sp := fun vs H Q _ => ∃ (v : V) (n : Int), vs = [v, .int n] ∧ ((∃ r : Int, v = .int r ∧ 0 ≤ r ∧ r < n ∧ Q (.bl true) H) ∨ (NoLen H v n ∧ Q (.bl false) H))
def CntL (m : Mc) (H : Hp) (v : V) (k : Nat) : Prop := ∃ c, v = .ref c ∧ H c = some (.lst ((cl m k).map nV))
theorem CntL.same {m : Mc} {H H' : Hp} {v : V} {k : Nat} (h : CntL m H v k) (g : Same H H') : CntL m H' v k := let ⟨c, e, z⟩ := h; ⟨c, e, g _ _ z⟩
def RowL (H : Hp) (v : V) (row : List Nat) : Prop := ∃ a, v = .ref a ∧ H a = some (.lst (row.map nV))
theorem RowL.same {H H' : Hp} {v : V} {row : List Nat} (h : RowL H v row) (g : Same H H') : RowL H' v row := let ⟨c, e, z⟩ := h; ⟨c, e, g _ _ z⟩
def unI : V → Nat := fun v => match v with | .int i => i.toNat | _ => 0
end SM

set_option Elab.async false
set_option linter.all false
set_option maxRecDepth 100000
/-! rows that fit: promises -/
namespace L2
open PySem PySem.Spec PyProof.Rows
section
variable {tn : List Str} {cp : List (Nat × Str)} {g : TG} {tif : TT} {te : TE} {σ0 : St} {Q : VK} {H1 : Hp}
/-- over enumerate(list), with a test -/
theorem cef_map {K : PySem.W.Frag} {a : Addr} {xs : List V} (S : St → Prop) (p : Nat → Bool) (f : Nat → V) (hn : xs.length ≤ 1000) (ha : SqL K H1 a xs) (h0 : S (stB tn cp σ0))
    (hs : ∀ D i σ H x pt H2, xs[i]? = some x → Same H1 H → H1 D = none → H D = some (.lst (((List.range i).filter p).map f)) → S σ → New H pt (.tup [.int (i : Int), x]) H2 → g (.ref pt) σ H2 fun σ2 H3 => tif σ2 H3 fun c H4 =>
      if c = true then te σ2 H4 fun v H5 => CStep D xs.length i (PRnF S p f H1) σ2 v H5 else CSkip D xs.length i (PRnF S p f H1) σ2 H4)
    (hd : ∀ D H, H1 D = none → Same H1 H → H D = some (.lst (((List.range xs.length).filter p).map f)) → Q (.ref D) H) : cBody tn cp g tif te σ0 Q (Ite K a) H1 := by
  refine cb_by xs.length (fun D => PRnF S p f H1) (small_line hn) (fun D hD => ⟨same_upd hD _, h0, rfl⟩) (fun D i ys σ H _ hi _ q => ⟨xs, xs[i], q.1.seq ha, List.getElem?_eq_getElem hi⟩) (fun D ys σ H _ _ q => ⟨xs, q.1.seq ha, Nat.le_refl _⟩) ?_ ?_
  · rintro D i ys σ H x H' hD hi hH hl ⟨p1, p2, rfl⟩ ⟨pt, u, e, n1, ex⟩
    subst e
    exact hs D i σ H u pt H' (ex xs (p1.seq ha)) p1 hD hH p2 n1
  · rintro D ys σ H hD hH hl ⟨p1, p2, rfl⟩
    exact hd D H hD p1 hH
end
end L2
namespace SM
open PySem PySem.Spec PyProof.Rows L2 SS
/-- how many letters have the track -/
def cw (row : List Nat) (k : Nat) : Nat := (row.filter fun l => l / 2 ^ k % 2 == 1).length
def isP (z : Str) : Bool := isNm (.str z) SMALL
def fitB (names : List Str) (row : List Nat) : Bool := (List.range names.length).all fun k => !isP (names.getD k (Str.ofString "")) || cw row k == 1
/-- names of a frame: those of places begin with a small letter, those of sets with a great one -/
def NmOk (z : Str) : Prop := Nam z SMALL ∨ Nam z GREAT
def FrOk (names : List Str) : Prop := names.length ≤ 4 ∧ ∀ z ∈ names, NmOk z
def sp_isletter : Sp := fun vs H Q _ => ∃ (r : Int) (k : Nat), vs = [.int r, nV k] ∧ k ≤ 4 ∧ Q (.bl (decide (0 ≤ r ∧ r < 2 ^ k))) H
def sp_countw : Sp := fun vs H Q _ => ∃ (r : Addr) (row : List Nat) (k : Nat), vs = [.ref r, nV k] ∧ H r = some (.lst (row.map nV)) ∧ row.length ≤ 200 ∧ (∀ l ∈ row, l < 32) ∧ k ≤ 4 ∧ ∀ H', Same H H' → Q (nV (cw row k)) H'
def sp_once : Sp := fun vs H Q _ => ∃ (f r : Addr) (names : List Str) (row : List Nat), vs = [.ref f, .ref r] ∧ H f = some (.lst (names.map V.str)) ∧ FrOk names ∧ H r = some (.lst (row.map nV)) ∧ row.length ≤ 200 ∧ (∀ l ∈ row, l < 32) ∧ ∀ H', Same H H' → Q (.bl (fitB names row)) H'
theorem bit_is : ∀ l, l < 32 → ∀ t, t < 5 → Builtin.bitAnd (((l : Nat) : Int) / 2 ^ t) 1 = if (l / 2 ^ t % 2 == 1) = true then 1 else 0 := by decide +kernel
theorem cw_sum (k : Nat) (hk : k ≤ 4) : ∀ (row : List Nat), (∀ l ∈ row, l < 32) → (row.map fun (l : Nat) => Builtin.bitAnd ((l : Int) / 2 ^ k) 1).sum = ((cw row k : Nat) : Int)
  | [], _ => rfl
  | l :: row, h => by
    have ih := cw_sum k hk row fun x hx => h x (List.mem_cons_of_mem _ hx)
    rw [List.map_cons, List.sum_cons, ih, bit_is l (h l (List.mem_cons_self ..)) k (by omega)]
    unfold cw
    rw [List.filter_cons]
    split
    · rw [List.length_cons]; omega
    · omega
theorem nmok_len {z : Str} (h : NmOk z) : z.length ≤ 1000 := by
  have key : ∀ l, Nam z l → z.length ≤ 1000 := fun l hl => by
    obtain ⟨d, ds, e, _, h3, _⟩ := hl.ex
    have : z.length = z.cps.toList.length := by simp [Str.length]
    rw [this, e, List.length_cons]
    omega
  rcases h with h | h
  · exact key _ h
  · exact key _ h
theorem dec_one (c : Nat) : decide (nV c = V.int 1) = (c == 1) := by
  by_cases h : c = 1
  · subst h; rfl
  · rw [decide_eq_false (fun e => h (by injection e with e; omega))]
    simp [h]
theorem small_first : ∀ d ∈ SMALL.cps.toList, (!decide ([d] < (Str.ofString "a").cps.toList)) = true ∧ (!decide ((Str.ofString "z").cps.toList < [d])) = true := by decide +kernel
theorem great_first : ∀ d ∈ GREAT.cps.toList, (!decide ([d] < (Str.ofString "a").cps.toList)) = false ∧ signIn d SMALL = false := by decide +kernel
theorem nm_first {z : Str} (h : NmOk z) : ∃ d ds, z.cps.toList = d :: ds ∧ (isP z = true → (!decide ([d] < (Str.ofString "a").cps.toList)) = true ∧ (!decide ((Str.ofString "z").cps.toList < [d])) = true) ∧ (isP z = false → (!decide ([d] < (Str.ofString "a").cps.toList)) = false) := by
  rcases h with h | h
  · obtain ⟨d, ds, e, h1, _⟩ := h.ex
    refine ⟨d, ds, e, fun _ => small_first d h1, fun hp => ?_⟩
    have : isP z = true := nam_is in_small h
    rw [this] at hp; cases hp
  · obtain ⟨d, ds, e, h1, _⟩ := h.ex
    refine ⟨d, ds, e, fun hp => ?_, fun _ => (great_first d h1).1⟩
    have : isP z = false := by simp [isP, isNm, nameB, e, (great_first d h1).2]
    rw [this] at hp; cases hp
theorem at_m {k : Nat} (hk : k < 4) : atI [V.int 1, V.int 2, V.int 4, V.int 8] ((k : Nat) : Int) = some (V.int ((2 : Int) ^ k)) := by
  have : k = 0 ∨ k = 1 ∨ k = 2 ∨ k = 3 := by omega
  rcases this with rfl | rfl | rfl | rfl
  · exact atI_nat (j := 0) rfl
  · exact atI_nat (j := 1) rfl
  · exact atI_nat (j := 2) rfl
  · exact atI_nat (j := 3) rfl
theorem rc_flat {X : Cx} {H : Hp} {a b : Addr} {xs : List V} (ha : SqL X.K H a xs) (hb : SqL X.K H b xs) (fl : ∀ x ∈ xs, flatV x = true ∧ eqV x x = true) : RcOk X 1 H (.ref a) (.ref b) true := by
  have f : xs.all flatV = true := List.all_eq_true.mpr fun x hx => (fl x hx).1
  have r := rcok_flats (X := X) ha hb f f
  rw [show (xs.length == xs.length && (List.range xs.length).all fun j => eqV (xs.getD j .non) (xs.getD j .non)) = true by
    rw [beq_self_eq_true, Bool.true_and, List.all_eq_true]
    intro j hj
    have hj' := List.mem_range.mp hj
    rw [List.getD_eq_getElem?_getD, List.getElem?_eq_getElem hj']
    exact (fl _ (List.getElem_mem hj')).2] at r
  exact r
theorem nam_mk {z l : Str} {d : Nat} {ds : List Nat} (e : z.cps.toList = d :: ds) (h1 : d ∈ l.cps.toList) (h2 : ds.length ≤ 3) (h3 : ∀ x ∈ ds, x ∈ FIGS.cps.toList) : Nam z l := ⟨d, ds, e, h1, h2, h3⟩
theorem cat_list (a b : Str) : (a ++ b).cps.toList = a.cps.toList ++ b.cps.toList := by
  show (Str.append a b).cps.toList = _
  simp [Str.append]
theorem len_list (z : Str) : z.length = z.cps.toList.length := by simp [Str.length]
end SM

set_option Elab.async false
set_option linter.all false
set_option maxRecDepth 100000
/-! TREES THAT FIT: promises -/
namespace SM
open PySem PySem.Spec PyProof.Rows L2 SS
/-- trees whose letters are any whole numbers -/
inductive TrZ where
  | nil
  | node (l : Int) (a b : TrZ)
def TrZ.size : TrZ → Nat
  | .nil => 0
  | .node _ a b => 1 + a.size + b.size
/-- its letters, the right ones first -/
def TrZ.lets : TrZ → List Int
  | .nil => []
  | .node l a b => l :: (b.lets ++ a.lets)
def TreeZ (H : Hp) : V → TrZ → Prop
  | v, .nil => v = .non
  | v, .node l a b => ∃ p va vb, v = .ref p ∧ H p = some (.tup [.int l, va, vb]) ∧ TreeZ H va a ∧ TreeZ H vb b
theorem TreeZ.ts {H H' : Hp} (g : TupS H H') : ∀ {v : V} {t : TrZ}, TreeZ H v t → TreeZ H' v t
  | _, .nil, h => h
  | _, .node _ _ _, ⟨p, va, vb, e, z, h1, h2⟩ => ⟨p, va, vb, e, g _ _ z, TreeZ.ts g h1, TreeZ.ts g h2⟩
theorem TreeZ.same {H H' : Hp} {v : V} {t : TrZ} (h : TreeZ H v t) (g : Same H H') : TreeZ H' v t := h.ts g.tups
def Tr.z : Tr → TrZ
  | .nil => .nil
  | .node l a b => .node l a.z b.z
theorem TreeV.z {H : Hp} : ∀ {v : V} {t : Tr}, TreeV H v t → TreeZ H v t.z
  | _, .nil, h => h
  | _, .node _ _ _, ⟨p, va, vb, e, z, h1, h2⟩ => ⟨p, va, vb, e, z, TreeV.z h1, TreeV.z h2⟩
theorem Tr.z_size : ∀ t : Tr, t.z.size = t.size
  | .nil => rfl
  | .node _ a b => by show 1 + a.z.size + b.z.size = 1 + a.size + b.size; rw [Tr.z_size a, Tr.z_size b]
def Tr.lets : Tr → List Nat
  | .nil => []
  | .node l a b => l :: (b.lets ++ a.lets)
def Tr.lets2 : Tr → List Nat
  | .nil => []
  | .node l a b => l :: (a.lets2 ++ b.lets2)
theorem Tr.z_lets : ∀ t : Tr, t.z.lets = t.lets.map fun (n : Nat) => (n : Int)
  | .nil => rfl
  | .node l a b => by
    show (l : Int) :: (b.z.lets ++ a.z.lets) = _
    rw [Tr.z_lets a, Tr.z_lets b, ← List.map_append]; rfl
theorem TrZ.lets_len : ∀ t : TrZ, t.lets.length = t.size
  | .nil => rfl
  | .node _ a b => by show (b.lets ++ a.lets).length + 1 = 1 + a.size + b.size; rw [List.length_append, TrZ.lets_len a, TrZ.lets_len b]; omega
theorem Tr.lets2_len : ∀ t : Tr, t.lets2.length = t.size
  | .nil => rfl
  | .node _ a b => by show (a.lets2 ++ b.lets2).length + 1 = 1 + a.size + b.size; rw [List.length_append, Tr.lets2_len a, Tr.lets2_len b]; omega
theorem Tr.lets_let {L : Nat} : ∀ t : Tr, t.Let L → ∀ l ∈ t.lets, l < L
  | .nil, _, l, h => nomatch h
  | .node x a b, h, l, hl => by
    rcases List.mem_cons.mp hl with rfl | hl
    · exact h.1
    · rcases List.mem_append.mp hl with hl | hl
      · exact Tr.lets_let b h.2.2 l hl
      · exact Tr.lets_let a h.2.1 l hl
theorem Tr.lets2_let {L : Nat} : ∀ t : Tr, t.Let L → ∀ l ∈ t.lets2, l < L
  | .nil, _, l, h => nomatch h
  | .node x a b, h, l, hl => by
    rcases List.mem_cons.mp hl with rfl | hl
    · exact h.1
    · rcases List.mem_append.mp hl with hl | hl
      · exact Tr.lets2_let a h.2.1 l hl
      · exact Tr.lets2_let b h.2.2 l hl
theorem cw_app (xs ys : List Nat) (k : Nat) : cw (xs ++ ys) k = cw xs k + cw ys k := by unfold cw; rw [List.filter_append, List.length_append]
theorem cw_cons (x : Nat) (xs : List Nat) (k : Nat) : cw (x :: xs) k = cw [x] k + cw xs k := by rw [← cw_app]; rfl
theorem Tr.cw_same (k : Nat) : ∀ t : Tr, cw t.lets k = cw t.lets2 k
  | .nil => rfl
  | .node l a b => by
    show cw (l :: (b.lets ++ a.lets)) k = cw (l :: (a.lets2 ++ b.lets2)) k
    rw [cw_cons, cw_app, cw_cons l (a.lets2 ++ b.lets2), cw_app, Tr.cw_same k a, Tr.cw_same k b]; omega
theorem Tr.fit_same (names : List Str) (t : Tr) : fitB names t.lets = fitB names t.lets2 := by
  unfold fitB
  congr 1
  funext k
  rw [Tr.cw_same]
/-- stacks -/
def stk (ts : List TrZ) : List Int := ts.reverse.flatMap TrZ.lets
def stw (ts : List TrZ) : Nat := (ts.map fun t => 2 * t.size + 1).sum
theorem stk_snoc (ts : List TrZ) (t : TrZ) : stk (ts ++ [t]) = t.lets ++ stk ts := by unfold stk; rw [List.reverse_append]; simp
theorem stw_snoc (ts : List TrZ) (t : TrZ) : stw (ts ++ [t]) = stw ts + (2 * t.size + 1) := by unfold stw; rw [List.map_append, List.sum_append]; simp
theorem stk_le (ts : List TrZ) : ts.length ≤ stw ts := by
  induction ts with
  | nil => simp [stw]
  | cons t ts ih => unfold stw at ih ⊢; rw [List.map_cons, List.sum_cons, List.length_cons]; omega
theorem nil_or_snoc {α : Type} (l : List α) : l = [] ∨ ∃ L b, l = L ++ [b] := by
  rcases List.eq_nil_or_concat l with h | ⟨L, b, h⟩
  · exact .inl h
  · exact .inr ⟨L, b, by rw [h, List.concat_eq_append]⟩
theorem paired_snoc {α β : Type} {R : α → β → Prop} {y : β} : ∀ {ys : List β} {xs : List α}, Paired R xs (ys ++ [y]) → ∃ xs0 x, xs = xs0 ++ [x] ∧ Paired R xs0 ys ∧ R x y
  | [], _, .cons h .nil => ⟨[], _, rfl, .nil, h⟩
  | _ :: ys, _, .cons h t => let ⟨xs0, x, e, p, r⟩ := paired_snoc (ys := ys) t; ⟨_ :: xs0, x, by rw [e]; rfl, .cons h p, r⟩
def sp_lettersof : Sp := fun vs H Q _ => ∃ (v : V) (t : TrZ), vs = [v] ∧ TreeZ H v t ∧ t.size ≤ 100 ∧ ∀ D H', H D = none → Same H H' → H' D = some (.lst (t.lets.map V.int)) → Q (.ref D) H'
def sp_treefits (C : Addr) : Sp := fun vs H Q E => ∃ (f : Addr) (v : V) (names : List Str) (t : TrZ), vs = [.ref f, v] ∧ H f = some (.lst (names.map V.str)) ∧ FrOk names ∧ TreeZ H v t ∧ t.size ≤ 100 ∧
  ((∃ row : List Nat, t.lets = row.map (fun (n : Nat) => (n : Int)) ∧ (∀ l ∈ row, l < 2 ^ names.length) ∧ ∀ H', Same H H' → Q (.bl (fitB names row)) H') ∨ ((∃ x ∈ t.lets, ¬ (0 ≤ x ∧ x < 2 ^ names.length)) ∧ ∀ e H', Same H H' → H' e = none → E (.ref C) (some e) H'))
def sp_name41 : Sp := fun vs H Q _ => ∃ (k n p : Int), vs = [.int k, .int n, .int p] ∧ 0 ≤ p ∧ p ≤ 10 ∧ ∀ z H', NmOk z → Same H H' → Q (.str z) H'
def sp_frame41 : Sp := fun vs H Q _ => ∃ (n : Int) (many : Nat), vs = [.int n, nV many] ∧ many ≤ 3 ∧ ∀ (D : Addr) (names : List Str) (H' : Hp), H D = none → Same H H' → H' D = some (.lst (names.map V.str)) → FrOk names → names.length = many → Q (.ref D) H'
def sp_trees : Sp := fun vs H Q _ => ∃ (c : Addr) (ns : List Int) (L mo : Nat), vs = [.ref c, nV L, nV mo] ∧ H c = some (.lst (ns.map V.int)) ∧ ns.length ≤ 63 ∧ 1 ≤ L ∧ mo ≤ 60 ∧ ∀ D xs ts H', H D = none → Same H H' → H' D = some (.lst xs) → Paired (TreeV H') xs ts → ts.length ≤ 64 → (∀ t ∈ ts, t.Let L ∧ t.size ≤ mo) → Q (.ref D) H'
def sp_lettersL (d : Nat) : Sp := fun vs H Q _ => ∃ (v : V) (t : Tr), vs = [v] ∧ TreeV H v t ∧ t.depth < d ∧ t.size ≤ 100 ∧ ∀ D H', H D = none → Same H H' → H' D = some (.lst (t.lets2.map nV)) → Q (.ref D) H'
def sp_dueT (K : PySem.W.Frag) : Sp := fun vs H Q _ => ∃ (f : Addr) (v : V) (names : List Str) (t : Tr), vs = [.ref f, v] ∧ SqL K H f (names.map V.str) ∧ FrOk names ∧ TreeV H v t ∧ t.depth ≤ 60 ∧ t.size ≤ 100 ∧ t.Let (2 ^ names.length) ∧ ∀ H', Same H H' → Q (.bl (fitB names t.lets2)) H'
def sp_marksT (C : Addr) : Sp := fun vs H Q _ => ∃ a : Addr, vs = [.ref a] ∧ H a = some (excO a (.ref C)) ∧ ∀ D H', H D = none → Same H H' → H' D = some (.lst ([true, true, false, false, false, false, false, false, false, false].map V.bl)) → Q (.ref D) H'
def sp_notree : Sp := fun vs H Q _ => ∃ (f : Addr) (v : V) (names : List Str) (t : Tr) (x : Int), vs = [.ref f, v, .int x] ∧ H f = some (.lst (names.map V.str)) ∧ FrOk names ∧ names.length ≤ 3 ∧ TreeV H v t ∧ t.size ≤ 60 ∧ 0 ≤ x ∧ ∀ H', Same H H' → Q (.bl true) H'
def sp_askedT (K : PySem.W.Frag) : Sp := fun vs H Q _ => ∃ (f : Addr) (v : V) (names : List Str) (t : Tr), vs = [.ref f, v] ∧ SqL K H f (names.map V.str) ∧ FrOk names ∧ TreeV H v t ∧ t.size ≤ 60 ∧ t.Let (2 ^ names.length) ∧ ∀ H', Same H H' → Q (.bl true) H'
end SM

set_option Elab.async false
set_option linter.all false
set_option maxRecDepth 100000
set_option maxHeartbeats 4000000
namespace K41
open PySem PySem.Spec PyProof.Rows L2 SS SM
def top (i : Nat) : Stmt := PySem.Challenge.pw_setsays_k41_trees_fit.main.body.getD i (.Pass ⟨0, 0, 0, 0⟩)
structure Txt (K : PySem.W.Frag) (mg : Str → Option Value) (cNoTree cSayError : Addr) (cs : List Addr) : Prop where
  b_isinstance : mg "isinstance" = none
  b_str : mg "str" = none
  b_list : mg "list" = none
  b_tuple : mg "tuple" = none
  b_int : mg "int" = none
  b_bool : mg "bool" = none
  b_len : mg "len" = none
  b_all : mg "all" = none
  b_sum : mg "sum" = none
  b_range : mg "range" = none
  b_enumerate : mg "enumerate" = none
  b_ValueError : mg "ValueError" = none
  g_FIGURES : GlV mg "FIGURES" (.str FIGS)
  g_LONGEST_NAME : GlV mg "LONGEST_NAME" (.int 4)
  g_SMALL_LETTERS : GlV mg "SMALL_LETTERS" (.str SMALL)
  m_NoTree : mg "NoTree" = some (.ref cNoTree)
  m_SayError : mg "SayError" = some (.ref cSayError)
  m_NoFrame : mg "NoFrame" = some (.ref (cs.getD 0 0))
  m_NoSaying : mg "NoSaying" = some (.ref (cs.getD 1 0))
  m_NoText : mg "NoText" = some (.ref (cs.getD 2 0))
  m_NoRow : mg "NoRow" = some (.ref (cs.getD 3 0))
  m_NoWidth : mg "NoWidth" = some (.ref (cs.getD 4 0))
  m_NoNumber : mg "NoNumber" = some (.ref (cs.getD 5 0))
  m_TooGreat : mg "TooGreat" = some (.ref (cs.getD 6 0))
  m_NoLine : mg "NoLine" = some (.ref (cs.getD 7 0))
  k_SayError : KSup K cSayError
  kx : KExc K cNoTree
  ms : PySem.W.mroIn K cNoTree (.ref cSayError) = some true
  i1 : PySem.W.kitOne K (.ref cNoTree) (.ref cNoTree) = some true
  iV : PySem.W.kitOne K (.ref cNoTree) (.type "ValueError") = some true
  iN : ∀ j, j < 8 → PySem.W.kitOne K (.ref cNoTree) (.ref (cs.getD j 0)) = some false
  x_NoTree : PySem.W.excIn K cNoTree veM "ValueError.__new__" = true
seal PE PT PW PA PS PSs
section
variable {P : Program} {w : World} {K : PySem.W.Frag} {mg : Str → Option Value} {base : Heap} {cNoTree cSayError : Addr} {cs : List Addr}
abbrev s_is_letter_with_figures : Stmt := top 15
theorem sc_is_letter_with_figures : FnScope ["thing", "letters"] ["thing", "letters"] (defScope s_is_letter_with_figures) := ⟨rfl, rfl, rfl, by decide +kernel, rfl, by decide +kernel, by decide +kernel⟩
theorem ok_lf (T : Txt K mg cNoTree cSayError cs) (d : Dfn K mg "is_letter_with_figures" s_is_letter_with_figures ["thing", "letters"]) : Cal P w K mg base 1 "is_letter_with_figures" ["thing", "letters"] sp_lf := by
  refine d.cal sc_is_letter_with_figures (fun vs H Q E h => ?_) (fun f cdv A outer s H vs Q E hr h => ?_)
  · obtain ⟨x, l, k, rfl, _⟩ := h
    rfl
  obtain ⟨x, l, k, rfl, hk, hz, q⟩ := h
  refine ⟨_, (pss_cons (ps_if (PW.pt (pw_or (pt_not (pt_val (pe_cB call_isk (by rfl) T.b_isinstance boot_isinstance (pa_c (pv 0) (pa_c (pe_bltn (v := .ty "str") (by rfl) T.b_str boot_str (by rfl)) pa_nil))))) (pw_or (pt_cmpR op_eq (pv 0) pe_str (nomark _)) (pw_or1 (pt_cmpR op_gt (pe_cB call_len_str (by rfl) T.b_len boot_len (pa_c (pv 0) pa_nil)) (pe_gl (by rfl) T.g_LONGEST_NAME) (nomark _)))))) (pss_one (ps_ret pe_bl)) pss_nil) (pss_one (ps_ret (pe_and (pe_cmpR op_in_str (pe_ix ix_str (pv 0) pe_int (fun _ _ => rfl)) (pv 1) (by with_unfolding_all rfl)) (pe_one (pe_cB (call_all_blK K rfl) (by rfl) T.b_all boot_all (pa_c (pe_lcomp ["sign"] [] (CompOk.of rfl (by rfl) (by rfl)) (by rfl) (pi_str (pe_slice sl_str (pv 0) (po_some pe_int) po_none)) (fun _ _ _ _ _ => (pg_name (i := 0) (show List.Nodup (["sign"] : List Str) by decide +kernel) (by rfl) (Or.inl (by rfl)))) (fun _ _ _ _ _ => pf_nil) (fun _ _ _ _ _ => (pe_cmpR op_in_str (pv 0) (pe_gl (by rfl) T.g_FIGURES) (by with_unfolding_all rfl)))) pa_nil))))))), ?_⟩
  refine rd_st [some x, some (.str l)] rfl ?_
  simp only [exists_eq', rEqI, rNeI, rInDc, rLenD, rLenT, rDictOf, rMaxL, rIndex, rCatTN, rCatTE, tDNewN, tDNewTN, tDisp1T, rNeM, rRange2, rListRng, rRepN, rPopAt, rSetL, gSub, ipI, tDGet, tDGet2, sDPut, iEnum, iEZ, iZipL, iEnum, tRaise, tTryA, tTry2A, rIsX, rIsXT, rIsXP, rUpper, rPop, rExtendT, iZip, rInD, rIxD, rLen, rAll, rAny, rSum, rListOf, rEqS, rNeS, rSlTN, rStrB, tTupN, tLstN, rSlLN, rCatN, cxK, cxP, cxW, tSeq, tIfS, tTest, tB, tOp, tUn, tC, tAnd, tOr, tNot, tAndV, tOrV, tNotV, tIf, tNext, tBreak, tCont, tDrop, tRet, tRetN, gName, gNil, gCons, gTup, tAsg, tPar, tAug, rI, rI0, rU, rEq, rNe, tChain, tNil, tCons, tTup, tLst, tCall, tCB, tNoPart, tPart, tSl, rSlT, rSlL, rSlS, rIxL, rIxT, rIxS, rIn, tBM0, tBM, tyV, rAppend, rExtend, rCat, rZfill, rEqD, iList, iTup, iStr, iRng1, iRng2, tYes, tDisp, tPairs, rd_v0, rd_vS, rd_comp, rd_for, rd_ite_t, rd_ite_f, List.set_cons_zero, List.set_cons_succ, List.nil_append, List.cons_append, List.append_nil, V.int.injEq, V.str.injEq, V.bl.injEq, V.ref.injEq, V.ty.injEq, List.cons.injEq, and_true, true_and, exists_eq_left, exists_eq_left', exists_and_left, exists_eq, exists_const, if_true, if_false, ite_true, ite_false, rd_ss, rd_si, rd_is, rd_ii, rd_bb, Option.some.injEq, exists_eq_right, exists_eq_right', and_assoc, reduceCtorEq, false_and, and_false, false_or, or_false, exists_false]
  refine ⟨k, hk, by decide, ?_⟩
  cases hk with
  | str z =>
    have hz' := hz z rfl
    have hl := str_len z
    rw [show (!subT "str" "str") = false by decide]
    simp only [exists_eq', rEqI, rNeI, rInDc, rLenD, rLenT, rDictOf, rMaxL, rIndex, rCatTN, rCatTE, tDNewN, tDNewTN, tDisp1T, rNeM, rRange2, rListRng, rRepN, rPopAt, rSetL, gSub, ipI, tDGet, tDGet2, sDPut, iEnum, iEZ, iZipL, iEnum, tRaise, tTryA, tTry2A, rIsX, rIsXT, rIsXP, rUpper, rPop, rExtendT, iZip, rInD, rIxD, rLen, rAll, rAny, rSum, rListOf, rEqS, rNeS, rSlTN, rStrB, tTupN, tLstN, rSlLN, rCatN, cxK, cxP, cxW, tSeq, tIfS, tTest, tB, tOp, tUn, tC, tAnd, tOr, tNot, tAndV, tOrV, tNotV, tIf, tNext, tBreak, tCont, tDrop, tRet, tRetN, gName, gNil, gCons, gTup, tAsg, tPar, tAug, rI, rI0, rU, rEq, rNe, tChain, tNil, tCons, tTup, tLst, tCall, tCB, tNoPart, tPart, tSl, rSlT, rSlL, rSlS, rIxL, rIxT, rIxS, rIn, tBM0, tBM, tyV, rAppend, rExtend, rCat, rZfill, rEqD, iList, iTup, iStr, iRng1, iRng2, tYes, tDisp, tPairs, rd_v0, rd_vS, rd_comp, rd_for, rd_ite_t, rd_ite_f, List.set_cons_zero, List.set_cons_succ, List.nil_append, List.cons_append, List.append_nil, V.int.injEq, V.str.injEq, V.bl.injEq, V.ref.injEq, V.ty.injEq, List.cons.injEq, and_true, true_and, exists_eq_left, exists_eq_left', exists_and_left, exists_eq, exists_const, if_true, if_false, ite_true, ite_false, rd_ss, rd_si, rd_is, rd_ii, rd_bb, Option.some.injEq, exists_eq_right, exists_eq_right', and_assoc, reduceCtorEq, false_and, and_false, false_or, or_false, exists_false]
    refine ite2 (fun c => ?_) (fun c => ?_)
    · have c' := of_decide_eq_true c
      subst c'
      exact q H (Same.refl H)
    have c' := of_decide_eq_false (Bool.eq_false_iff.mpr c)
    have ne : z.cps.toList ≠ [] := fun e => c' (ext_toList e)
    refine ⟨by have := small1000 hz'; omega, ?_⟩
    obtain ⟨c0, r0, e0⟩ := List.exists_cons_of_ne_nil ne
    have q' : ∀ H', Same H H' → Q (.bl (decide (r0.length ≤ 3) && signIn c0 l && r0.all fun d => signIn d FIGS)) H' := fun H' g => by
      have h := q H' g
      simp only [isNm, nameB, e0] at h
      exact h
    rw [e0, List.length_cons] at hl
    refine ite2 (fun c => ?_) (fun c => ?_)
    · have c2 := of_decide_eq_true c
      have h := q' H (Same.refl H)
      rw [show decide (r0.length ≤ 3) = false by simp; omega, Bool.false_and, Bool.false_and] at h
      exact h
    have c2 := of_decide_eq_false (Bool.eq_false_iff.mpr c)
    rw [show decide (r0.length ≤ 3) = true by simp; omega, Bool.true_and] at q'
    refine ⟨by have := small1000 hz'; omega, c0, by rw [e0]; exact atI_0, ?_⟩
    refine ite2 (fun c => ?_) (fun c => ?_)
    · rw [show signIn c0 l = true from c, Bool.true_and] at q'
      have es : (Txt.slice z (some 1) none).cps.toList = r0 := by
        rw [slice_cps, show ((1 : Int)) = ((1 : Nat) : Int) from rfl, cutL_from, e0]
        rfl
      have en : (Txt.slice z (some 1) none).cps.size = r0.length := by rw [← es]; simp
      refine ⟨by have := small1000 hz'; omega, ?_⟩
      refine cb_str (fun D i ys σ H' => Same H H' ∧ (∃ v, σ = [v]) ∧ ys = (r0.take i).map fun d => V.bl (signIn d FIGS)) (by rw [en]; exact Nat.le_of_lt (small1000 (by omega))) (fun D hD => ⟨same_upd hD _, ⟨none, rfl⟩, rfl⟩) ?_ ?_
      · rintro D i ys σ H' d hD hi hd hD' hys ⟨g, ⟨v, rfl⟩, rfl⟩
        simp only [exists_eq', rEqI, rNeI, rInDc, rLenD, rLenT, rDictOf, rMaxL, rIndex, rCatTN, rCatTE, tDNewN, tDNewTN, tDisp1T, rNeM, rRange2, rListRng, rRepN, rPopAt, rSetL, gSub, ipI, tDGet, tDGet2, sDPut, iEnum, iEZ, iZipL, iEnum, tRaise, tTryA, tTry2A, rIsX, rIsXT, rIsXP, rUpper, rPop, rExtendT, iZip, rInD, rIxD, rLen, rAll, rAny, rSum, rListOf, rEqS, rNeS, rSlTN, rStrB, tTupN, tLstN, rSlLN, rCatN, cxK, cxP, cxW, tSeq, tIfS, tTest, tB, tOp, tUn, tC, tAnd, tOr, tNot, tAndV, tOrV, tNotV, tIf, tNext, tBreak, tCont, tDrop, tRet, tRetN, gName, gNil, gCons, gTup, tAsg, tPar, tAug, rI, rI0, rU, rEq, rNe, tChain, tNil, tCons, tTup, tLst, tCall, tCB, tNoPart, tPart, tSl, rSlT, rSlL, rSlS, rIxL, rIxT, rIxS, rIn, tBM0, tBM, tyV, rAppend, rExtend, rCat, rZfill, rEqD, iList, iTup, iStr, iRng1, iRng2, tYes, tDisp, tPairs, rd_v0, rd_vS, rd_comp, rd_for, rd_ite_t, rd_ite_f, List.set_cons_zero, List.set_cons_succ, List.nil_append, List.cons_append, List.append_nil, V.int.injEq, V.str.injEq, V.bl.injEq, V.ref.injEq, V.ty.injEq, List.cons.injEq, and_true, true_and, exists_eq_left, exists_eq_left', exists_and_left, exists_eq, exists_const, if_true, if_false, ite_true, ite_false, rd_ss, rd_si, rd_is, rd_ii, rd_bb, Option.some.injEq, exists_eq_right, exists_eq_right', and_assoc, reduceCtorEq, false_and, and_false, false_or, or_false, exists_false]
        refine cstep (by rw [en]; exact Nat.le_of_lt (small1000 (by omega))) hi hD' hys ⟨fun b o e => ?_, ⟨_, rfl⟩, ?_⟩
        · rw [upd_ne (ne_of_none e hD)]; exact g b o e
        · rw [en] at hi
          have e1 : r0[i]? = some d := by rw [← es]; simpa using hd
          rw [List.take_add_one, e1, List.map_append]
          rfl
      · rintro D ys σ H' hD hD' hys ⟨g, _, rfl⟩
        rw [en, List.take_of_length_le (Nat.le_refl _)] at hD'
        refine ⟨_, rfl, r0.map fun d => signIn d FIGS, .of (by rw [hD', List.map_map]; rfl), ?_⟩
        have h := q' H' g
        rw [List.all_map]
        exact h
    · have h := q' H (Same.refl H)
      rw [show signIn c0 l = false from Bool.eq_false_iff.mpr c, Bool.false_and] at h
      exact h
  | non => exact q H (Same.refl H)
  | bl b => exact q H (Same.refl H)
  | int i => exact q H (Same.refl H)
  | lst e => exact q H (Same.refl H)
  | tup e => exact q H (Same.refl H)
  | dK e => exact q H (Same.refl H)
abbrev s_is_place : Stmt := top 16
theorem sc_is_place : FnScope ["thing"] ["thing"] (defScope s_is_place) := ⟨rfl, rfl, rfl, by decide +kernel, rfl, by decide +kernel, by decide +kernel⟩
theorem ok_place (T : Txt K mg cNoTree cSayError cs) (d : Dfn K mg "is_place" s_is_place ["thing"]) (C_is_letter_with_figures : Cal P w K mg base 1 "is_letter_with_figures" ["thing", "letters"] sp_lf) : Cal P w K mg base 2 "is_place" ["thing"] (sp_pl SMALL) := by
  refine d.cal sc_is_place (fun vs H Q E h => ?_) (fun f cdv A outer s H vs Q E hr h => ?_)
  · obtain ⟨x, k, rfl, _⟩ := h
    rfl
  obtain ⟨x, k, rfl, hk, hz, q⟩ := h
  refine ⟨_, (pss_one (ps_ret (pe_callC C_is_letter_with_figures hr (by omega) (by rfl) (pa_c (pv 0) (pa_c (pe_gl (by rfl) T.g_SMALL_LETTERS) pa_nil))))), ?_⟩
  refine rd_st [some x] rfl ?_
  simp only [exists_eq', rEqI, rNeI, rInDc, rLenD, rLenT, rDictOf, rMaxL, rIndex, rCatTN, rCatTE, tDNewN, tDNewTN, tDisp1T, rNeM, rRange2, rListRng, rRepN, rPopAt, rSetL, gSub, ipI, tDGet, tDGet2, sDPut, iEnum, iEZ, iZipL, iEnum, tRaise, tTryA, tTry2A, rIsX, rIsXT, rIsXP, rUpper, rPop, rExtendT, iZip, rInD, rIxD, rLen, rAll, rAny, rSum, rListOf, rEqS, rNeS, rSlTN, rStrB, tTupN, tLstN, rSlLN, rCatN, cxK, cxP, cxW, tSeq, tIfS, tTest, tB, tOp, tUn, tC, tAnd, tOr, tNot, tAndV, tOrV, tNotV, tIf, tNext, tBreak, tCont, tDrop, tRet, tRetN, gName, gNil, gCons, gTup, tAsg, tPar, tAug, rI, rI0, rU, rEq, rNe, tChain, tNil, tCons, tTup, tLst, tCall, tCB, tNoPart, tPart, tSl, rSlT, rSlL, rSlS, rIxL, rIxT, rIxS, rIn, tBM0, tBM, tyV, rAppend, rExtend, rCat, rZfill, rEqD, iList, iTup, iStr, iRng1, iRng2, tYes, tDisp, tPairs, rd_v0, rd_vS, rd_comp, rd_for, rd_ite_t, rd_ite_f, List.set_cons_zero, List.set_cons_succ, List.nil_append, List.cons_append, List.append_nil, V.int.injEq, V.str.injEq, V.bl.injEq, V.ref.injEq, V.ty.injEq, List.cons.injEq, and_true, true_and, exists_eq_left, exists_eq_left', exists_and_left, exists_eq, exists_const, if_true, if_false, ite_true, ite_false, rd_ss, rd_si, rd_is, rd_ii, rd_bb, Option.some.injEq, exists_eq_right, exists_eq_right', and_assoc, reduceCtorEq, false_and, and_false, false_or, or_false, exists_false]
  exact ⟨x, SMALL, k, rfl, hk, hz, q⟩
abbrev s_is_whole : Stmt := top 18
theorem sc_is_whole : FnScope ["thing"] ["thing"] (defScope s_is_whole) := ⟨rfl, rfl, rfl, by decide +kernel, rfl, by decide +kernel, by decide +kernel⟩
theorem ok_wholeX (T : Txt K mg cNoTree cSayError cs) (d : Dfn K mg "is_whole" s_is_whole ["thing"]) : Cal P w K mg base 1 "is_whole" ["thing"] sp_wholeX := by
  refine d.cal sc_is_whole (fun vs H Q E h => ?_) (fun f cdv A outer s H vs Q E hr h => ?_)
  · obtain ⟨v, rfl, _⟩ := h
    rfl
  obtain ⟨v, rfl, h⟩ := h
  refine ⟨_, (pss_one (ps_ret (pe_and (pe_cB call_isk (by rfl) T.b_isinstance boot_isinstance (pa_c (pv 0) (pa_c (pe_bltn (v := .ty "int") (by rfl) T.b_int boot_int (by rfl)) pa_nil))) (pe_one (pe_not (pe_cB call_isk (by rfl) T.b_isinstance boot_isinstance (pa_c (pv 0) (pa_c (pe_bltn (v := .ty "bool") (by rfl) T.b_bool boot_bool (by rfl)) pa_nil)))))))), ?_⟩
  refine rd_st [some v] rfl ?_
  simp only [exists_eq', rEqI, rNeI, rInDc, rLenD, rLenT, rDictOf, rMaxL, rIndex, rCatTN, rCatTE, tDNewN, tDNewTN, tDisp1T, rNeM, rRange2, rListRng, rRepN, rPopAt, rSetL, gSub, ipI, tDGet, tDGet2, sDPut, iEnum, iEZ, iZipL, iEnum, tRaise, tTryA, tTry2A, rIsX, rIsXT, rIsXP, rUpper, rPop, rExtendT, iZip, rInD, rIxD, rLen, rAll, rAny, rSum, rListOf, rEqS, rNeS, rSlTN, rStrB, tTupN, tLstN, rSlLN, rCatN, cxK, cxP, cxW, tSeq, tIfS, tTest, tB, tOp, tUn, tC, tAnd, tOr, tNot, tAndV, tOrV, tNotV, tIf, tNext, tBreak, tCont, tDrop, tRet, tRetN, gName, gNil, gCons, gTup, tAsg, tPar, tAug, rI, rI0, rU, rEq, rNe, tChain, tNil, tCons, tTup, tLst, tCall, tCB, tNoPart, tPart, tSl, rSlT, rSlL, rSlS, rIxL, rIxT, rIxS, rIn, tBM0, tBM, tyV, rAppend, rExtend, rCat, rZfill, rEqD, iList, iTup, iStr, iRng1, iRng2, tYes, tDisp, tPairs, rd_v0, rd_vS, rd_comp, rd_for, rd_ite_t, rd_ite_f, List.set_cons_zero, List.set_cons_succ, List.nil_append, List.cons_append, List.append_nil, V.int.injEq, V.str.injEq, V.bl.injEq, V.ref.injEq, V.ty.injEq, List.cons.injEq, and_true, true_and, exists_eq_left, exists_eq_left', exists_and_left, exists_eq, exists_const, if_true, if_false, ite_true, ite_false, rd_ss, rd_si, rd_is, rd_ii, rd_bb, Option.some.injEq, exists_eq_right, exists_eq_right', and_assoc, reduceCtorEq, false_and, and_false, false_or, or_false, exists_false]
  rcases h with ⟨r, rfl, q⟩ | ⟨k, kd, nk, q⟩
  · exact ⟨_, .int r, by decide, iteT ⟨_, .int r, by decide, q⟩⟩
  · refine ⟨_, kd, by decide, ?_⟩
    cases kd with
    | bl b => exact iteT ⟨_, .bl b, by decide, q⟩
    | int => exact absurd rfl nk
    | _ => exact iteF q
abbrev s_is_below : Stmt := top 19
theorem sc_is_below : FnScope ["thing", "bound"] ["thing", "bound"] (defScope s_is_below) := ⟨rfl, rfl, rfl, by decide +kernel, rfl, by decide +kernel, by decide +kernel⟩
theorem ok_belowX (T : Txt K mg cNoTree cSayError cs) (d : Dfn K mg "is_below" s_is_below ["thing", "bound"]) (C_is_whole : Cal P w K mg base 1 "is_whole" ["thing"] sp_wholeX) : Cal P w K mg base 2 "is_below" ["thing", "bound"] sp_belowX := by
  refine d.cal sc_is_below (fun vs H Q E h => ?_) (fun f cdv A outer s H vs Q E hr h => ?_)
  · obtain ⟨v, n, rfl, _⟩ := h
    rfl
  obtain ⟨v, n, rfl, h⟩ := h
  refine ⟨_, (pss_one (ps_ret (pe_and (pe_callC C_is_whole hr (by omega) (by rfl) (pa_c (pv 0) pa_nil)) (pe_one (pe_chain op_le op_lt pe_int (pv 0) (pv 1)))))), ?_⟩
  refine rd_st [some v, some (.int n)] rfl ?_
  simp only [exists_eq', rEqI, rNeI, rInDc, rLenD, rLenT, rDictOf, rMaxL, rIndex, rCatTN, rCatTE, tDNewN, tDNewTN, tDisp1T, rNeM, rRange2, rListRng, rRepN, rPopAt, rSetL, gSub, ipI, tDGet, tDGet2, sDPut, iEnum, iEZ, iZipL, iEnum, tRaise, tTryA, tTry2A, rIsX, rIsXT, rIsXP, rUpper, rPop, rExtendT, iZip, rInD, rIxD, rLen, rAll, rAny, rSum, rListOf, rEqS, rNeS, rSlTN, rStrB, tTupN, tLstN, rSlLN, rCatN, cxK, cxP, cxW, tSeq, tIfS, tTest, tB, tOp, tUn, tC, tAnd, tOr, tNot, tAndV, tOrV, tNotV, tIf, tNext, tBreak, tCont, tDrop, tRet, tRetN, gName, gNil, gCons, gTup, tAsg, tPar, tAug, rI, rI0, rU, rEq, rNe, tChain, tNil, tCons, tTup, tLst, tCall, tCB, tNoPart, tPart, tSl, rSlT, rSlL, rSlS, rIxL, rIxT, rIxS, rIn, tBM0, tBM, tyV, rAppend, rExtend, rCat, rZfill, rEqD, iList, iTup, iStr, iRng1, iRng2, tYes, tDisp, tPairs, rd_v0, rd_vS, rd_comp, rd_for, rd_ite_t, rd_ite_f, List.set_cons_zero, List.set_cons_succ, List.nil_append, List.cons_append, List.append_nil, V.int.injEq, V.str.injEq, V.bl.injEq, V.ref.injEq, V.ty.injEq, List.cons.injEq, and_true, true_and, exists_eq_left, exists_eq_left', exists_and_left, exists_eq, exists_const, if_true, if_false, ite_true, ite_false, rd_ss, rd_si, rd_is, rd_ii, rd_bb, Option.some.injEq, exists_eq_right, exists_eq_right', and_assoc, reduceCtorEq, false_and, and_false, false_or, or_false, exists_false]
  rcases h with ⟨r, rfl, h0, h1, q⟩ | ⟨⟨r, rfl, hn⟩ | ⟨k, kd, nk⟩, q⟩
  · refine ⟨_, rfl, .inl ⟨r, rfl, _, rfl, iteT ⟨r, rfl, ?_⟩⟩⟩
    rw [decide_eq_true h0]
    refine iteT ⟨r, rfl, ?_⟩
    rw [decide_eq_true h1]
    exact q
  · refine ⟨_, rfl, .inl ⟨r, rfl, _, rfl, iteT ⟨r, rfl, ?_⟩⟩⟩
    by_cases h0 : 0 ≤ r
    · rw [decide_eq_true h0]
      refine iteT ⟨r, rfl, ?_⟩
      rw [decide_eq_false (fun h1 => hn ⟨h0, h1⟩)]
      exact q
    · rw [decide_eq_false h0]
      exact iteF q
  · exact ⟨_, rfl, .inr ⟨k, kd, nk, _, rfl, iteF q⟩⟩
abbrev s_is_letter : Stmt := top 21
theorem sc_is_letter : FnScope ["thing", "tracks"] ["thing", "tracks"] (defScope s_is_letter) := ⟨rfl, rfl, rfl, by decide +kernel, rfl, by decide +kernel, by decide +kernel⟩
theorem ok_isletter (T : Txt K mg cNoTree cSayError cs) (d : Dfn K mg "is_letter" s_is_letter ["thing", "tracks"]) (C_is_below : Cal P w K mg base 2 "is_below" ["thing", "bound"] sp_belowX) : Cal P w K mg base 3 "is_letter" ["thing", "tracks"] sp_isletter := by
  refine d.cal sc_is_letter (fun vs H Q E h => ?_) (fun f cdv A outer s H vs Q E hr h => ?_)
  · obtain ⟨r, k, rfl, _⟩ := h
    rfl
  obtain ⟨r, k, rfl, hk, q⟩ := h
  have hp2 : (1 : Int) * 2 ^ ((k : Nat) : Int).toNat = 2 ^ k := by rw [Int.one_mul, Int.toNat_natCast]
  refine ⟨_, (pss_one (ps_ret (pe_callC C_is_below hr (by omega) (by rfl) (pa_c (pv 0) (pa_c (pe_op op_shl pe_int (pv 1)) pa_nil))))), ?_⟩
  refine rd_st [some (.int r), some (nV k)] rfl ?_
  simp only [exists_eq', rEqI, rNeI, rInDc, rLenD, rLenT, rDictOf, rMaxL, rIndex, rCatTN, rCatTE, tDNewN, tDNewTN, tDisp1T, rNeM, rRange2, rListRng, rRepN, rPopAt, rSetL, gSub, ipI, tDGet, tDGet2, sDPut, iEnum, iEZ, iZipL, iEnum, tRaise, tTryA, tTry2A, rIsX, rIsXT, rIsXP, rUpper, rPop, rExtendT, iZip, rInD, rIxD, rLen, rAll, rAny, rSum, rListOf, rEqS, rNeS, rSlTN, rStrB, tTupN, tLstN, rSlLN, rCatN, cxK, cxP, cxW, tSeq, tIfS, tTest, tB, tOp, tUn, tC, tAnd, tOr, tNot, tAndV, tOrV, tNotV, tIf, tNext, tBreak, tCont, tDrop, tRet, tRetN, gName, gNil, gCons, gTup, tAsg, tPar, tAug, rI, rI0, rU, rEq, rNe, tChain, tNil, tCons, tTup, tLst, tCall, tCB, tNoPart, tPart, tSl, rSlT, rSlL, rSlS, rIxL, rIxT, rIxS, rIn, tBM0, tBM, tyV, rAppend, rExtend, rCat, rZfill, rEqD, iList, iTup, iStr, iRng1, iRng2, tYes, tDisp, tPairs, rd_v0, rd_vS, rd_comp, rd_for, rd_ite_t, rd_ite_f, List.set_cons_zero, List.set_cons_succ, List.nil_append, List.cons_append, List.append_nil, V.int.injEq, V.str.injEq, V.bl.injEq, V.ref.injEq, V.ty.injEq, List.cons.injEq, and_true, true_and, exists_eq_left, exists_eq_left', exists_and_left, exists_eq, exists_const, if_true, if_false, ite_true, ite_false, rd_ss, rd_si, rd_is, rd_ii, rd_bb, Option.some.injEq, exists_eq_right, exists_eq_right', and_assoc, reduceCtorEq, false_and, and_false, false_or, or_false, exists_false]
  refine ⟨⟨by omega, by omega, by decide⟩, _, _, rfl, ?_⟩
  rw [hp2]
  by_cases h : 0 ≤ r ∧ r < 2 ^ k
  · rw [decide_eq_true h] at q
    exact .inl ⟨r, rfl, h.1, h.2, q⟩
  · rw [decide_eq_false h] at q
    exact .inr ⟨.inl ⟨r, rfl, h⟩, q⟩
abbrev s_count_with : Stmt := top 22
theorem sc_count_with : FnScope ["letters", "track"] ["letters", "track"] (defScope s_count_with) := ⟨rfl, rfl, rfl, by decide +kernel, rfl, by decide +kernel, by decide +kernel⟩
theorem ok_countw (T : Txt K mg cNoTree cSayError cs) (d : Dfn K mg "count_with" s_count_with ["letters", "track"]) : Cal P w K mg base 1 "count_with" ["letters", "track"] sp_countw := by
  refine d.cal sc_count_with (fun vs H Q E h => ?_) (fun f cdv A outer s H vs Q E hr h => ?_)
  · obtain ⟨r, row, k, rfl, _⟩ := h
    rfl
  obtain ⟨ra, row, k, rfl, er, h200, h32, hk, q⟩ := h
  refine ⟨_, (pss_one (ps_ret (pe_cB (call_sum_intK K rfl) (by rfl) T.b_sum boot_sum (pa_c (pe_lcomp ["letter"] [(1, "track")] (CompOk.of rfl (by rfl) (by rfl)) (by rfl) (pi_listK K (pv 0)) (fun _ _ _ _ _ => (pg_name (i := 0) (show List.Nodup (["letter", "track"] : List Str) by decide +kernel) (by rfl) (Or.inl (by rfl)))) (fun _ _ _ _ _ => pf_nil) (fun _ _ _ _ _ => (pe_op op_and (pe_op op_shr (pv 0) (pv 1)) pe_int))) pa_nil)))), ?_⟩
  refine rd_st [some (.ref ra), some (nV k)] rfl ?_
  simp only [exists_eq', rEqI, rNeI, rInDc, rLenD, rLenT, rDictOf, rMaxL, rIndex, rCatTN, rCatTE, tDNewN, tDNewTN, tDisp1T, rNeM, rRange2, rListRng, rRepN, rPopAt, rSetL, gSub, ipI, tDGet, tDGet2, sDPut, iEnum, iEZ, iZipL, iEnum, tRaise, tTryA, tTry2A, rIsX, rIsXT, rIsXP, rUpper, rPop, rExtendT, iZip, rInD, rIxD, rLen, rAll, rAny, rSum, rListOf, rEqS, rNeS, rSlTN, rStrB, tTupN, tLstN, rSlLN, rCatN, cxK, cxP, cxW, tSeq, tIfS, tTest, tB, tOp, tUn, tC, tAnd, tOr, tNot, tAndV, tOrV, tNotV, tIf, tNext, tBreak, tCont, tDrop, tRet, tRetN, gName, gNil, gCons, gTup, tAsg, tPar, tAug, rI, rI0, rU, rEq, rNe, tChain, tNil, tCons, tTup, tLst, tCall, tCB, tNoPart, tPart, tSl, rSlT, rSlL, rSlS, rIxL, rIxT, rIxS, rIn, tBM0, tBM, tyV, rAppend, rExtend, rCat, rZfill, rEqD, iList, iTup, iStr, iRng1, iRng2, tYes, tDisp, tPairs, rd_v0, rd_vS, rd_comp, rd_for, rd_ite_t, rd_ite_f, List.set_cons_zero, List.set_cons_succ, List.nil_append, List.cons_append, List.append_nil, V.int.injEq, V.str.injEq, V.bl.injEq, V.ref.injEq, V.ty.injEq, List.cons.injEq, and_true, true_and, exists_eq_left, exists_eq_left', exists_and_left, exists_eq, exists_const, if_true, if_false, ite_true, ite_false, rd_ss, rd_si, rd_is, rd_ii, rd_bb, Option.some.injEq, exists_eq_right, exists_eq_right', and_assoc, reduceCtorEq, false_and, and_false, false_or, or_false, exists_false]
  refine ⟨⟨_, .of er⟩, cm_list (K := K) (a := ra) (xs := row.map nV) (fun σ => ∃ v, σ = [v, some (nV k)]) (fun v => match v with | .int i => .int (Builtin.bitAnd (i / 2 ^ k) 1) | _ => .non) (by rw [List.length_map]; omega) (.of er) ⟨_, rfl⟩ ?_ ?_⟩
  · rintro D3 i σ H3 x hi hm hx gg hD3 hD3' ⟨v, rfl⟩
    obtain ⟨z, mz, rfl⟩ := List.mem_map.mp hm
    simp only [exists_eq', rEqI, rNeI, rInDc, rLenD, rLenT, rDictOf, rMaxL, rIndex, rCatTN, rCatTE, tDNewN, tDNewTN, tDisp1T, rNeM, rRange2, rListRng, rRepN, rPopAt, rSetL, gSub, ipI, tDGet, tDGet2, sDPut, iEnum, iEZ, iZipL, iEnum, tRaise, tTryA, tTry2A, rIsX, rIsXT, rIsXP, rUpper, rPop, rExtendT, iZip, rInD, rIxD, rLen, rAll, rAny, rSum, rListOf, rEqS, rNeS, rSlTN, rStrB, tTupN, tLstN, rSlLN, rCatN, cxK, cxP, cxW, tSeq, tIfS, tTest, tB, tOp, tUn, tC, tAnd, tOr, tNot, tAndV, tOrV, tNotV, tIf, tNext, tBreak, tCont, tDrop, tRet, tRetN, gName, gNil, gCons, gTup, tAsg, tPar, tAug, rI, rI0, rU, rEq, rNe, tChain, tNil, tCons, tTup, tLst, tCall, tCB, tNoPart, tPart, tSl, rSlT, rSlL, rSlS, rIxL, rIxT, rIxS, rIn, tBM0, tBM, tyV, rAppend, rExtend, rCat, rZfill, rEqD, iList, iTup, iStr, iRng1, iRng2, tYes, tDisp, tPairs, rd_v0, rd_vS, rd_comp, rd_for, rd_ite_t, rd_ite_f, List.set_cons_zero, List.set_cons_succ, List.nil_append, List.cons_append, List.append_nil, V.int.injEq, V.str.injEq, V.bl.injEq, V.ref.injEq, V.ty.injEq, List.cons.injEq, and_true, true_and, exists_eq_left, exists_eq_left', exists_and_left, exists_eq, exists_const, if_true, if_false, ite_true, ite_false, rd_ss, rd_si, rd_is, rd_ii, rd_bb, Option.some.injEq, exists_eq_right, exists_eq_right', and_assoc, reduceCtorEq, false_and, and_false, false_or, or_false, exists_false]
    exact ⟨by omega, cm_step (by rw [List.length_map]; omega) hx hD3 hD3' gg ⟨_, rfl⟩ (by rw [Int.toNat_natCast])⟩
  intro D3 H3 hD3 g3 eD3
  have eD3' : H3 D3 = some (.lst ((row.map fun (l : Nat) => Builtin.bitAnd ((l : Int) / 2 ^ k) 1).map V.int)) := by rw [eD3, List.map_map, List.map_map]; rfl
  refine ⟨D3, rfl, _, .of eD3', ?_⟩
  rw [cw_sum k hk row h32]
  exact q H3 g3
abbrev s_each_place_once : Stmt := top 23
theorem sc_each_place_once : FnScope ["frame", "letters"] ["frame", "letters"] (defScope s_each_place_once) := ⟨rfl, rfl, rfl, by decide +kernel, rfl, by decide +kernel, by decide +kernel⟩
theorem ok_once (T : Txt K mg cNoTree cSayError cs) (d : Dfn K mg "each_place_once" s_each_place_once ["frame", "letters"]) (C_is_place : Cal P w K mg base 2 "is_place" ["thing"] (sp_pl SMALL)) (C_count_with : Cal P w K mg base 1 "count_with" ["letters", "track"] sp_countw) : Cal P w K mg base 3 "each_place_once" ["frame", "letters"] sp_once := by
  refine d.cal sc_each_place_once (fun vs H Q E h => ?_) (fun f cdv A outer s H vs Q E hr h => ?_)
  · obtain ⟨f, r, names, rs, rfl, _⟩ := h
    rfl
  obtain ⟨fa, ra, names, row, rfl, ef, fo, er, h200, h32, q⟩ := h
  have h4 := fo.1
  refine ⟨_, (pss_one (ps_ret (pe_cB (call_all_blK K rfl) (by rfl) T.b_all boot_all (pa_c (pe_lcomp ["track", "name"] [(1, "letters")] (CompOk.of rfl (by rfl) (by rfl)) (by rfl) (pi_enumK K (by rfl) T.b_enumerate (pa_c (pv 0) pa_nil)) (fun _ _ _ _ _ => (pg_tupK K (n := 2) rfl (pgs_cons (pg_name (i := 0) (show List.Nodup (["track", "name", "letters"] : List Str) by decide +kernel) (by rfl) (Or.inl (by rfl))) (pgs_cons (pg_name (i := 1) (show List.Nodup (["track", "name", "letters"] : List Str) by decide +kernel) (by rfl) (Or.inl (by rfl))) pgs_nil)))) (fun _ _ _ _ _ => (pf_one (pt_val (pe_callC C_is_place hr (by omega) (by rfl) (pa_c (pv 1) pa_nil))))) (fun _ _ _ _ _ => (pe_cmpR op_eq (pe_callC C_count_with hr (by omega) (by rfl) (pa_c (pv 2) (pa_c (pv 0) pa_nil))) pe_int (nomark _)))) pa_nil)))), ?_⟩
  refine rd_st [some (.ref fa), some (.ref ra)] rfl ?_
  simp only [exists_eq', rEqI, rNeI, rInDc, rLenD, rLenT, rDictOf, rMaxL, rIndex, rCatTN, rCatTE, tDNewN, tDNewTN, tDisp1T, rNeM, rRange2, rListRng, rRepN, rPopAt, rSetL, gSub, ipI, tDGet, tDGet2, sDPut, iEnum, iEZ, iZipL, iEnum, tRaise, tTryA, tTry2A, rIsX, rIsXT, rIsXP, rUpper, rPop, rExtendT, iZip, rInD, rIxD, rLen, rAll, rAny, rSum, rListOf, rEqS, rNeS, rSlTN, rStrB, tTupN, tLstN, rSlLN, rCatN, cxK, cxP, cxW, tSeq, tIfS, tTest, tB, tOp, tUn, tC, tAnd, tOr, tNot, tAndV, tOrV, tNotV, tIf, tNext, tBreak, tCont, tDrop, tRet, tRetN, gName, gNil, gCons, gTup, tAsg, tPar, tAug, rI, rI0, rU, rEq, rNe, tChain, tNil, tCons, tTup, tLst, tCall, tCB, tNoPart, tPart, tSl, rSlT, rSlL, rSlS, rIxL, rIxT, rIxS, rIn, tBM0, tBM, tyV, rAppend, rExtend, rCat, rZfill, rEqD, iList, iTup, iStr, iRng1, iRng2, tYes, tDisp, tPairs, rd_v0, rd_vS, rd_comp, rd_for, rd_ite_t, rd_ite_f, List.set_cons_zero, List.set_cons_succ, List.nil_append, List.cons_append, List.append_nil, V.int.injEq, V.str.injEq, V.bl.injEq, V.ref.injEq, V.ty.injEq, List.cons.injEq, and_true, true_and, exists_eq_left, exists_eq_left', exists_and_left, exists_eq, exists_const, if_true, if_false, ite_true, ite_false, rd_ss, rd_si, rd_is, rd_ii, rd_bb, Option.some.injEq, exists_eq_right, exists_eq_right', and_assoc, reduceCtorEq, false_and, and_false, false_or, or_false, exists_false]
  refine ⟨⟨_, .of ef⟩, ?_⟩
  refine cef_map (K := K) (a := fa) (xs := names.map V.str) (fun σ => ∃ v v', σ = [v, v', some (.ref ra)]) (fun k => isP (names.getD k (Str.ofString ""))) (fun k => .bl (cw row k == 1)) (by rw [List.length_map]; omega) (.of ef) ⟨_, _, rfl⟩ ?_ ?_
  · rintro D3 i σ H3 x pt H4 hx gg hD3 hD3' ⟨v, v', rfl⟩ n4
    rw [List.getElem?_map] at hx
    obtain ⟨z, ez, rfl⟩ := Option.map_eq_some_iff.mp hx
    have hi := (List.getElem?_eq_some_iff.mp ez).1
    have hz : names.getD i (Str.ofString "") = z := by rw [List.getD_eq_getElem?_getD, ez]; rfl
    simp only [exists_eq', rEqI, rNeI, rInDc, rLenD, rLenT, rDictOf, rMaxL, rIndex, rCatTN, rCatTE, tDNewN, tDNewTN, tDisp1T, rNeM, rRange2, rListRng, rRepN, rPopAt, rSetL, gSub, ipI, tDGet, tDGet2, sDPut, iEnum, iEZ, iZipL, iEnum, tRaise, tTryA, tTry2A, rIsX, rIsXT, rIsXP, rUpper, rPop, rExtendT, iZip, rInD, rIxD, rLen, rAll, rAny, rSum, rListOf, rEqS, rNeS, rSlTN, rStrB, tTupN, tLstN, rSlLN, rCatN, cxK, cxP, cxW, tSeq, tIfS, tTest, tB, tOp, tUn, tC, tAnd, tOr, tNot, tAndV, tOrV, tNotV, tIf, tNext, tBreak, tCont, tDrop, tRet, tRetN, gName, gNil, gCons, gTup, tAsg, tPar, tAug, rI, rI0, rU, rEq, rNe, tChain, tNil, tCons, tTup, tLst, tCall, tCB, tNoPart, tPart, tSl, rSlT, rSlL, rSlS, rIxL, rIxT, rIxS, rIn, tBM0, tBM, tyV, rAppend, rExtend, rCat, rZfill, rEqD, iList, iTup, iStr, iRng1, iRng2, tYes, tDisp, tPairs, rd_v0, rd_vS, rd_comp, rd_for, rd_ite_t, rd_ite_f, List.set_cons_zero, List.set_cons_succ, List.nil_append, List.cons_append, List.append_nil, V.int.injEq, V.str.injEq, V.bl.injEq, V.ref.injEq, V.ty.injEq, List.cons.injEq, and_true, true_and, exists_eq_left, exists_eq_left', exists_and_left, exists_eq, exists_const, if_true, if_false, ite_true, ite_false, rd_ss, rd_si, rd_is, rd_ii, rd_bb, Option.some.injEq, exists_eq_right, exists_eq_right', and_assoc, reduceCtorEq, false_and, and_false, false_or, or_false, exists_false]
    refine ⟨_, .of n4.at', rfl, _, _, rfl, _, _, rfl, rfl, .str z, _, rfl, .str z, (fun z' ez' => by injection ez' with ez'; subst ez'; exact nmok_len (fo.2 z (List.mem_of_getElem? ez))), fun H5 g5 => ⟨_, rfl, ?_⟩⟩
    have hv : isNm (.str z) SMALL = isP (names.getD i (Str.ofString "")) := by rw [hz]; rfl
    rw [hv]
    cases hP : isP (names.getD i (Str.ofString "")) with
    | true =>
      refine iteT ⟨ra, row, i, rfl, (gg.trans (n4.g.trans g5)) _ _ er, h200, h32, by omega, fun H6 g6 => ⟨rfl, ?_⟩⟩
      refine crf_step (by rw [List.length_map]; omega) (by rw [List.length_map]; exact hi) hP hD3 ((n4.g.trans (g5.trans g6)) _ _ hD3') (gg.trans (n4.g.trans (g5.trans g6))) ⟨_, _, rfl⟩ ?_
      exact congrArg V.bl (dec_one (cw row i))
    | false => exact iteF (crf_skip (by rw [List.length_map]; exact hi) hP ((n4.g.trans g5) _ _ hD3') (gg.trans (n4.g.trans g5)) ⟨_, _, rfl⟩)
  intro D3 H3 hD3 g3 eD3
  have eD3' : H3 D3 = some (.lst ((((List.range names.length).filter fun k => isP (names.getD k (Str.ofString ""))).map fun k => cw row k == 1).map V.bl)) := by rw [eD3, List.length_map, List.map_map]; rfl
  refine ⟨D3, rfl, _, .of eD3', ?_⟩
  have e : ((((List.range names.length).filter fun k => isP (names.getD k (Str.ofString ""))).map fun k => cw row k == 1).all id) = fitB names row := by
    unfold fitB
    rw [List.all_map, List.all_filter]
    rfl
  rw [e]
  exact q H3 g3
abbrev s_law_cell_at : Stmt := top 28
theorem sc_law_cell_at : FnScope ["_law_script", "_law_k"] ["_law_script", "_law_k"] (defScope s_law_cell_at) := ⟨rfl, rfl, rfl, by decide +kernel, rfl, by decide +kernel, by decide +kernel⟩
theorem ok_cell (T : Txt K mg cNoTree cSayError cs) (d : Dfn K mg "_law_cell_at" s_law_cell_at ["_law_script", "_law_k"]) : Cal P w K mg base 1 "_law_cell_at" ["_law_script", "_law_k"] (sp_cell K) := by
  refine d.cal sc_law_cell_at (fun vs H Q E h => ?_) (fun f cdv A outer s H vs Q E hr h => ?_)
  · obtain ⟨a, ns, k, rfl, _⟩ := h
    rfl
  obtain ⟨a, ns, k, rfl, hS, h0, q⟩ := h
  refine ⟨_, (pss_cons (ps_if (pt_cmpR op_lt (pv 1) (pe_cB (call_len_seqK K) (by rfl) T.b_len boot_len (pa_c (pv 0) pa_nil)) (nomark _)) (pss_one (ps_ret (pe_ix (ix_listK K) (pv 0) (pv 1) (fun _ _ => rfl)))) pss_nil) (pss_one (ps_ret pe_int))), ?_⟩
  refine rd_st [some (.ref a), some (.int k)] rfl ?_
  simp only [exists_eq', rEqI, rNeI, rInDc, rLenD, rLenT, rDictOf, rMaxL, rIndex, rCatTN, rCatTE, tDNewN, tDNewTN, tDisp1T, rNeM, rRange2, rListRng, rRepN, rPopAt, rSetL, gSub, ipI, tDGet, tDGet2, sDPut, iEnum, iEZ, iZipL, iEnum, tRaise, tTryA, tTry2A, rIsX, rIsXT, rIsXP, rUpper, rPop, rExtendT, iZip, rInD, rIxD, rLen, rAll, rAny, rSum, rListOf, rEqS, rNeS, rSlTN, rStrB, tTupN, tLstN, rSlLN, rCatN, cxK, cxP, cxW, tSeq, tIfS, tTest, tB, tOp, tUn, tC, tAnd, tOr, tNot, tAndV, tOrV, tNotV, tIf, tNext, tBreak, tCont, tDrop, tRet, tRetN, gName, gNil, gCons, gTup, tAsg, tPar, tAug, rI, rI0, rU, rEq, rNe, tChain, tNil, tCons, tTup, tLst, tCall, tCB, tNoPart, tPart, tSl, rSlT, rSlL, rSlS, rIxL, rIxT, rIxS, rIn, tBM0, tBM, tyV, rAppend, rExtend, rCat, rZfill, rEqD, iList, iTup, iStr, iRng1, iRng2, tYes, tDisp, tPairs, rd_v0, rd_vS, rd_comp, rd_for, rd_ite_t, rd_ite_f, List.set_cons_zero, List.set_cons_succ, List.nil_append, List.cons_append, List.append_nil, V.int.injEq, V.str.injEq, V.bl.injEq, V.ref.injEq, V.ty.injEq, List.cons.injEq, and_true, true_and, exists_eq_left, exists_eq_left', exists_and_left, exists_eq, exists_const, if_true, if_false, ite_true, ite_false, rd_ss, rd_si, rd_is, rd_ii, rd_bb, Option.some.injEq, exists_eq_right, exists_eq_right', and_assoc, reduceCtorEq, false_and, and_false, false_or, or_false, exists_false]
  refine ⟨_, .inl hS, ite2 (fun c => ?_) (fun _ => q 0)⟩
  have c' := of_decide_eq_true c
  rw [List.length_map] at c'
  have hk : k.toNat < ns.length := by omega
  have ek : k = ((k.toNat : Nat) : Int) := by omega
  have e : atI (ns.map V.int) ((k.toNat : Nat) : Int) = some (.int ns[k.toNat]) := atI_nat (by simp [hk])
  rw [← ek] at e
  exact ⟨_, hS, _, e, q _⟩
end
end K41

set_option Elab.async false
set_option linter.all false
set_option maxRecDepth 100000
set_option maxHeartbeats 4000000
namespace K41
open PySem PySem.Spec PyProof.Rows L2 SS SM
seal PE PT PW PA PS PSs
section
variable {P : Program} {w : World} {K : PySem.W.Frag} {mg : Str → Option Value} {base : Heap} {cNoTree cSayError : Addr} {cs : List Addr}
abbrev s_letters_of : Stmt := top 25
theorem sc_letters_of : FnScope ["tree", "letters", "left", "here"] ["tree"] (defScope s_letters_of) := ⟨rfl, rfl, rfl, by decide +kernel, rfl, by decide +kernel, by decide +kernel⟩
theorem ok_lettersof (T : Txt K mg cNoTree cSayError cs) (d : Dfn K mg "letters_of" s_letters_of ["tree"]) : Cal P w K mg base 1 "letters_of" ["tree"] sp_lettersof := by
  refine d.cal sc_letters_of (fun vs H Q E h => ?_) (fun f cdv A outer s H vs Q E hr h => ?_)
  · obtain ⟨v, t, rfl, _⟩ := h
    rfl
  obtain ⟨v, t, rfl, tv, h100, q⟩ := h
  refine ⟨_, (pss_cons (ps_set (i := 1) sc_letters_of.nd rfl (Or.inl rfl) (pe_lstN pa_nil)) (pss_cons (ps_set (i := 2) sc_letters_of.nd rfl (Or.inl rfl) (pe_lstN (pa_c (pv 0) pa_nil))) (pss_cons (ps_while PassesOwn.never (pt_truth (pv 2) (fun _ => rfl)) (pss_cons (ps_set (i := 3) sc_letters_of.nd rfl (Or.inl rfl) (pe_bm0K K PySem.F.plainAttrs_list PySem.F.slot_list_pop PySem.F.type_list_pop mt_pop (pv 2))) (pss_one (ps_if (pt_cmpR op_notN (pv 3) pe_non (nomark _)) (pss_cons (ps_if (PW.pt (pw_or (pt_not (pt_val (pe_cB call_isk (by rfl) T.b_isinstance boot_isinstance (pa_c (pv 3) (pa_c (pe_bltn (v := .ty "tuple") (by rfl) T.b_tuple boot_tuple (by rfl)) pa_nil))))) (pw_or1 (pt_cmpR op_ne (pe_cB (call_len_seqK K) (by rfl) T.b_len boot_len (pa_c (pv 3) pa_nil)) pe_int (nomark _))))) (pss_one ps_never) pss_nil) (pss_cons (ps_expr (pe_bmK K PySem.F.plainAttrs_list PySem.F.slot_list_append PySem.F.type_list_append mt_append (pv 1) (pa_c (pe_ix (ix_tupK K) (pv 3) pe_int (fun _ _ => rfl)) pa_nil))) (pss_one (ps_expr (pe_bmK K PySem.F.plainAttrs_list PySem.F.slot_list_extend PySem.F.type_list_extend (mt_extendTK K) (pv 2) (pa_c (pe_slice (sl_tupNK K) (pv 3) (po_some pe_int) po_none) pa_nil)))))) pss_nil)))) (pss_one (ps_ret (pv 1)))))), ?_⟩
  refine rd_st [some v, none, none, none] rfl ?_
  simp only [exists_eq', rEqI, rNeI, rInDc, rLenD, rLenT, rDictOf, rMaxL, rIndex, rCatTN, rCatTE, tDNewN, tDNewTN, tDisp1T, rNeM, rRange2, rListRng, rRepN, rPopAt, rSetL, gSub, ipI, tDGet, tDGet2, sDPut, iEnum, iEZ, iZipL, iEnum, tRaise, tTryA, tTry2A, rIsX, rIsXT, rIsXP, rUpper, rPop, rExtendT, iZip, rInD, rIxD, rLen, rAll, rAny, rSum, rListOf, rEqS, rNeS, rSlTN, rStrB, tTupN, tLstN, rSlLN, rCatN, cxK, cxP, cxW, tSeq, tIfS, tTest, tB, tOp, tUn, tC, tAnd, tOr, tNot, tAndV, tOrV, tNotV, tIf, tNext, tBreak, tCont, tDrop, tRet, tRetN, gName, gNil, gCons, gTup, tAsg, tPar, tAug, rI, rI0, rU, rEq, rNe, tChain, tNil, tCons, tTup, tLst, tCall, tCB, tNoPart, tPart, tSl, rSlT, rSlL, rSlS, rIxL, rIxT, rIxS, rIn, tBM0, tBM, tyV, rAppend, rExtend, rCat, rZfill, rEqD, iList, iTup, iStr, iRng1, iRng2, tYes, tDisp, tPairs, rd_v0, rd_vS, rd_comp, rd_for, rd_ite_t, rd_ite_f, List.set_cons_zero, List.set_cons_succ, List.nil_append, List.cons_append, List.append_nil, V.int.injEq, V.str.injEq, V.bl.injEq, V.ref.injEq, V.ty.injEq, List.cons.injEq, and_true, true_and, exists_eq_left, exists_eq_left', exists_and_left, exists_eq, exists_const, if_true, if_false, ite_true, ite_false, rd_ss, rd_si, rd_is, rd_ii, rd_bb, Option.some.injEq, exists_eq_right, exists_eq_right', and_assoc, reduceCtorEq, false_and, and_false, false_or, or_false, exists_false]
  refine ⟨by decide, fun p H1 n1 => ⟨small_line (by simp), fun l H2 n2 => ?_⟩⟩
  have npl : p ≠ l := ne_of_none n1.at' n2.nil
  have hl0 : H l = none := n1.g.free n2.nil
  have g02 := n1.g.trans n2.g
  refine ⟨fun mm σ H' => ∃ (ls : List Int) (xs : List V) (ts : List TrZ) (v3 : Option V), mm = stw ts ∧ Same H H' ∧ σ = [some v, some (.ref p), some (.ref l), v3] ∧ H' p = some (.lst (ls.map V.int)) ∧ H' l = some (.lst xs) ∧ Paired (TreeZ H') xs ts ∧ ls ++ stk ts = t.lets ∧ stw ts ≤ 201,
    ⟨_, [], [v], [t], none, rfl, g02, rfl, n2.g _ _ n1.at', n2.at', .cons (tv.same g02) .nil, by simp [stk], by simp [stw]; omega⟩, ?_⟩
  rintro mm σ H' ⟨ls, xs, ts, v3, rfl, g, rfl, ep, el, pr, hst, hsw⟩
  have hxl := SS.Paired.len pr
  have hle := stk_le ts
  have hlen : ls.length + (stk ts).length = t.size := by rw [← TrZ.lets_len, ← hst, List.length_append]
  simp only [exists_eq', rEqI, rNeI, rInDc, rLenD, rLenT, rDictOf, rMaxL, rIndex, rCatTN, rCatTE, tDNewN, tDNewTN, tDisp1T, rNeM, rRange2, rListRng, rRepN, rPopAt, rSetL, gSub, ipI, tDGet, tDGet2, sDPut, iEnum, iEZ, iZipL, iEnum, tRaise, tTryA, tTry2A, rIsX, rIsXT, rIsXP, rUpper, rPop, rExtendT, iZip, rInD, rIxD, rLen, rAll, rAny, rSum, rListOf, rEqS, rNeS, rSlTN, rStrB, tTupN, tLstN, rSlLN, rCatN, cxK, cxP, cxW, tSeq, tIfS, tTest, tB, tOp, tUn, tC, tAnd, tOr, tNot, tAndV, tOrV, tNotV, tIf, tNext, tBreak, tCont, tDrop, tRet, tRetN, gName, gNil, gCons, gTup, tAsg, tPar, tAug, rI, rI0, rU, rEq, rNe, tChain, tNil, tCons, tTup, tLst, tCall, tCB, tNoPart, tPart, tSl, rSlT, rSlL, rSlS, rIxL, rIxT, rIxS, rIn, tBM0, tBM, tyV, rAppend, rExtend, rCat, rZfill, rEqD, iList, iTup, iStr, iRng1, iRng2, tYes, tDisp, tPairs, rd_v0, rd_vS, rd_comp, rd_for, rd_ite_t, rd_ite_f, List.set_cons_zero, List.set_cons_succ, List.nil_append, List.cons_append, List.append_nil, V.int.injEq, V.str.injEq, V.bl.injEq, V.ref.injEq, V.ty.injEq, List.cons.injEq, and_true, true_and, exists_eq_left, exists_eq_left', exists_and_left, exists_eq, exists_const, if_true, if_false, ite_true, ite_false, rd_ss, rd_si, rd_is, rd_ii, rd_bb, Option.some.injEq, exists_eq_right, exists_eq_right', and_assoc, reduceCtorEq, false_and, and_false, false_or, or_false, exists_false]
  rcases nil_or_snoc ts with rfl | ⟨ts0, t', rfl⟩
  · cases pr
    rw [show stk [] = [] from rfl, List.append_nil] at hst
    rw [hst] at ep
    exact ⟨false, .inl ⟨_, .of el, rfl⟩, iteF (q p H' n1.nil g ep)⟩
  obtain ⟨xs0, x', rfl, pr0, tx⟩ := paired_snoc pr
  refine ⟨true, .inl ⟨_, .of el, by simp⟩, iteT ⟨fun σ' H'' => ∃ m', m' < stw (ts0 ++ [t']) ∧ _, fun _ _ z => z, .inl ⟨_, .of el⟩, _, el, x', by simp, ?_⟩⟩
  rw [List.dropLast_concat]
  rw [List.length_append, List.length_singleton] at hxl
  have tsA : TupS H' (upd H' l (.lst xs0)) := TupS.wr el _
  have eu : upd H' l (.lst xs0) p = some (.lst (ls.map V.int)) := by rw [upd_ne npl]; exact ep
  have gu : Same H (upd H' l (.lst xs0)) := g.wr hl0 _
  rw [stk_snoc] at hst hlen
  rw [stw_snoc] at hsw ⊢
  rw [List.length_append] at hlen
  have hll' := TrZ.lets_len t'
  cases t' with
  | nil =>
    obtain rfl : x' = .non := tx
    rw [show (!decide (V.non = V.non)) = false by simp]
    exact iteF ⟨_, by omega, ls, xs0, ts0, rfl, gu, _, rfl, eu, upd_same, L2.Paired.mapP pr0 fun _ _ z => z.ts tsA, hst, by omega⟩
  | node z ta tb =>
    obtain ⟨p', va, vb, rfl, e', ha, hb⟩ := tx
    have e2 := tsA _ _ e'
    rw [show (!decide (V.ref p' = V.non)) = true by simp]
    refine iteT ⟨_, .tup e2, by decide, iteF ⟨p', rfl, _, .inr (.of e2), ?_⟩⟩
    rw [show (!decide (((([V.int z, va, vb] : List V).length : Nat) : Int) = 3)) = false by simp]
    refine iteF ⟨.inl ⟨_, .of eu⟩, p', rfl, _, .of e2, _, atI_0, _, eu, by rw [List.length_map]; exact small1000 (by omega), ?_⟩
    have elv : upd (upd H' l (.lst xs0)) p (.lst (ls.map V.int ++ [V.int z])) l = some (.lst xs0) := by rw [upd_ne (Ne.symm npl), upd_same]
    have epv : upd (upd H' l (.lst xs0)) p (.lst (ls.map V.int ++ [V.int z])) p = some (.lst (ls.map V.int ++ [V.int z])) := upd_same
    have tsB : TupS H' (upd (upd H' l (.lst xs0)) p (.lst (ls.map V.int ++ [V.int z]))) := tsA.trans (TupS.wr eu _)
    have gv : Same H (upd (upd H' l (.lst xs0)) p (.lst (ls.map V.int ++ [V.int z]))) := gu.wr n1.nil _
    generalize upd (upd H' l (.lst xs0)) p (.lst (ls.map V.int ++ [V.int z])) = Hv at elv epv tsB gv
    refine ⟨.inl ⟨_, .of elv⟩, p', rfl, _, .of (tsB _ _ e'), (show ¬(HT.sIx 3 0 (some 1) = 0 ∧ HT.sIx 3 3 none = 3) by decide), fun p2 H5 n5 => ?_⟩
    rw [show (1 : Int) = ((1 : Nat) : Int) from rfl, cutL_from] at n5
    have el5 := n5.g _ _ elv
    have hsz : (TrZ.node z ta tb).size = 1 + ta.size + tb.size := rfl
    have hln : (TrZ.node z ta tb).lets = z :: (tb.lets ++ ta.lets) := rfl
    have tsC : TupS H' (upd H5 l (.lst (xs0 ++ [va, vb]))) := tsB.trans (n5.g.tups.trans (TupS.wr el5 _))
    have hx0 := SS.Paired.len pr0
    have hle0 := stk_le ts0
    refine ⟨_, el5, _, .of n5.at', small_line (by simp; omega), _, ?_, ls ++ [z], (xs0 ++ [va]) ++ [vb], (ts0 ++ [ta]) ++ [tb], rfl, (gv.trans n5.g).wr hl0 _, _, rfl, ?_, ?_, SM.Paired.snoc (SM.Paired.snoc (L2.Paired.mapP pr0 fun _ _ z => z.ts tsC) (ha.ts tsC)) (hb.ts tsC), ?_, ?_⟩
    · rw [stw_snoc, stw_snoc, hsz]; omega
    · rw [upd_ne npl, n5.g _ _ epv, List.map_append]; rfl
    · rw [upd_same]; simp
    · rw [stk_snoc, stk_snoc, ← hst, hln]; simp
    · rw [stw_snoc, stw_snoc]; omega
abbrev s_tree_fits : Stmt := top 26
theorem sc_tree_fits : FnScope ["frame", "tree", "letters"] ["frame", "tree"] (defScope s_tree_fits) := ⟨rfl, rfl, rfl, by decide +kernel, rfl, by decide +kernel, by decide +kernel⟩
theorem ok_treefits (T : Txt K mg cNoTree cSayError cs) (d : Dfn K mg "tree_fits" s_tree_fits ["frame", "tree"]) (C_letters_of : Cal P w K mg base 1 "letters_of" ["tree"] sp_lettersof) (C_is_letter : Cal P w K mg base 3 "is_letter" ["thing", "tracks"] sp_isletter) (C_each_place_once : Cal P w K mg base 3 "each_place_once" ["frame", "letters"] sp_once) : CalE P w K mg base 4 "tree_fits" ["frame", "tree"] (sp_treefits cNoTree) := by
  refine d.calE sc_tree_fits (fun vs H Q E h => ?_) (fun f cdv A outer s H vs Q E hr h R => ?_)
  · obtain ⟨f, v, names, t, rfl, _⟩ := h
    rfl
  obtain ⟨fa, v, names, t, rfl, ef, fo, tv, h100, h⟩ := h
  have h4 := fo.1
  refine ⟨_, (pss_cons (ps_set (i := 2) sc_tree_fits.nd rfl (Or.inl rfl) (pe_callC C_letters_of hr (by omega) (by rfl) (pa_c (pv 1) pa_nil))) (pss_cons (ps_if (pt_not (pt_val (pe_cB (call_all_blK K rfl) (by rfl) T.b_all boot_all (pa_c (pe_lcomp ["letter"] [(0, "frame")] (CompOk.of rfl (by rfl) (by rfl)) (by rfl) (pi_listK K (pv 2)) (fun _ _ _ _ _ => (pg_name (i := 0) (show List.Nodup (["letter", "frame"] : List Str) by decide +kernel) (by rfl) (Or.inl (by rfl)))) (fun _ _ _ _ _ => pf_nil) (fun _ _ _ _ _ => (pe_callC C_is_letter hr (by omega) (by rfl) (pa_c (pv 0) (pa_c (pe_cB (call_len_seqK K) (by rfl) T.b_len boot_len (pa_c (pv 1) pa_nil)) pa_nil))))) pa_nil)))) (pss_one (ps_raiseK R rfl (by rfl) T.m_NoTree T.x_NoTree F.excBase_ValueError (pa_c pe_str pa_nil))) pss_nil) (pss_one (ps_ret (pe_callC C_each_place_once hr (by omega) (by rfl) (pa_c (pv 0) (pa_c (pv 2) pa_nil))))))), ?_⟩
  refine rd_st [some (.ref fa), some v, none] rfl ?_
  simp only [exists_eq', rEqI, rNeI, rInDc, rLenD, rLenT, rDictOf, rMaxL, rIndex, rCatTN, rCatTE, tDNewN, tDNewTN, tDisp1T, rNeM, rRange2, rListRng, rRepN, rPopAt, rSetL, gSub, ipI, tDGet, tDGet2, sDPut, iEnum, iEZ, iZipL, iEnum, tRaise, tTryA, tTry2A, rIsX, rIsXT, rIsXP, rUpper, rPop, rExtendT, iZip, rInD, rIxD, rLen, rAll, rAny, rSum, rListOf, rEqS, rNeS, rSlTN, rStrB, tTupN, tLstN, rSlLN, rCatN, cxK, cxP, cxW, tSeq, tIfS, tTest, tB, tOp, tUn, tC, tAnd, tOr, tNot, tAndV, tOrV, tNotV, tIf, tNext, tBreak, tCont, tDrop, tRet, tRetN, gName, gNil, gCons, gTup, tAsg, tPar, tAug, rI, rI0, rU, rEq, rNe, tChain, tNil, tCons, tTup, tLst, tCall, tCB, tNoPart, tPart, tSl, rSlT, rSlL, rSlS, rIxL, rIxT, rIxS, rIn, tBM0, tBM, tyV, rAppend, rExtend, rCat, rZfill, rEqD, iList, iTup, iStr, iRng1, iRng2, tYes, tDisp, tPairs, rd_v0, rd_vS, rd_comp, rd_for, rd_ite_t, rd_ite_f, List.set_cons_zero, List.set_cons_succ, List.nil_append, List.cons_append, List.append_nil, V.int.injEq, V.str.injEq, V.bl.injEq, V.ref.injEq, V.ty.injEq, List.cons.injEq, and_true, true_and, exists_eq_left, exists_eq_left', exists_and_left, exists_eq, exists_const, if_true, if_false, ite_true, ite_false, rd_ss, rd_si, rd_is, rd_ii, rd_bb, Option.some.injEq, exists_eq_right, exists_eq_right', and_assoc, reduceCtorEq, false_and, and_false, false_or, or_false, exists_false]
  refine ⟨v, t, rfl, tv, h100, fun D H1 hD g1 eD => ?_⟩
  have hll := TrZ.lets_len t
  refine ⟨D, rfl, ⟨_, .of eD⟩, cm_list (K := K) (a := D) (xs := t.lets.map V.int) (fun σ => ∃ v, σ = [v, some (.ref fa)]) (fun v => match v with | .int x => .bl (decide (0 ≤ x ∧ x < 2 ^ names.length)) | _ => .non) (by rw [List.length_map]; omega) (.of eD) ⟨_, rfl⟩ ?_ ?_⟩
  · rintro D3 i σ H3 x hi hm hx gg hD3 hD3' ⟨v, rfl⟩
    obtain ⟨z, mz, rfl⟩ := List.mem_map.mp hm
    simp only [exists_eq', rEqI, rNeI, rInDc, rLenD, rLenT, rDictOf, rMaxL, rIndex, rCatTN, rCatTE, tDNewN, tDNewTN, tDisp1T, rNeM, rRange2, rListRng, rRepN, rPopAt, rSetL, gSub, ipI, tDGet, tDGet2, sDPut, iEnum, iEZ, iZipL, iEnum, tRaise, tTryA, tTry2A, rIsX, rIsXT, rIsXP, rUpper, rPop, rExtendT, iZip, rInD, rIxD, rLen, rAll, rAny, rSum, rListOf, rEqS, rNeS, rSlTN, rStrB, tTupN, tLstN, rSlLN, rCatN, cxK, cxP, cxW, tSeq, tIfS, tTest, tB, tOp, tUn, tC, tAnd, tOr, tNot, tAndV, tOrV, tNotV, tIf, tNext, tBreak, tCont, tDrop, tRet, tRetN, gName, gNil, gCons, gTup, tAsg, tPar, tAug, rI, rI0, rU, rEq, rNe, tChain, tNil, tCons, tTup, tLst, tCall, tCB, tNoPart, tPart, tSl, rSlT, rSlL, rSlS, rIxL, rIxT, rIxS, rIn, tBM0, tBM, tyV, rAppend, rExtend, rCat, rZfill, rEqD, iList, iTup, iStr, iRng1, iRng2, tYes, tDisp, tPairs, rd_v0, rd_vS, rd_comp, rd_for, rd_ite_t, rd_ite_f, List.set_cons_zero, List.set_cons_succ, List.nil_append, List.cons_append, List.append_nil, V.int.injEq, V.str.injEq, V.bl.injEq, V.ref.injEq, V.ty.injEq, List.cons.injEq, and_true, true_and, exists_eq_left, exists_eq_left', exists_and_left, exists_eq, exists_const, if_true, if_false, ite_true, ite_false, rd_ss, rd_si, rd_is, rd_ii, rd_bb, Option.some.injEq, exists_eq_right, exists_eq_right', and_assoc, reduceCtorEq, false_and, and_false, false_or, or_false, exists_false]
    refine ⟨_, .inl (.of (gg _ _ (g1 _ _ ef))), ?_⟩
    rw [List.length_map]
    exact ⟨z, names.length, rfl, h4, cm_step (by rw [List.length_map]; omega) hx hD3 hD3' gg ⟨_, rfl⟩ rfl⟩
  intro D3 H3 hD3 g3 eD3
  have g03 := g1.trans g3
  have eD3' : H3 D3 = some (.lst ((t.lets.map fun x => decide (0 ≤ x ∧ x < 2 ^ names.length)).map V.bl)) := by rw [eD3, List.map_map, List.map_map]; rfl
  refine ⟨D3, rfl, _, .of eD3', ?_⟩
  rcases h with ⟨row, hrow, hin, q⟩ | ⟨⟨x, mx, hx⟩, q⟩
  · have hin' : ∀ x ∈ t.lets, 0 ≤ x ∧ x < 2 ^ names.length := fun x hx => by
      rw [hrow] at hx
      obtain ⟨l, ml, rfl⟩ := List.mem_map.mp hx
      have := hin l ml
      rw [pow_nat]
      omega
    have h32 : ∀ l ∈ row, l < 32 := fun l ml => by
      have := hin l ml
      have := pow_small h4
      omega
    rw [show (!(t.lets.map fun x => decide (0 ≤ x ∧ x < 2 ^ names.length)).all id) = false by
      rw [Bool.not_eq_false', List.all_eq_true]
      intro b hb
      obtain ⟨x, mx, rfl⟩ := List.mem_map.mp hb
      exact decide_eq_true (hin' x mx)]
    refine iteF ⟨fa, D, names, row, rfl, g03 _ _ ef, fo, ?_, ?_, h32, fun H4 g4 => q H4 (g03.trans g4)⟩
    · rw [g3 _ _ eD, map_nV, hrow]
    · have := congrArg List.length hrow
      rw [List.length_map, hll] at this
      omega
  · rw [show (!(t.lets.map fun x => decide (0 ≤ x ∧ x < 2 ^ names.length)).all id) = true by
      rw [Bool.not_eq_true', Bool.eq_false_iff]
      intro h
      exact hx (of_decide_eq_true (List.all_eq_true.mp h _ (List.mem_map.mpr ⟨x, mx, rfl⟩)))]
    exact iteT ⟨small_line (by simp), fun e he => q e H3 g03 he⟩
end
end K41

set_option Elab.async false
set_option linter.all false
set_option maxRecDepth 100000
set_option maxHeartbeats 4000000
namespace K41
open PySem PySem.Spec PyProof.Rows L2 SS SM
seal PE PT PW PA PS PSs
section
variable {P : Program} {w : World} {K : PySem.W.Frag} {mg : Str → Option Value} {base : Heap} {cNoTree cSayError : Addr} {cs : List Addr}
theorem up_small : ∀ d ∈ SMALL.cps.toList, Txt.upper ⟨#[d]⟩ = ⟨#[d - 32]⟩ ∧ d - 32 ∈ GREAT.cps.toList := by decide +kernel
abbrev s_law_name : Stmt := top 29
theorem sc_law_name : FnScope ["_law_kind", "_law_number", "_law_place", "_law_letters_here", "_law_sign"] ["_law_kind", "_law_number", "_law_place"] (defScope s_law_name) := ⟨rfl, rfl, rfl, by decide +kernel, rfl, by decide +kernel, by decide +kernel⟩
theorem ok_name41 (T : Txt K mg cNoTree cSayError cs) (d : Dfn K mg "_law_name" s_law_name ["_law_kind", "_law_number", "_law_place"]) : Cal P w K mg base 1 "_law_name" ["_law_kind", "_law_number", "_law_place"] sp_name41 := by
  refine d.cal sc_law_name (fun vs H Q E h => ?_) (fun f cdv A outer s H vs Q E hr h => ?_)
  · obtain ⟨k, n, p, rfl, _⟩ := h
    rfl
  obtain ⟨k, n, p, rfl, hp0, hp1, q⟩ := h
  refine ⟨_, (pss_cons (ps_set (i := 3) sc_law_name.nd rfl (Or.inl rfl) pe_str) (pss_cons (ps_set (i := 4) sc_law_name.nd rfl (Or.inl rfl) (pe_ix ix_str (pv 3) (pe_op op_mod (pe_op op_add (pv 1) (pe_op op_mul pe_int (pv 2))) pe_int) (fun _ _ => rfl))) (pss_cut (ps_if (pt_cmpR op_eq (pv 0) pe_int (nomark _)) (pss_one (ps_set (i := 4) sc_law_name.nd rfl (Or.inl rfl) (pe_bm0K K PySem.F.plainAttrs_str PySem.F.slot_str_upper PySem.F.type_str_upper mt_upper (pv 4)))) pss_nil) (pss_one (ps_ret (pe_op op_add_str (pv 4) (pe_ix (ix_listK K) (pe_lstN (pa_c pe_str (pa_c pe_str (pa_c pe_str (pa_c pe_str (pa_c pe_str pa_nil)))))) (pe_op op_mod (pe_op op_fdiv (pv 1) pe_int) pe_int) (fun _ _ => rfl)))))))), ?_⟩
  refine rd_st [some (.int k), some (.int n), some (.int p), none, none] rfl ?_
  simp only [exists_eq', rEqI, rNeI, rInDc, rLenD, rLenT, rDictOf, rMaxL, rIndex, rCatTN, rCatTE, tDNewN, tDNewTN, tDisp1T, rNeM, rRange2, rListRng, rRepN, rPopAt, rSetL, gSub, ipI, tDGet, tDGet2, sDPut, iEnum, iEZ, iZipL, iEnum, tRaise, tTryA, tTry2A, rIsX, rIsXT, rIsXP, rUpper, rPop, rExtendT, iZip, rInD, rIxD, rLen, rAll, rAny, rSum, rListOf, rEqS, rNeS, rSlTN, rStrB, tTupN, tLstN, rSlLN, rCatN, cxK, cxP, cxW, tSeq, tIfS, tTest, tB, tOp, tUn, tC, tAnd, tOr, tNot, tAndV, tOrV, tNotV, tIf, tNext, tBreak, tCont, tDrop, tRet, tRetN, gName, gNil, gCons, gTup, tAsg, tPar, tAug, rI, rI0, rU, rEq, rNe, tChain, tNil, tCons, tTup, tLst, tCall, tCB, tNoPart, tPart, tSl, rSlT, rSlL, rSlS, rIxL, rIxT, rIxS, rIn, tBM0, tBM, tyV, rAppend, rExtend, rCat, rZfill, rEqD, iList, iTup, iStr, iRng1, iRng2, tYes, tDisp, tPairs, rd_v0, rd_vS, rd_comp, rd_for, rd_ite_t, rd_ite_f, List.set_cons_zero, List.set_cons_succ, List.nil_append, List.cons_append, List.append_nil, V.int.injEq, V.str.injEq, V.bl.injEq, V.ref.injEq, V.ty.injEq, List.cons.injEq, and_true, true_and, exists_eq_left, exists_eq_left', exists_and_left, exists_eq, exists_const, if_true, if_false, ite_true, ite_false, rd_ss, rd_si, rd_is, rd_ii, rd_bb, Option.some.injEq, exists_eq_right, exists_eq_right', and_assoc, reduceCtorEq, false_and, and_false, false_or, or_false, exists_false]
  obtain ⟨dd, ed, md⟩ := atI_mod (i := n + 7 * p) (xs := SMALL.cps.toList) (n := 26) (by decide +kernel) (by decide)
  refine ⟨.inl ⟨by decide, by decide⟩, by decide, small_line (by decide +kernel), dd, ed, ?_⟩
  refine ⟨fun σ H' => Same H H' ∧ ∃ (d : Nat) (l : Str), (l = SMALL ∨ l = GREAT) ∧ d ∈ l.cps.toList ∧ σ = [some (.int k), some (.int n), some (.int p), some (.str SMALL), some (.str ⟨#[d]⟩)], ?_, ?_⟩
  · simp only [exists_eq', rEqI, rNeI, rInDc, rLenD, rLenT, rDictOf, rMaxL, rIndex, rCatTN, rCatTE, tDNewN, tDNewTN, tDisp1T, rNeM, rRange2, rListRng, rRepN, rPopAt, rSetL, gSub, ipI, tDGet, tDGet2, sDPut, iEnum, iEZ, iZipL, iEnum, tRaise, tTryA, tTry2A, rIsX, rIsXT, rIsXP, rUpper, rPop, rExtendT, iZip, rInD, rIxD, rLen, rAll, rAny, rSum, rListOf, rEqS, rNeS, rSlTN, rStrB, tTupN, tLstN, rSlLN, rCatN, cxK, cxP, cxW, tSeq, tIfS, tTest, tB, tOp, tUn, tC, tAnd, tOr, tNot, tAndV, tOrV, tNotV, tIf, tNext, tBreak, tCont, tDrop, tRet, tRetN, gName, gNil, gCons, gTup, tAsg, tPar, tAug, rI, rI0, rU, rEq, rNe, tChain, tNil, tCons, tTup, tLst, tCall, tCB, tNoPart, tPart, tSl, rSlT, rSlL, rSlS, rIxL, rIxT, rIxS, rIn, tBM0, tBM, tyV, rAppend, rExtend, rCat, rZfill, rEqD, iList, iTup, iStr, iRng1, iRng2, tYes, tDisp, tPairs, rd_v0, rd_vS, rd_comp, rd_for, rd_ite_t, rd_ite_f, List.set_cons_zero, List.set_cons_succ, List.nil_append, List.cons_append, List.append_nil, V.int.injEq, V.str.injEq, V.bl.injEq, V.ref.injEq, V.ty.injEq, List.cons.injEq, and_true, true_and, exists_eq_left, exists_eq_left', exists_and_left, exists_eq, exists_const, if_true, if_false, ite_true, ite_false, rd_ss, rd_si, rd_is, rd_ii, rd_bb, Option.some.injEq, exists_eq_right, exists_eq_right', and_assoc, reduceCtorEq, false_and, and_false, false_or, or_false, exists_false]
    refine ite2 (fun _ => ?_) fun _ => ?_
    · obtain ⟨h1, h2⟩ := up_small dd md
      exact ⟨by rw [h1]; rfl, Same.refl _, _, GREAT, .inr rfl, h2, rfl, h1⟩
    · exact ⟨Same.refl _, dd, SMALL, .inl rfl, md, rfl, rfl⟩
  · rintro σ H' ⟨g, d, l, hl, hd, rfl⟩
    simp only [exists_eq', rEqI, rNeI, rInDc, rLenD, rLenT, rDictOf, rMaxL, rIndex, rCatTN, rCatTE, tDNewN, tDNewTN, tDisp1T, rNeM, rRange2, rListRng, rRepN, rPopAt, rSetL, gSub, ipI, tDGet, tDGet2, sDPut, iEnum, iEZ, iZipL, iEnum, tRaise, tTryA, tTry2A, rIsX, rIsXT, rIsXP, rUpper, rPop, rExtendT, iZip, rInD, rIxD, rLen, rAll, rAny, rSum, rListOf, rEqS, rNeS, rSlTN, rStrB, tTupN, tLstN, rSlLN, rCatN, cxK, cxP, cxW, tSeq, tIfS, tTest, tB, tOp, tUn, tC, tAnd, tOr, tNot, tAndV, tOrV, tNotV, tIf, tNext, tBreak, tCont, tDrop, tRet, tRetN, gName, gNil, gCons, gTup, tAsg, tPar, tAug, rI, rI0, rU, rEq, rNe, tChain, tNil, tCons, tTup, tLst, tCall, tCB, tNoPart, tPart, tSl, rSlT, rSlL, rSlS, rIxL, rIxT, rIxS, rIn, tBM0, tBM, tyV, rAppend, rExtend, rCat, rZfill, rEqD, iList, iTup, iStr, iRng1, iRng2, tYes, tDisp, tPairs, rd_v0, rd_vS, rd_comp, rd_for, rd_ite_t, rd_ite_f, List.set_cons_zero, List.set_cons_succ, List.nil_append, List.cons_append, List.append_nil, V.int.injEq, V.str.injEq, V.bl.injEq, V.ref.injEq, V.ty.injEq, List.cons.injEq, and_true, true_and, exists_eq_left, exists_eq_left', exists_and_left, exists_eq, exists_const, if_true, if_false, ite_true, ite_false, rd_ss, rd_si, rd_is, rd_ii, rd_bb, Option.some.injEq, exists_eq_right, exists_eq_right', and_assoc, reduceCtorEq, false_and, and_false, false_or, or_false, exists_false]
    refine ⟨small_line (by simp), fun pl H1 n1 => ⟨⟨by decide, by decide⟩, by decide, _, .of n1.at', ?_⟩⟩
    have j0 := Int.emod_nonneg (n / 26) (show (5 : Int) ≠ 0 by decide)
    have j1 := Int.emod_lt_of_pos (n / 26) (show (0 : Int) < 5 by decide)
    have fin : ∀ (z : Str), z.length ≤ 3 → (∀ x ∈ z.cps.toList, x ∈ FIGS.cps.toList) → (Str.length ⟨#[d]⟩) + z.length ≤ sizeLine ∧ Q (.str (⟨#[d]⟩ ++ z)) H1 := fun z hz hf => by
      have e1 : (Str.length ⟨#[d]⟩) = 1 := rfl
      refine ⟨small_line (by omega), q _ H1 ?_ (g.trans n1.g)⟩
      have e2 : ((⟨#[d]⟩ : Str) ++ z).cps.toList = d :: z.cps.toList := by rw [cat_list]; rfl
      rw [SM.len_list] at hz
      rcases hl with rfl | rfl
      · exact .inl (nam_mk e2 hd hz hf)
      · exact .inr (nam_mk e2 hd hz hf)
    have hj : n / 26 % 5 = 0 ∨ n / 26 % 5 = 1 ∨ n / 26 % 5 = 2 ∨ n / 26 % 5 = 3 ∨ n / 26 % 5 = 4 := by omega
    rcases hj with e | e | e | e | e <;> rw [e]
    · exact ⟨_, atI_0, _, rfl, fin _ (by decide +kernel) (by decide +kernel)⟩
    · exact ⟨_, atI_nat (j := 1) rfl, _, rfl, fin _ (by decide +kernel) (by decide +kernel)⟩
    · exact ⟨_, atI_nat (j := 2) rfl, _, rfl, fin _ (by decide +kernel) (by decide +kernel)⟩
    · exact ⟨_, atI_nat (j := 3) rfl, _, rfl, fin _ (by decide +kernel) (by decide +kernel)⟩
    · exact ⟨_, atI_nat (j := 4) rfl, _, rfl, fin _ (by decide +kernel) (by decide +kernel)⟩
abbrev s_law_frame : Stmt := top 30
theorem sc_law_frame : FnScope ["_law_number", "_law_many", "_law_frame_here", "_law_k"] ["_law_number", "_law_many"] (defScope s_law_frame) := ⟨rfl, rfl, rfl, by decide +kernel, rfl, by decide +kernel, by decide +kernel⟩
theorem ok_frame41 (T : Txt K mg cNoTree cSayError cs) (d : Dfn K mg "_law_frame" s_law_frame ["_law_number", "_law_many"]) (C_law_name : Cal P w K mg base 1 "_law_name" ["_law_kind", "_law_number", "_law_place"] sp_name41) : Cal P w K mg base 2 "_law_frame" ["_law_number", "_law_many"] sp_frame41 := by
  refine d.cal sc_law_frame (fun vs H Q E h => ?_) (fun f cdv A outer s H vs Q E hr h => ?_)
  · obtain ⟨n, m, rfl, _⟩ := h
    rfl
  obtain ⟨n, many, rfl, hm, q⟩ := h
  refine ⟨_, (pss_cons (ps_set (i := 2) sc_law_frame.nd rfl (Or.inl rfl) (pe_lstN pa_nil)) (pss_cons (ps_for PassesOwn.never rfl (pi_range1 (by rfl) T.b_range (pa_c (pv 1) pa_nil)) (pg_name (i := 3) sc_law_frame.nd (by rfl) (Or.inl (by rfl))) (pss_one (ps_expr (pe_bmK K PySem.F.plainAttrs_list PySem.F.slot_list_append PySem.F.type_list_append mt_append (pv 2) (pa_c (pe_callC C_law_name hr (by omega) (by rfl) (pa_c (pe_op op_mod (pe_op op_fdiv (pv 0) (pe_op op_add pe_int (pv 3))) pe_int) (pa_c (pe_op op_fdiv (pv 0) pe_int) (pa_c (pv 3) pa_nil)))) pa_nil))))) (pss_one (ps_ret (pv 2))))), ?_⟩
  refine rd_st [some (.int n), some (nV many), none, none] rfl ?_
  simp only [exists_eq', rEqI, rNeI, rInDc, rLenD, rLenT, rDictOf, rMaxL, rIndex, rCatTN, rCatTE, tDNewN, tDNewTN, tDisp1T, rNeM, rRange2, rListRng, rRepN, rPopAt, rSetL, gSub, ipI, tDGet, tDGet2, sDPut, iEnum, iEZ, iZipL, iEnum, tRaise, tTryA, tTry2A, rIsX, rIsXT, rIsXP, rUpper, rPop, rExtendT, iZip, rInD, rIxD, rLen, rAll, rAny, rSum, rListOf, rEqS, rNeS, rSlTN, rStrB, tTupN, tLstN, rSlLN, rCatN, cxK, cxP, cxW, tSeq, tIfS, tTest, tB, tOp, tUn, tC, tAnd, tOr, tNot, tAndV, tOrV, tNotV, tIf, tNext, tBreak, tCont, tDrop, tRet, tRetN, gName, gNil, gCons, gTup, tAsg, tPar, tAug, rI, rI0, rU, rEq, rNe, tChain, tNil, tCons, tTup, tLst, tCall, tCB, tNoPart, tPart, tSl, rSlT, rSlL, rSlS, rIxL, rIxT, rIxS, rIn, tBM0, tBM, tyV, rAppend, rExtend, rCat, rZfill, rEqD, iList, iTup, iStr, iRng1, iRng2, tYes, tDisp, tPairs, rd_v0, rd_vS, rd_comp, rd_for, rd_ite_t, rd_ite_f, List.set_cons_zero, List.set_cons_succ, List.nil_append, List.cons_append, List.append_nil, V.int.injEq, V.str.injEq, V.bl.injEq, V.ref.injEq, V.ty.injEq, List.cons.injEq, and_true, true_and, exists_eq_left, exists_eq_left', exists_and_left, exists_eq, exists_const, if_true, if_false, ite_true, ite_false, rd_ss, rd_si, rd_is, rd_ii, rd_bb, Option.some.injEq, exists_eq_right, exists_eq_right', and_assoc, reduceCtorEq, false_and, and_false, false_or, or_false, exists_false]
  refine ⟨by decide, fun p H1 n1 => ⟨by omega, by omega, ?_⟩⟩
  rw [show ((many : Nat) : Int).toNat = many from rfl]
  refine fb_range (fun i σ H' => Same H H' ∧ (∃ v3, σ = [some (.int n), some (nV many), some (.ref p), v3]) ∧ ∃ names : List Str, H' p = some (.lst (names.map V.str)) ∧ names.length = i ∧ ∀ z ∈ names, NmOk z) ⟨n1.g, ⟨_, rfl⟩, [], n1.at', rfl, fun z h => nomatch h⟩ ?_ ?_
  · rintro i σ H' hi ⟨g, ⟨v3, rfl⟩, names, ep, hl, hn⟩
    simp only [exists_eq', rEqI, rNeI, rInDc, rLenD, rLenT, rDictOf, rMaxL, rIndex, rCatTN, rCatTE, tDNewN, tDNewTN, tDisp1T, rNeM, rRange2, rListRng, rRepN, rPopAt, rSetL, gSub, ipI, tDGet, tDGet2, sDPut, iEnum, iEZ, iZipL, iEnum, tRaise, tTryA, tTry2A, rIsX, rIsXT, rIsXP, rUpper, rPop, rExtendT, iZip, rInD, rIxD, rLen, rAll, rAny, rSum, rListOf, rEqS, rNeS, rSlTN, rStrB, tTupN, tLstN, rSlLN, rCatN, cxK, cxP, cxW, tSeq, tIfS, tTest, tB, tOp, tUn, tC, tAnd, tOr, tNot, tAndV, tOrV, tNotV, tIf, tNext, tBreak, tCont, tDrop, tRet, tRetN, gName, gNil, gCons, gTup, tAsg, tPar, tAug, rI, rI0, rU, rEq, rNe, tChain, tNil, tCons, tTup, tLst, tCall, tCB, tNoPart, tPart, tSl, rSlT, rSlL, rSlS, rIxL, rIxT, rIxS, rIn, tBM0, tBM, tyV, rAppend, rExtend, rCat, rZfill, rEqD, iList, iTup, iStr, iRng1, iRng2, tYes, tDisp, tPairs, rd_v0, rd_vS, rd_comp, rd_for, rd_ite_t, rd_ite_f, List.set_cons_zero, List.set_cons_succ, List.nil_append, List.cons_append, List.append_nil, V.int.injEq, V.str.injEq, V.bl.injEq, V.ref.injEq, V.ty.injEq, List.cons.injEq, and_true, true_and, exists_eq_left, exists_eq_left', exists_and_left, exists_eq, exists_const, if_true, if_false, ite_true, ite_false, rd_ss, rd_si, rd_is, rd_ii, rd_bb, Option.some.injEq, exists_eq_right, exists_eq_right', and_assoc, reduceCtorEq, false_and, and_false, false_or, or_false, exists_false]
    refine ⟨.inl ⟨_, .of ep⟩, ⟨by omega, by omega⟩, by decide, ⟨by decide, by decide⟩, _, _, _, rfl, by omega, by omega, fun z H1 hz g1 => ⟨_, g1 _ _ ep, by rw [List.length_map]; exact small1000 (by omega), (g.trans g1).wr n1.nil _, names ++ [z], by rw [upd_same, List.map_append]; rfl, by rw [List.length_append, List.length_singleton, hl], fun y hy => ?_⟩⟩
    rcases List.mem_append.mp hy with h | h
    · exact hn y h
    · rw [List.mem_singleton.mp h]; exact hz
  · rintro σ H' ⟨g, ⟨v3, rfl⟩, names, ep, hl, hn⟩
    simp only [exists_eq', rEqI, rNeI, rInDc, rLenD, rLenT, rDictOf, rMaxL, rIndex, rCatTN, rCatTE, tDNewN, tDNewTN, tDisp1T, rNeM, rRange2, rListRng, rRepN, rPopAt, rSetL, gSub, ipI, tDGet, tDGet2, sDPut, iEnum, iEZ, iZipL, iEnum, tRaise, tTryA, tTry2A, rIsX, rIsXT, rIsXP, rUpper, rPop, rExtendT, iZip, rInD, rIxD, rLen, rAll, rAny, rSum, rListOf, rEqS, rNeS, rSlTN, rStrB, tTupN, tLstN, rSlLN, rCatN, cxK, cxP, cxW, tSeq, tIfS, tTest, tB, tOp, tUn, tC, tAnd, tOr, tNot, tAndV, tOrV, tNotV, tIf, tNext, tBreak, tCont, tDrop, tRet, tRetN, gName, gNil, gCons, gTup, tAsg, tPar, tAug, rI, rI0, rU, rEq, rNe, tChain, tNil, tCons, tTup, tLst, tCall, tCB, tNoPart, tPart, tSl, rSlT, rSlL, rSlS, rIxL, rIxT, rIxS, rIn, tBM0, tBM, tyV, rAppend, rExtend, rCat, rZfill, rEqD, iList, iTup, iStr, iRng1, iRng2, tYes, tDisp, tPairs, rd_v0, rd_vS, rd_comp, rd_for, rd_ite_t, rd_ite_f, List.set_cons_zero, List.set_cons_succ, List.nil_append, List.cons_append, List.append_nil, V.int.injEq, V.str.injEq, V.bl.injEq, V.ref.injEq, V.ty.injEq, List.cons.injEq, and_true, true_and, exists_eq_left, exists_eq_left', exists_and_left, exists_eq, exists_const, if_true, if_false, ite_true, ite_false, rd_ss, rd_si, rd_is, rd_ii, rd_bb, Option.some.injEq, exists_eq_right, exists_eq_right', and_assoc, reduceCtorEq, false_and, and_false, false_or, or_false, exists_false]
    exact q p names H' n1.nil g ep ⟨by omega, hn⟩ hl
end
end K41

set_option Elab.async false
set_option linter.all false
set_option maxRecDepth 100000
set_option maxHeartbeats 4000000
namespace K41
open PySem PySem.Spec PyProof.Rows L2 SS SM
seal PE PT PW PA PS PSs
section
variable {P : Program} {w : World} {K : PySem.W.Frag} {mg : Str → Option Value} {base : Heap} {cNoTree cSayError : Addr} {cs : List Addr}
abbrev s_law_size : Stmt := top 31
theorem sc_law_size : FnScope ["_law_tree"] ["_law_tree"] (defScope s_law_size) := ⟨rfl, rfl, rfl, by decide +kernel, rfl, by decide +kernel, by decide +kernel⟩
theorem ok_sizeT (T : Txt K mg cNoTree cSayError cs) (d : Dfn K mg "_law_size" s_law_size ["_law_tree"]) : ∀ dd, Cal P w K mg base (1 + dd) "_law_size" ["_law_tree"] (sp_sizeT dd)
  | 0 => (d.never fun vs H Q E ⟨v, t, _, _, h, _⟩ => absurd h (Nat.not_lt_zero _)).mono (by omega)
  | dd + 1 => by
    have C_law_size := ok_sizeT T d dd
    refine d.cal sc_law_size (fun vs H Q E h => ?_) (fun f cdv A outer s H vs Q E hr h => ?_)
    · obtain ⟨v, t, rfl, _⟩ := h
      rfl
    obtain ⟨v, t, rfl, tv, hd, q⟩ := h
    change Room (1 + dd) _ at hr
    refine ⟨_, (pss_cons (ps_if (pt_cmpR op_isN (pv 0) pe_non (nomark _)) (pss_one (ps_ret pe_int)) pss_nil) (pss_one (ps_ret (pe_op op_add (pe_op op_add pe_int (pe_callC C_law_size hr (by omega) (by rfl) (pa_c (pe_ix (ix_tupK K) (pv 0) pe_int (fun _ _ => rfl)) pa_nil))) (pe_callC C_law_size hr (by omega) (by rfl) (pa_c (pe_ix (ix_tupK K) (pv 0) pe_int (fun _ _ => rfl)) pa_nil)))))), ?_⟩
    refine rd_st [some v] rfl ?_
    simp only [exists_eq', rEqI, rNeI, rInDc, rLenD, rLenT, rDictOf, rMaxL, rIndex, rCatTN, rCatTE, tDNewN, tDNewTN, tDisp1T, rNeM, rRange2, rListRng, rRepN, rPopAt, rSetL, gSub, ipI, tDGet, tDGet2, sDPut, iEnum, iEZ, iZipL, iEnum, tRaise, tTryA, tTry2A, rIsX, rIsXT, rIsXP, rUpper, rPop, rExtendT, iZip, rInD, rIxD, rLen, rAll, rAny, rSum, rListOf, rEqS, rNeS, rSlTN, rStrB, tTupN, tLstN, rSlLN, rCatN, cxK, cxP, cxW, tSeq, tIfS, tTest, tB, tOp, tUn, tC, tAnd, tOr, tNot, tAndV, tOrV, tNotV, tIf, tNext, tBreak, tCont, tDrop, tRet, tRetN, gName, gNil, gCons, gTup, tAsg, tPar, tAug, rI, rI0, rU, rEq, rNe, tChain, tNil, tCons, tTup, tLst, tCall, tCB, tNoPart, tPart, tSl, rSlT, rSlL, rSlS, rIxL, rIxT, rIxS, rIn, tBM0, tBM, tyV, rAppend, rExtend, rCat, rZfill, rEqD, iList, iTup, iStr, iRng1, iRng2, tYes, tDisp, tPairs, rd_v0, rd_vS, rd_comp, rd_for, rd_ite_t, rd_ite_f, List.set_cons_zero, List.set_cons_succ, List.nil_append, List.cons_append, List.append_nil, V.int.injEq, V.str.injEq, V.bl.injEq, V.ref.injEq, V.ty.injEq, List.cons.injEq, and_true, true_and, exists_eq_left, exists_eq_left', exists_and_left, exists_eq, exists_const, if_true, if_false, ite_true, ite_false, rd_ss, rd_si, rd_is, rd_ii, rd_bb, Option.some.injEq, exists_eq_right, exists_eq_right', and_assoc, reduceCtorEq, false_and, and_false, false_or, or_false, exists_false]
    cases t with
    | nil =>
      obtain rfl : v = .non := tv
      rw [decide_eq_true rfl]
      exact iteT q
    | node l x y =>
      obtain ⟨p, va, vb, rfl, ep, ta, tb⟩ := tv
      have hx : x.depth < dd := by have : 1 + max x.depth y.depth < dd + 1 := hd; omega
      have hy : y.depth < dd := by have : 1 + max x.depth y.depth < dd + 1 := hd; omega
      rw [decide_eq_false (fun h => nomatch h)]
      refine iteF ⟨p, rfl, _, .of ep, _, atI_nat (j := 1) rfl, va, x, rfl, ta, hx, _, rfl, p, rfl, _, .of ep, _, atI_nat (j := 2) rfl, vb, y, rfl, tb, hy, _, rfl, ?_⟩
      rw [show (1 : Int) + (x.size : Int) + (y.size : Int) = ((1 + x.size + y.size : Nat) : Int) by omega]
      exact q
abbrev s_law_trees : Stmt := top 32
theorem sc_law_trees : FnScope ["_law_cells", "_law_letters_here", "_law_most", "_law_pool", "_law_cell", "_law_mixed", "_law_letter", "_law_one", "_law_other"] ["_law_cells", "_law_letters_here", "_law_most"] (defScope s_law_trees) := ⟨rfl, rfl, rfl, by decide +kernel, rfl, by decide +kernel, by decide +kernel⟩
theorem ok_trees (T : Txt K mg cNoTree cSayError cs) (d : Dfn K mg "_law_trees" s_law_trees ["_law_cells", "_law_letters_here", "_law_most"]) (C_law_size : Cal P w K mg base 62 "_law_size" ["_law_tree"] (sp_sizeT 61)) : Cal P w K mg base 63 "_law_trees" ["_law_cells", "_law_letters_here", "_law_most"] sp_trees := by
  refine d.cal sc_law_trees (fun vs H Q E h => ?_) (fun f cdv A outer s H vs Q E hr h => ?_)
  · obtain ⟨c, ns, L, mo, rfl, _⟩ := h
    rfl
  obtain ⟨c, ns, L, mo, rfl, ec, h63, hL, hmo, q⟩ := h
  refine ⟨_, (pss_cons (ps_set (i := 3) sc_law_trees.nd rfl (Or.inl rfl) (pe_lstN (pa_c pe_non pa_nil))) (pss_cons (ps_for PassesOwn.never rfl (pi_listK K (pv 0)) (pg_name (i := 4) sc_law_trees.nd (by rfl) (Or.inl (by rfl))) (pss_cons (ps_set (i := 5) sc_law_trees.nd rfl (Or.inl rfl) (pe_op op_mod (pe_op op_mul (pv 4) pe_int) pe_int)) (pss_cons (ps_set (i := 6) sc_law_trees.nd rfl (Or.inl rfl) (pe_op op_mod (pv 5) (pv 1))) (pss_cons (ps_set (i := 7) sc_law_trees.nd rfl (Or.inl rfl) (pe_ix (ix_listK K) (pv 3) (pe_op op_mod (pe_op op_fdiv (pv 5) pe_int) (pe_cB (call_len_seqK K) (by rfl) T.b_len boot_len (pa_c (pv 3) pa_nil))) (fun _ _ => rfl))) (pss_cons (ps_set (i := 8) sc_law_trees.nd rfl (Or.inl rfl) (pe_ix (ix_listK K) (pv 3) (pe_op op_mod (pe_op op_fdiv (pv 5) pe_int) (pe_cB (call_len_seqK K) (by rfl) T.b_len boot_len (pa_c (pv 3) pa_nil))) (fun _ _ => rfl))) (pss_cut (ps_if (pt_cmpR op_eq (pe_op op_mod (pe_op op_fdiv (pv 5) pe_int) pe_int) pe_int (nomark _)) (pss_one (ps_set (i := 8) sc_law_trees.nd rfl (Or.inl rfl) (pe_ix (ix_listK K) (pv 3) (pe_un un_neg pe_int) (fun _ _ => rfl)))) pss_nil) (pss_one (ps_if (pt_cmpR op_lt (pe_op op_add (pe_callC C_law_size hr (by omega) (by rfl) (pa_c (pv 7) pa_nil)) (pe_callC C_law_size hr (by omega) (by rfl) (pa_c (pv 8) pa_nil))) (pv 2) (nomark _)) (pss_one (ps_expr (pe_bmK K PySem.F.plainAttrs_list PySem.F.slot_list_append PySem.F.type_list_append mt_append (pv 3) (pa_c (pe_tupN (pa_c (pv 6) (pa_c (pv 7) (pa_c (pv 8) pa_nil)))) pa_nil)))) pss_nil)))))))) (pss_one (ps_ret (pv 3))))), ?_⟩
  refine rd_st [some (.ref c), some (nV L), some (nV mo), none, none, none, none, none, none] rfl ?_
  simp only [exists_eq', rEqI, rNeI, rInDc, rLenD, rLenT, rDictOf, rMaxL, rIndex, rCatTN, rCatTE, tDNewN, tDNewTN, tDisp1T, rNeM, rRange2, rListRng, rRepN, rPopAt, rSetL, gSub, ipI, tDGet, tDGet2, sDPut, iEnum, iEZ, iZipL, iEnum, tRaise, tTryA, tTry2A, rIsX, rIsXT, rIsXP, rUpper, rPop, rExtendT, iZip, rInD, rIxD, rLen, rAll, rAny, rSum, rListOf, rEqS, rNeS, rSlTN, rStrB, tTupN, tLstN, rSlLN, rCatN, cxK, cxP, cxW, tSeq, tIfS, tTest, tB, tOp, tUn, tC, tAnd, tOr, tNot, tAndV, tOrV, tNotV, tIf, tNext, tBreak, tCont, tDrop, tRet, tRetN, gName, gNil, gCons, gTup, tAsg, tPar, tAug, rI, rI0, rU, rEq, rNe, tChain, tNil, tCons, tTup, tLst, tCall, tCB, tNoPart, tPart, tSl, rSlT, rSlL, rSlS, rIxL, rIxT, rIxS, rIn, tBM0, tBM, tyV, rAppend, rExtend, rCat, rZfill, rEqD, iList, iTup, iStr, iRng1, iRng2, tYes, tDisp, tPairs, rd_v0, rd_vS, rd_comp, rd_for, rd_ite_t, rd_ite_f, List.set_cons_zero, List.set_cons_succ, List.nil_append, List.cons_append, List.append_nil, V.int.injEq, V.str.injEq, V.bl.injEq, V.ref.injEq, V.ty.injEq, List.cons.injEq, and_true, true_and, exists_eq_left, exists_eq_left', exists_and_left, exists_eq, exists_const, if_true, if_false, ite_true, ite_false, rd_ss, rd_si, rd_is, rd_ii, rd_bb, Option.some.injEq, exists_eq_right, exists_eq_right', and_assoc, reduceCtorEq, false_and, and_false, false_or, or_false, exists_false]
  refine ⟨small_line (by simp), fun p H1 n1 => ⟨⟨_, .of (n1.g _ _ ec)⟩, ?_⟩⟩
  have npc : c ≠ p := ne_of_none ec n1.nil
  refine fb_list (K := K) (a := c) (xs := ns.map V.int) (fun i σ H' => Same H H' ∧ (∃ v4 v5 v6 v7 v8, σ = [some (.ref c), some (nV L), some (nV mo), some (.ref p), v4, v5, v6, v7, v8]) ∧ ∃ xs ts, H' p = some (.lst xs) ∧ Paired (TreeV H') xs ts ∧ 0 < ts.length ∧ ts.length ≤ i + 1 ∧ ∀ t ∈ ts, t.Let L ∧ t.size ≤ mo)
    ⟨n1.g, ⟨_, _, _, _, _, rfl⟩, [.non], [.nil], n1.at', .cons rfl .nil, by simp, by simp, fun t ht => by rw [List.mem_singleton.mp ht]; exact ⟨trivial, by simp [Tr.size]⟩⟩ (fun i σ H' _ z => .of (z.1 _ _ ec)) ?_ ?_
  · rintro i y σ H' hy ⟨g, ⟨v4, v5, v6, v7, v8, rfl⟩, xs, ts, ep, pr, h0, hl, hg⟩
    rw [List.getElem?_map] at hy
    obtain ⟨z, ez, rfl⟩ := Option.map_eq_some_iff.mp hy
    have hxl := SS.Paired.len pr
    have hi := (List.getElem?_eq_some_iff.mp ez).1
    simp only [exists_eq', rEqI, rNeI, rInDc, rLenD, rLenT, rDictOf, rMaxL, rIndex, rCatTN, rCatTE, tDNewN, tDNewTN, tDisp1T, rNeM, rRange2, rListRng, rRepN, rPopAt, rSetL, gSub, ipI, tDGet, tDGet2, sDPut, iEnum, iEZ, iZipL, iEnum, tRaise, tTryA, tTry2A, rIsX, rIsXT, rIsXP, rUpper, rPop, rExtendT, iZip, rInD, rIxD, rLen, rAll, rAny, rSum, rListOf, rEqS, rNeS, rSlTN, rStrB, tTupN, tLstN, rSlLN, rCatN, cxK, cxP, cxW, tSeq, tIfS, tTest, tB, tOp, tUn, tC, tAnd, tOr, tNot, tAndV, tOrV, tNotV, tIf, tNext, tBreak, tCont, tDrop, tRet, tRetN, gName, gNil, gCons, gTup, tAsg, tPar, tAug, rI, rI0, rU, rEq, rNe, tChain, tNil, tCons, tTup, tLst, tCall, tCB, tNoPart, tPart, tSl, rSlT, rSlL, rSlS, rIxL, rIxT, rIxS, rIn, tBM0, tBM, tyV, rAppend, rExtend, rCat, rZfill, rEqD, iList, iTup, iStr, iRng1, iRng2, tYes, tDisp, tPairs, rd_v0, rd_vS, rd_comp, rd_for, rd_ite_t, rd_ite_f, List.set_cons_zero, List.set_cons_succ, List.nil_append, List.cons_append, List.append_nil, V.int.injEq, V.str.injEq, V.bl.injEq, V.ref.injEq, V.ty.injEq, List.cons.injEq, and_true, true_and, exists_eq_left, exists_eq_left', exists_and_left, exists_eq, exists_const, if_true, if_false, ite_true, ite_false, rd_ss, rd_si, rd_is, rd_ii, rd_bb, Option.some.injEq, exists_eq_right, exists_eq_right', and_assoc, reduceCtorEq, false_and, and_false, false_or, or_false, exists_false]
    have pick : ∀ e : Int, ∃ v t, atI xs (e % (xs.length : Int)) = some v ∧ TreeV H' v t ∧ t ∈ ts := fun e => by
      obtain ⟨v, hv, mv⟩ := atI_mod (i := e) (xs := xs) (n := xs.length) rfl (by omega)
      obtain ⟨j, hj, ej⟩ := List.getElem_of_mem mv
      obtain ⟨t, et, tv⟩ := SS.Paired.at pr (List.getElem?_eq_some_iff.mpr ⟨hj, ej⟩)
      exact ⟨v, t, hv, tv, List.mem_of_getElem? et⟩
    generalize z * 48271 % 999999999989 = mx
    obtain ⟨x1, t1, a1, tv1, m1⟩ := pick (mx / 16)
    obtain ⟨x2, t2, a2, tv2, m2⟩ := pick (mx / 1024)
    refine ⟨.inr ⟨by decide, by decide⟩, by decide, by omega, ⟨by decide, by decide⟩, _, .inl (.of ep), by omega, _, .of ep, _, a1, ⟨by decide, by decide⟩, _, .inl (.of ep), by omega, _, .of ep, _, a2, ?_⟩
    refine ⟨fun σ H'' => H' = H'' ∧ ∃ x t, TreeV H' x t ∧ t ∈ ts ∧ σ = [some (.ref c), some (nV L), some (nV mo), some (.ref p), some (.int z), some (.int mx), some (.int (mx % (L : Int))), some x1, some x], ?_, ?_⟩
    · simp only [exists_eq', rEqI, rNeI, rInDc, rLenD, rLenT, rDictOf, rMaxL, rIndex, rCatTN, rCatTE, tDNewN, tDNewTN, tDisp1T, rNeM, rRange2, rListRng, rRepN, rPopAt, rSetL, gSub, ipI, tDGet, tDGet2, sDPut, iEnum, iEZ, iZipL, iEnum, tRaise, tTryA, tTry2A, rIsX, rIsXT, rIsXP, rUpper, rPop, rExtendT, iZip, rInD, rIxD, rLen, rAll, rAny, rSum, rListOf, rEqS, rNeS, rSlTN, rStrB, tTupN, tLstN, rSlLN, rCatN, cxK, cxP, cxW, tSeq, tIfS, tTest, tB, tOp, tUn, tC, tAnd, tOr, tNot, tAndV, tOrV, tNotV, tIf, tNext, tBreak, tCont, tDrop, tRet, tRetN, gName, gNil, gCons, gTup, tAsg, tPar, tAug, rI, rI0, rU, rEq, rNe, tChain, tNil, tCons, tTup, tLst, tCall, tCB, tNoPart, tPart, tSl, rSlT, rSlL, rSlS, rIxL, rIxT, rIxS, rIn, tBM0, tBM, tyV, rAppend, rExtend, rCat, rZfill, rEqD, iList, iTup, iStr, iRng1, iRng2, tYes, tDisp, tPairs, rd_v0, rd_vS, rd_comp, rd_for, rd_ite_t, rd_ite_f, List.set_cons_zero, List.set_cons_succ, List.nil_append, List.cons_append, List.append_nil, V.int.injEq, V.str.injEq, V.bl.injEq, V.ref.injEq, V.ty.injEq, List.cons.injEq, and_true, true_and, exists_eq_left, exists_eq_left', exists_and_left, exists_eq, exists_const, if_true, if_false, ite_true, ite_false, rd_ss, rd_si, rd_is, rd_ii, rd_bb, Option.some.injEq, exists_eq_right, exists_eq_right', and_assoc, reduceCtorEq, false_and, and_false, false_or, or_false, exists_false]
      refine ⟨⟨by decide, by decide⟩, by decide, ite2 (fun _ => ?_) fun _ => ⟨x2, t2, tv2, m2, rfl⟩⟩
      rcases nil_or_snoc ts with rfl | ⟨ts0, t', rfl⟩
      · simp at h0
      obtain ⟨xs0, x', rfl, pr0, tx⟩ := paired_snoc pr
      exact ⟨_, .of ep, _, atI_last xs0 x', x', t', tx, by simp, rfl⟩
    · rintro σ H'' ⟨rfl, x2, t2, tv2, m2, rfl⟩
      have d1 := Tr.depth_le t1
      have d2 := Tr.depth_le t2
      have s1 := (hg t1 m1).2
      have s2 := (hg t2 m2).2
      simp only [exists_eq', rEqI, rNeI, rInDc, rLenD, rLenT, rDictOf, rMaxL, rIndex, rCatTN, rCatTE, tDNewN, tDNewTN, tDisp1T, rNeM, rRange2, rListRng, rRepN, rPopAt, rSetL, gSub, ipI, tDGet, tDGet2, sDPut, iEnum, iEZ, iZipL, iEnum, tRaise, tTryA, tTry2A, rIsX, rIsXT, rIsXP, rUpper, rPop, rExtendT, iZip, rInD, rIxD, rLen, rAll, rAny, rSum, rListOf, rEqS, rNeS, rSlTN, rStrB, tTupN, tLstN, rSlLN, rCatN, cxK, cxP, cxW, tSeq, tIfS, tTest, tB, tOp, tUn, tC, tAnd, tOr, tNot, tAndV, tOrV, tNotV, tIf, tNext, tBreak, tCont, tDrop, tRet, tRetN, gName, gNil, gCons, gTup, tAsg, tPar, tAug, rI, rI0, rU, rEq, rNe, tChain, tNil, tCons, tTup, tLst, tCall, tCB, tNoPart, tPart, tSl, rSlT, rSlL, rSlS, rIxL, rIxT, rIxS, rIn, tBM0, tBM, tyV, rAppend, rExtend, rCat, rZfill, rEqD, iList, iTup, iStr, iRng1, iRng2, tYes, tDisp, tPairs, rd_v0, rd_vS, rd_comp, rd_for, rd_ite_t, rd_ite_f, List.set_cons_zero, List.set_cons_succ, List.nil_append, List.cons_append, List.append_nil, V.int.injEq, V.str.injEq, V.bl.injEq, V.ref.injEq, V.ty.injEq, List.cons.injEq, and_true, true_and, exists_eq_left, exists_eq_left', exists_and_left, exists_eq, exists_const, if_true, if_false, ite_true, ite_false, rd_ss, rd_si, rd_is, rd_ii, rd_bb, Option.some.injEq, exists_eq_right, exists_eq_right', and_assoc, reduceCtorEq, false_and, and_false, false_or, or_false, exists_false]
      refine ⟨x1, t1, rfl, tv1, by omega, x2, t2, rfl, tv2, by omega, _, rfl, _, rfl, ite2 (fun c' => ?_) fun _ => ⟨g, xs, ep, ts, pr, h0, by omega, hg⟩⟩
      have c'' := of_decide_eq_true c'
      refine ⟨.inl ⟨_, .of ep⟩, small_line (by simp), fun pt H5 n5 => ⟨_, n5.g _ _ ep, small1000 (by omega), ?_⟩⟩
      have tsA : TupS H' (upd H5 p (.lst (xs ++ [.ref pt]))) := n5.g.tups.trans (TupS.wr (n5.g _ _ ep) _)
      have q0 := Int.emod_nonneg mx (show (L : Int) ≠ 0 by omega)
      have q1 := Int.emod_lt_of_pos mx (show (0 : Int) < (L : Int) by omega)
      generalize mx % (L : Int) = r at n5 q0 q1
      obtain ⟨rn, rfl⟩ : ∃ rn : Nat, r = (rn : Int) := ⟨r.toNat, by omega⟩
      refine ⟨(g.trans n5.g).wr n1.nil _, xs ++ [.ref pt], upd_same, ts ++ [.node rn t1 t2], SM.Paired.snoc (L2.Paired.mapP pr fun _ _ z => TreeV.ts tsA z) (show TreeV _ (.ref pt) (.node rn t1 t2) from ⟨pt, x1, x2, rfl, TupS.wr (n5.g _ _ ep) _ _ _ n5.at', TreeV.ts tsA tv1, TreeV.ts tsA tv2⟩), by simp, by rw [List.length_append, List.length_singleton]; omega, fun t ht => ?_⟩
      rcases List.mem_append.mp ht with h | h
      · exact hg t h
      · rw [List.mem_singleton.mp h]
        exact ⟨⟨by omega, (hg t1 m1).1, (hg t2 m2).1⟩, by show 1 + t1.size + t2.size ≤ mo; omega⟩
  · rintro σ H' ⟨g, ⟨v4, v5, v6, v7, v8, rfl⟩, xs, ts, ep, pr, h0, hl, hg⟩
    rw [List.length_map] at hl
    simp only [exists_eq', rEqI, rNeI, rInDc, rLenD, rLenT, rDictOf, rMaxL, rIndex, rCatTN, rCatTE, tDNewN, tDNewTN, tDisp1T, rNeM, rRange2, rListRng, rRepN, rPopAt, rSetL, gSub, ipI, tDGet, tDGet2, sDPut, iEnum, iEZ, iZipL, iEnum, tRaise, tTryA, tTry2A, rIsX, rIsXT, rIsXP, rUpper, rPop, rExtendT, iZip, rInD, rIxD, rLen, rAll, rAny, rSum, rListOf, rEqS, rNeS, rSlTN, rStrB, tTupN, tLstN, rSlLN, rCatN, cxK, cxP, cxW, tSeq, tIfS, tTest, tB, tOp, tUn, tC, tAnd, tOr, tNot, tAndV, tOrV, tNotV, tIf, tNext, tBreak, tCont, tDrop, tRet, tRetN, gName, gNil, gCons, gTup, tAsg, tPar, tAug, rI, rI0, rU, rEq, rNe, tChain, tNil, tCons, tTup, tLst, tCall, tCB, tNoPart, tPart, tSl, rSlT, rSlL, rSlS, rIxL, rIxT, rIxS, rIn, tBM0, tBM, tyV, rAppend, rExtend, rCat, rZfill, rEqD, iList, iTup, iStr, iRng1, iRng2, tYes, tDisp, tPairs, rd_v0, rd_vS, rd_comp, rd_for, rd_ite_t, rd_ite_f, List.set_cons_zero, List.set_cons_succ, List.nil_append, List.cons_append, List.append_nil, V.int.injEq, V.str.injEq, V.bl.injEq, V.ref.injEq, V.ty.injEq, List.cons.injEq, and_true, true_and, exists_eq_left, exists_eq_left', exists_and_left, exists_eq, exists_const, if_true, if_false, ite_true, ite_false, rd_ss, rd_si, rd_is, rd_ii, rd_bb, Option.some.injEq, exists_eq_right, exists_eq_right', and_assoc, reduceCtorEq, false_and, and_false, false_or, or_false, exists_false]
    exact q p xs ts H' n1.nil g ep pr (by omega) hg
abbrev s_law_letters : Stmt := top 33
theorem sc_law_letters : FnScope ["_law_tree"] ["_law_tree"] (defScope s_law_letters) := ⟨rfl, rfl, rfl, by decide +kernel, rfl, by decide +kernel, by decide +kernel⟩
theorem ok_lettersL (T : Txt K mg cNoTree cSayError cs) (d : Dfn K mg "_law_letters" s_law_letters ["_law_tree"]) : ∀ dd, Cal P w K mg base (1 + dd) "_law_letters" ["_law_tree"] (sp_lettersL dd)
  | 0 => (d.never fun vs H Q E ⟨v, t, _, _, h, _⟩ => absurd h (Nat.not_lt_zero _)).mono (by omega)
  | dd + 1 => by
    have C_law_letters := ok_lettersL T d dd
    refine d.cal sc_law_letters (fun vs H Q E h => ?_) (fun f cdv A outer s H vs Q E hr h => ?_)
    · obtain ⟨v, t, rfl, _⟩ := h
      rfl
    obtain ⟨v, t, rfl, tv, hd, hz, q⟩ := h
    change Room (1 + dd) _ at hr
    refine ⟨_, (pss_cons (ps_if (pt_cmpR op_isN (pv 0) pe_non (nomark _)) (pss_one (ps_ret (pe_lstN pa_nil))) pss_nil) (pss_one (ps_ret (pe_op op_catN (pe_op op_catN (pe_lstN (pa_c (pe_ix (ix_tupK K) (pv 0) pe_int (fun _ _ => rfl)) pa_nil)) (pe_callC C_law_letters hr (by omega) (by rfl) (pa_c (pe_ix (ix_tupK K) (pv 0) pe_int (fun _ _ => rfl)) pa_nil))) (pe_callC C_law_letters hr (by omega) (by rfl) (pa_c (pe_ix (ix_tupK K) (pv 0) pe_int (fun _ _ => rfl)) pa_nil)))))), ?_⟩
    refine rd_st [some v] rfl ?_
    simp only [exists_eq', rEqI, rNeI, rInDc, rLenD, rLenT, rDictOf, rMaxL, rIndex, rCatTN, rCatTE, tDNewN, tDNewTN, tDisp1T, rNeM, rRange2, rListRng, rRepN, rPopAt, rSetL, gSub, ipI, tDGet, tDGet2, sDPut, iEnum, iEZ, iZipL, iEnum, tRaise, tTryA, tTry2A, rIsX, rIsXT, rIsXP, rUpper, rPop, rExtendT, iZip, rInD, rIxD, rLen, rAll, rAny, rSum, rListOf, rEqS, rNeS, rSlTN, rStrB, tTupN, tLstN, rSlLN, rCatN, cxK, cxP, cxW, tSeq, tIfS, tTest, tB, tOp, tUn, tC, tAnd, tOr, tNot, tAndV, tOrV, tNotV, tIf, tNext, tBreak, tCont, tDrop, tRet, tRetN, gName, gNil, gCons, gTup, tAsg, tPar, tAug, rI, rI0, rU, rEq, rNe, tChain, tNil, tCons, tTup, tLst, tCall, tCB, tNoPart, tPart, tSl, rSlT, rSlL, rSlS, rIxL, rIxT, rIxS, rIn, tBM0, tBM, tyV, rAppend, rExtend, rCat, rZfill, rEqD, iList, iTup, iStr, iRng1, iRng2, tYes, tDisp, tPairs, rd_v0, rd_vS, rd_comp, rd_for, rd_ite_t, rd_ite_f, List.set_cons_zero, List.set_cons_succ, List.nil_append, List.cons_append, List.append_nil, V.int.injEq, V.str.injEq, V.bl.injEq, V.ref.injEq, V.ty.injEq, List.cons.injEq, and_true, true_and, exists_eq_left, exists_eq_left', exists_and_left, exists_eq, exists_const, if_true, if_false, ite_true, ite_false, rd_ss, rd_si, rd_is, rd_ii, rd_bb, Option.some.injEq, exists_eq_right, exists_eq_right', and_assoc, reduceCtorEq, false_and, and_false, false_or, or_false, exists_false]
    cases t with
    | nil =>
      obtain rfl : v = .non := tv
      rw [decide_eq_true rfl]
      exact iteT ⟨by decide, fun D H1 n1 => q D H1 n1.nil n1.g n1.at'⟩
    | node l x y =>
      obtain ⟨p, va, vb, rfl, ep, ta, tb⟩ := tv
      have hx : x.depth < dd := by have : 1 + max x.depth y.depth < dd + 1 := hd; omega
      have hy : y.depth < dd := by have : 1 + max x.depth y.depth < dd + 1 := hd; omega
      have hsz : 1 + x.size + y.size ≤ 100 := hz
      rw [decide_eq_false (fun h => nomatch h)]
      refine iteF ⟨p, rfl, _, .of ep, _, atI_0, small_line (by simp), fun q1 H1 n1 => ⟨p, rfl, _, .of (n1.g _ _ ep), _, atI_nat (j := 1) rfl, va, x, rfl, ta.same n1.g, hx, by omega, fun D1 H2 hD1 g2 e2 => ⟨D1, rfl, _, g2 _ _ n1.at', _, e2, small_line (by simp [Tr.lets2_len]; omega), fun q2 H3 n3 => ?_⟩⟩⟩
      have g03 := n1.g.trans (g2.trans n3.g)
      refine ⟨p, rfl, _, .of (g03 _ _ ep), _, atI_nat (j := 2) rfl, vb, y, rfl, tb.same g03, hy, by omega, fun D2 H4 hD2 g4 e4 => ⟨D2, rfl, _, g4 _ _ n3.at', _, e4, small_line (by simp [Tr.lets2_len]; omega), fun q3 H5 n5 => ?_⟩⟩
      refine q q3 H5 ((g03.trans g4).free n5.nil) (g03.trans (g4.trans n5.g)) ?_
      rw [n5.at']
      show some (HO.lst _) = some (HO.lst ((l :: (x.lets2 ++ y.lets2)).map nV))
      simp
end
end K41

set_option Elab.async false
set_option linter.all false
set_option maxRecDepth 100000
set_option maxHeartbeats 4000000
namespace K41
open PySem PySem.Spec PyProof.Rows L2 SS SM
seal PE PT PW PA PS PSs
section
variable {P : Program} {w : World} {K : PySem.W.Frag} {mg : Str → Option Value} {base : Heap} {cNoTree cSayError : Addr} {cs : List Addr}
abbrev s_law_marks : Stmt := top 35
theorem sc_law_marks : FnScope ["_law_e", "_law_kinds"] ["_law_e"] (defScope s_law_marks) := ⟨rfl, rfl, rfl, by decide +kernel, rfl, by decide +kernel, by decide +kernel⟩
theorem ok_marksT (T : Txt K mg cNoTree cSayError cs) (d : Dfn K mg "_law_marks" s_law_marks ["_law_e"]) : CalH P w K mg base 1 "_law_marks" ["_law_e"] (sp_marksT cNoTree) := by
  refine d.calH sc_law_marks (fun vs H Q E h => ?_) (fun f cdv A outer s H vs Q E hr h => ?_)
  · obtain ⟨a, rfl, _⟩ := h
    rfl
  obtain ⟨a, rfl, ea, q⟩ := h
  refine ⟨_, (pss_cons (ps_set (i := 1) sc_law_marks.nd rfl (Or.inl rfl) (pe_lstN (pa_c (pe_cB (call_isxTK K) (by rfl) T.b_isinstance boot_isinstance (pa_c (pv 0) (pa_c (pe_bltn (v := .ty "ValueError") (by rfl) T.b_ValueError (by rfl) (by rfl)) pa_nil))) (pa_c (pe_cB (call_isxK K) (by rfl) T.b_isinstance boot_isinstance (pa_c (pv 0) (pa_c (pe_gl (v := V.ref _) (by rfl) ⟨_, T.m_NoTree, rfl⟩) pa_nil))) (pa_c (pe_cB (call_isxK K) (by rfl) T.b_isinstance boot_isinstance (pa_c (pv 0) (pa_c (pe_gl (v := V.ref _) (by rfl) ⟨_, T.m_NoFrame, rfl⟩) pa_nil))) (pa_c (pe_cB (call_isxK K) (by rfl) T.b_isinstance boot_isinstance (pa_c (pv 0) (pa_c (pe_gl (v := V.ref _) (by rfl) ⟨_, T.m_NoSaying, rfl⟩) pa_nil))) pa_nil)))))) (pss_cons (ps_set (i := 1) sc_law_marks.nd rfl (Or.inl rfl) (pe_op op_catN (pv 1) (pe_lstN (pa_c (pe_cB (call_isxK K) (by rfl) T.b_isinstance boot_isinstance (pa_c (pv 0) (pa_c (pe_gl (v := V.ref _) (by rfl) ⟨_, T.m_NoText, rfl⟩) pa_nil))) (pa_c (pe_cB (call_isxK K) (by rfl) T.b_isinstance boot_isinstance (pa_c (pv 0) (pa_c (pe_gl (v := V.ref _) (by rfl) ⟨_, T.m_NoRow, rfl⟩) pa_nil))) (pa_c (pe_cB (call_isxK K) (by rfl) T.b_isinstance boot_isinstance (pa_c (pv 0) (pa_c (pe_gl (v := V.ref _) (by rfl) ⟨_, T.m_NoWidth, rfl⟩) pa_nil))) pa_nil)))))) (pss_one (ps_ret (pe_op op_catN (pv 1) (pe_lstN (pa_c (pe_cB (call_isxK K) (by rfl) T.b_isinstance boot_isinstance (pa_c (pv 0) (pa_c (pe_gl (v := V.ref _) (by rfl) ⟨_, T.m_NoNumber, rfl⟩) pa_nil))) (pa_c (pe_cB (call_isxK K) (by rfl) T.b_isinstance boot_isinstance (pa_c (pv 0) (pa_c (pe_gl (v := V.ref _) (by rfl) ⟨_, T.m_TooGreat, rfl⟩) pa_nil))) (pa_c (pe_cB (call_isxK K) (by rfl) T.b_isinstance boot_isinstance (pa_c (pv 0) (pa_c (pe_gl (v := V.ref _) (by rfl) ⟨_, T.m_NoLine, rfl⟩) pa_nil))) pa_nil))))))))), ?_⟩
  refine rd_st [some (.ref a), none] rfl ?_
  simp only [exists_eq', rEqI, rNeI, rInDc, rLenD, rLenT, rDictOf, rMaxL, rIndex, rCatTN, rCatTE, tDNewN, tDNewTN, tDisp1T, rNeM, rRange2, rListRng, rRepN, rPopAt, rSetL, gSub, ipI, tDGet, tDGet2, sDPut, iEnum, iEZ, iZipL, iEnum, tRaise, tTryA, tTry2A, rIsX, rIsXT, rIsXP, rUpper, rPop, rExtendT, iZip, rInD, rIxD, rLen, rAll, rAny, rSum, rListOf, rEqS, rNeS, rSlTN, rStrB, tTupN, tLstN, rSlLN, rCatN, cxK, cxP, cxW, tSeq, tIfS, tTest, tB, tOp, tUn, tC, tAnd, tOr, tNot, tAndV, tOrV, tNotV, tIf, tNext, tBreak, tCont, tDrop, tRet, tRetN, gName, gNil, gCons, gTup, tAsg, tPar, tAug, rI, rI0, rU, rEq, rNe, tChain, tNil, tCons, tTup, tLst, tCall, tCB, tNoPart, tPart, tSl, rSlT, rSlL, rSlS, rIxL, rIxT, rIxS, rIn, tBM0, tBM, tyV, rAppend, rExtend, rCat, rZfill, rEqD, iList, iTup, iStr, iRng1, iRng2, tYes, tDisp, tPairs, rd_v0, rd_vS, rd_comp, rd_for, rd_ite_t, rd_ite_f, List.set_cons_zero, List.set_cons_succ, List.nil_append, List.cons_append, List.append_nil, V.int.injEq, V.str.injEq, V.bl.injEq, V.ref.injEq, V.ty.injEq, List.cons.injEq, and_true, true_and, exists_eq_left, exists_eq_left', exists_and_left, exists_eq, exists_const, if_true, if_false, ite_true, ite_false, rd_ss, rd_si, rd_is, rd_ii, rd_bb, Option.some.injEq, exists_eq_right, exists_eq_right', and_assoc, reduceCtorEq, false_and, and_false, false_or, or_false, exists_false]
  refine ⟨_, ea, T.kx, _, T.iV, _, ea, T.kx, _, T.i1, _, ea, T.kx, _, T.iN 0 (by decide), _, ea, T.kx, _, T.iN 1 (by decide), small_line (by simp), fun p1 H1 n1 => ⟨_, n1.g _ _ ea, T.kx, _, T.iN 2 (by decide), _, n1.g _ _ ea, T.kx, _, T.iN 3 (by decide), _, n1.g _ _ ea, T.kx, _, T.iN 4 (by decide), small_line (by simp), fun p2 H2 n2 => ⟨_, n2.g _ _ n1.at', _, n2.at', small_line (by simp), fun p3 H3 n3 => ?_⟩⟩⟩
  have g3 : Same H H3 := n1.g.trans (n2.g.trans n3.g)
  refine ⟨_, g3 _ _ ea, T.kx, _, T.iN 5 (by decide), _, g3 _ _ ea, T.kx, _, T.iN 6 (by decide), _, g3 _ _ ea, T.kx, _, T.iN 7 (by decide), small_line (by simp), fun p4 H4 n4 => ⟨_, n4.g _ _ n3.at', _, n4.at', small_line (by simp), fun p5 H5 n5 => ?_⟩⟩
  exact q p5 H5 ((g3.trans n4.g).free n5.nil) (g3.trans (n4.g.trans n5.g)) n5.at'
end
end K41

set_option Elab.async false
set_option linter.all false
set_option maxRecDepth 100000
set_option maxHeartbeats 4000000
namespace K41
open PySem PySem.Spec PyProof.Rows L2 SS SM
seal PE PT PW PA PS PSs
section
variable {P : Program} {w : World} {K : PySem.W.Frag} {mg : Str → Option Value} {base : Heap} {cNoTree cSayError : Addr} {cs : List Addr}
abbrev s_law_due : Stmt := top 34
theorem sc_law_due : FnScope ["_law_frame_here", "_law_tree", "_law_letters_here", "_law_track"] ["_law_frame_here", "_law_tree"] (defScope s_law_due) := ⟨rfl, rfl, rfl, by decide +kernel, rfl, by decide +kernel, by decide +kernel⟩
theorem ok_dueT (T : Txt K mg cNoTree cSayError cs) (d : Dfn K mg "_law_due" s_law_due ["_law_frame_here", "_law_tree"]) (C_law_letters : Cal P w K mg base 62 "_law_letters" ["_law_tree"] (sp_lettersL 61)) : Cal P w K mg base 63 "_law_due" ["_law_frame_here", "_law_tree"] (sp_dueT K) := by
  refine d.cal sc_law_due (fun vs H Q E h => ?_) (fun f cdv A outer s H vs Q E hr h => ?_)
  · obtain ⟨f, v, names, t, rfl, _⟩ := h
    rfl
  obtain ⟨fa, v, names, t, rfl, hf, fo, tv, hd, hz, hlt, q⟩ := h
  have h4 := fo.1
  have hps := pow_small h4
  refine ⟨_, (pss_cons (ps_set (i := 2) sc_law_due.nd rfl (Or.inl rfl) (pe_callC C_law_letters hr (by omega) (by rfl) (pa_c (pv 1) pa_nil))) (pss_cons (ps_for PassesOwn.never rfl (pi_range1 (by rfl) T.b_range (pa_c (pe_cB (call_len_seqK K) (by rfl) T.b_len boot_len (pa_c (pv 0) pa_nil)) pa_nil)) (pg_name (i := 3) sc_law_due.nd (by rfl) (Or.inr (by rfl))) (pss_one (ps_if (pt_chain op_le_str op_le_str pe_str (pe_ix ix_str (pe_ix (ix_listK K) (pv 0) (pv 3) (fun _ _ => rfl)) pe_int (fun _ _ => rfl)) pe_str) (pss_one (ps_if (pt_cmpR op_ne (pe_cB (call_sum_intK K rfl) (by rfl) T.b_sum boot_sum (pa_c (pe_lcomp ["_law_letter"] [(3, "_law_track")] (CompOk.of rfl (by rfl) (by rfl)) (by rfl) (pi_listK K (pv 2)) (fun _ _ _ _ _ => (pg_name (i := 0) (show List.Nodup (["_law_letter", "_law_track"] : List Str) by decide +kernel) (by rfl) (Or.inl (by rfl)))) (fun _ _ _ _ _ => pf_nil) (fun _ _ _ _ _ => (pe_op op_and (pe_op op_shr (pv 0) (pv 1)) pe_int))) pa_nil)) pe_int (nomark _)) (pss_one (ps_ret pe_bl)) pss_nil)) pss_nil))) (pss_one (ps_ret pe_bl)))), ?_⟩
  refine rd_st [some (.ref fa), some v, none, none] rfl ?_
  simp only [exists_eq', rEqI, rNeI, rInDc, rLenD, rLenT, rDictOf, rMaxL, rIndex, rCatTN, rCatTE, tDNewN, tDNewTN, tDisp1T, rNeM, rRange2, rListRng, rRepN, rPopAt, rSetL, gSub, ipI, tDGet, tDGet2, sDPut, iEnum, iEZ, iZipL, iEnum, tRaise, tTryA, tTry2A, rIsX, rIsXT, rIsXP, rUpper, rPop, rExtendT, iZip, rInD, rIxD, rLen, rAll, rAny, rSum, rListOf, rEqS, rNeS, rSlTN, rStrB, tTupN, tLstN, rSlLN, rCatN, cxK, cxP, cxW, tSeq, tIfS, tTest, tB, tOp, tUn, tC, tAnd, tOr, tNot, tAndV, tOrV, tNotV, tIf, tNext, tBreak, tCont, tDrop, tRet, tRetN, gName, gNil, gCons, gTup, tAsg, tPar, tAug, rI, rI0, rU, rEq, rNe, tChain, tNil, tCons, tTup, tLst, tCall, tCB, tNoPart, tPart, tSl, rSlT, rSlL, rSlS, rIxL, rIxT, rIxS, rIn, tBM0, tBM, tyV, rAppend, rExtend, rCat, rZfill, rEqD, iList, iTup, iStr, iRng1, iRng2, tYes, tDisp, tPairs, rd_v0, rd_vS, rd_comp, rd_for, rd_ite_t, rd_ite_f, List.set_cons_zero, List.set_cons_succ, List.nil_append, List.cons_append, List.append_nil, V.int.injEq, V.str.injEq, V.bl.injEq, V.ref.injEq, V.ty.injEq, List.cons.injEq, and_true, true_and, exists_eq_left, exists_eq_left', exists_and_left, exists_eq, exists_const, if_true, if_false, ite_true, ite_false, rd_ss, rd_si, rd_is, rd_ii, rd_bb, Option.some.injEq, exists_eq_right, exists_eq_right', and_assoc, reduceCtorEq, false_and, and_false, false_or, or_false, exists_false]
  refine ⟨v, t, rfl, tv, by omega, hz, fun D H1 hD g1 eD => ⟨_, .inl (g1.seq hf), ?_⟩⟩
  rw [List.length_map]
  refine ⟨by omega, by omega, ?_⟩
  rw [show ((names.length : Nat) : Int).toNat = names.length from rfl]
  refine fb_range (fun i σ H' => Same H1 H' ∧ (∃ v3, σ = [some (.ref fa), some v, some (.ref D), v3]) ∧ ∀ j, j < i → (!isP (names.getD j (Str.ofString "")) || cw t.lets2 j == 1) = true) ⟨Same.refl _, ⟨_, rfl⟩, fun j h => absurd h (by omega)⟩ ?_ ?_
  · rintro i σ H' hi ⟨g, ⟨v3, rfl⟩, hall⟩
    have ez := List.getElem?_eq_getElem hi
    have hz' : names.getD i (Str.ofString "") = names[i] := by rw [List.getD_eq_getElem?_getD, ez]; rfl
    have hno := fo.2 _ (List.getElem_mem hi)
    obtain ⟨dd, ds, e1, hP, hNP⟩ := nm_first hno
    simp only [exists_eq', rEqI, rNeI, rInDc, rLenD, rLenT, rDictOf, rMaxL, rIndex, rCatTN, rCatTE, tDNewN, tDNewTN, tDisp1T, rNeM, rRange2, rListRng, rRepN, rPopAt, rSetL, gSub, ipI, tDGet, tDGet2, sDPut, iEnum, iEZ, iZipL, iEnum, tRaise, tTryA, tTry2A, rIsX, rIsXT, rIsXP, rUpper, rPop, rExtendT, iZip, rInD, rIxD, rLen, rAll, rAny, rSum, rListOf, rEqS, rNeS, rSlTN, rStrB, tTupN, tLstN, rSlLN, rCatN, cxK, cxP, cxW, tSeq, tIfS, tTest, tB, tOp, tUn, tC, tAnd, tOr, tNot, tAndV, tOrV, tNotV, tIf, tNext, tBreak, tCont, tDrop, tRet, tRetN, gName, gNil, gCons, gTup, tAsg, tPar, tAug, rI, rI0, rU, rEq, rNe, tChain, tNil, tCons, tTup, tLst, tCall, tCB, tNoPart, tPart, tSl, rSlT, rSlL, rSlS, rIxL, rIxT, rIxS, rIn, tBM0, tBM, tyV, rAppend, rExtend, rCat, rZfill, rEqD, iList, iTup, iStr, iRng1, iRng2, tYes, tDisp, tPairs, rd_v0, rd_vS, rd_comp, rd_for, rd_ite_t, rd_ite_f, List.set_cons_zero, List.set_cons_succ, List.nil_append, List.cons_append, List.append_nil, V.int.injEq, V.str.injEq, V.bl.injEq, V.ref.injEq, V.ty.injEq, List.cons.injEq, and_true, true_and, exists_eq_left, exists_eq_left', exists_and_left, exists_eq, exists_const, if_true, if_false, ite_true, ite_false, rd_ss, rd_si, rd_is, rd_ii, rd_bb, Option.some.injEq, exists_eq_right, exists_eq_right', and_assoc, reduceCtorEq, false_and, and_false, false_or, or_false, exists_false]
    have e0 : atI (names[i]).cps.toList 0 = some dd := by rw [e1]; exact atI_0
    refine ⟨_, (g1.trans g).seq hf, _, by rw [Int.zero_add]; exact atI_nat (by rw [List.getElem?_map, ez]; rfl), _, rfl, Nat.le_of_lt (small1000 (nmok_len hno)), dd, e0, ?_⟩
    cases hPc : isP names[i] with
    | false =>
      rw [hNP hPc]
      refine iteF ⟨g, fun j hj => ?_⟩
      by_cases hji : j < i
      · exact hall j hji
      · have : j = i := by omega
        subst this
        rw [hz', hPc]; rfl
    | true =>
      obtain ⟨h1, h2⟩ := hP hPc
      rw [h1, h2]
      have h32 : ∀ l ∈ t.lets2, l < 32 := fun l ml => by
        have := Tr.lets2_let t hlt l ml
        omega
      have hl2 := Tr.lets2_len t
      refine iteT (iteT ⟨⟨_, .of (g _ _ eD)⟩, cm_list (K := K) (a := D) (xs := t.lets2.map nV) (fun σ => ∃ v, σ = [v, some (.int (0 + (i : Int)))]) (fun v => match v with | .int x => .int (Builtin.bitAnd (x / 2 ^ i) 1) | _ => .non) (by rw [List.length_map]; omega) (.of (g _ _ eD)) ⟨_, rfl⟩ ?_ ?_⟩)
      · rintro D3 i' σ H3 x hi' hm hx gg hD3 hD3' ⟨v, rfl⟩
        obtain ⟨z, mz, rfl⟩ := List.mem_map.mp hm
        simp only [exists_eq', rEqI, rNeI, rInDc, rLenD, rLenT, rDictOf, rMaxL, rIndex, rCatTN, rCatTE, tDNewN, tDNewTN, tDisp1T, rNeM, rRange2, rListRng, rRepN, rPopAt, rSetL, gSub, ipI, tDGet, tDGet2, sDPut, iEnum, iEZ, iZipL, iEnum, tRaise, tTryA, tTry2A, rIsX, rIsXT, rIsXP, rUpper, rPop, rExtendT, iZip, rInD, rIxD, rLen, rAll, rAny, rSum, rListOf, rEqS, rNeS, rSlTN, rStrB, tTupN, tLstN, rSlLN, rCatN, cxK, cxP, cxW, tSeq, tIfS, tTest, tB, tOp, tUn, tC, tAnd, tOr, tNot, tAndV, tOrV, tNotV, tIf, tNext, tBreak, tCont, tDrop, tRet, tRetN, gName, gNil, gCons, gTup, tAsg, tPar, tAug, rI, rI0, rU, rEq, rNe, tChain, tNil, tCons, tTup, tLst, tCall, tCB, tNoPart, tPart, tSl, rSlT, rSlL, rSlS, rIxL, rIxT, rIxS, rIn, tBM0, tBM, tyV, rAppend, rExtend, rCat, rZfill, rEqD, iList, iTup, iStr, iRng1, iRng2, tYes, tDisp, tPairs, rd_v0, rd_vS, rd_comp, rd_for, rd_ite_t, rd_ite_f, List.set_cons_zero, List.set_cons_succ, List.nil_append, List.cons_append, List.append_nil, V.int.injEq, V.str.injEq, V.bl.injEq, V.ref.injEq, V.ty.injEq, List.cons.injEq, and_true, true_and, exists_eq_left, exists_eq_left', exists_and_left, exists_eq, exists_const, if_true, if_false, ite_true, ite_false, rd_ss, rd_si, rd_is, rd_ii, rd_bb, Option.some.injEq, exists_eq_right, exists_eq_right', and_assoc, reduceCtorEq, false_and, and_false, false_or, or_false, exists_false]
        exact ⟨by omega, cm_step (by rw [List.length_map]; omega) hx hD3 hD3' gg ⟨_, rfl⟩ (by rw [Int.zero_add, Int.toNat_natCast])⟩
      intro D3 H3 hD3 g3 eD3
      have eD3' : H3 D3 = some (.lst ((t.lets2.map fun (l : Nat) => Builtin.bitAnd ((l : Int) / 2 ^ i) 1).map V.int)) := by rw [eD3, List.map_map, List.map_map]; rfl
      refine ⟨D3, rfl, _, .of eD3', ?_⟩
      rw [cw_sum i (by omega) t.lets2 h32]
      by_cases hc : cw t.lets2 i = 1
      · rw [show (!decide (((cw t.lets2 i : Nat) : Int) = 1)) = false by rw [hc]; rfl]
        refine iteF ⟨g.trans g3, fun j hj => ?_⟩
        by_cases hji : j < i
        · exact hall j hji
        · have : j = i := by omega
          subst this
          rw [hz', hPc, hc]; rfl
      · rw [show (!decide (((cw t.lets2 i : Nat) : Int) = 1)) = true by rw [decide_eq_false (by omega)]; rfl]
        have e : fitB names t.lets2 = false := by
          rw [fitB, List.all_eq_false]
          exact ⟨i, List.mem_range.mpr hi, by rw [hz', hPc]; simpa using hc⟩
        rw [e] at q
        exact iteT (q H3 (g1.trans (g.trans g3)))
  · rintro σ H' ⟨g, ⟨v3, rfl⟩, hall⟩
    simp only [exists_eq', rEqI, rNeI, rInDc, rLenD, rLenT, rDictOf, rMaxL, rIndex, rCatTN, rCatTE, tDNewN, tDNewTN, tDisp1T, rNeM, rRange2, rListRng, rRepN, rPopAt, rSetL, gSub, ipI, tDGet, tDGet2, sDPut, iEnum, iEZ, iZipL, iEnum, tRaise, tTryA, tTry2A, rIsX, rIsXT, rIsXP, rUpper, rPop, rExtendT, iZip, rInD, rIxD, rLen, rAll, rAny, rSum, rListOf, rEqS, rNeS, rSlTN, rStrB, tTupN, tLstN, rSlLN, rCatN, cxK, cxP, cxW, tSeq, tIfS, tTest, tB, tOp, tUn, tC, tAnd, tOr, tNot, tAndV, tOrV, tNotV, tIf, tNext, tBreak, tCont, tDrop, tRet, tRetN, gName, gNil, gCons, gTup, tAsg, tPar, tAug, rI, rI0, rU, rEq, rNe, tChain, tNil, tCons, tTup, tLst, tCall, tCB, tNoPart, tPart, tSl, rSlT, rSlL, rSlS, rIxL, rIxT, rIxS, rIn, tBM0, tBM, tyV, rAppend, rExtend, rCat, rZfill, rEqD, iList, iTup, iStr, iRng1, iRng2, tYes, tDisp, tPairs, rd_v0, rd_vS, rd_comp, rd_for, rd_ite_t, rd_ite_f, List.set_cons_zero, List.set_cons_succ, List.nil_append, List.cons_append, List.append_nil, V.int.injEq, V.str.injEq, V.bl.injEq, V.ref.injEq, V.ty.injEq, List.cons.injEq, and_true, true_and, exists_eq_left, exists_eq_left', exists_and_left, exists_eq, exists_const, if_true, if_false, ite_true, ite_false, rd_ss, rd_si, rd_is, rd_ii, rd_bb, Option.some.injEq, exists_eq_right, exists_eq_right', and_assoc, reduceCtorEq, false_and, and_false, false_or, or_false, exists_false]
    have e : fitB names t.lets2 = true := List.all_eq_true.mpr fun k hk => hall k (List.mem_range.mp hk)
    rw [e] at q
    exact q H' (g1.trans g)
abbrev s_law_no_tree : Stmt := top 36
theorem sc_law_no_tree : FnScope ["_law_frame_here", "_law_tree", "_law_number", "_law_bound", "_law_far", "_law_marks_here", "_law_some", "_law_e"] ["_law_frame_here", "_law_tree", "_law_number"] (defScope s_law_no_tree) := ⟨rfl, rfl, rfl, by decide +kernel, rfl, by decide +kernel, by decide +kernel⟩
theorem ok_notree (T : Txt K mg cNoTree cSayError cs) (d : Dfn K mg "_law_no_tree" s_law_no_tree ["_law_frame_here", "_law_tree", "_law_number"]) (C_tree_fits : CalE P w K mg base 4 "tree_fits" ["frame", "tree"] (sp_treefits cNoTree)) (C_law_marks : CalH P w K mg base 1 "_law_marks" ["_law_e"] (sp_marksT cNoTree)) : Cal P w K mg base 5 "_law_no_tree" ["_law_frame_here", "_law_tree", "_law_number"] sp_notree := by
  refine d.cal sc_law_no_tree (fun vs H Q E h => ?_) (fun f cdv A outer s H vs Q E hr h => ?_)
  · obtain ⟨f, v, names, t, x, rfl, _⟩ := h
    rfl
  obtain ⟨fa, v, names, t, x, rfl, ef, fo, h3, tv, hz, hx, q⟩ := h
  have hu := hu_at hr 8 (by decide)
  refine ⟨_, (pss_cons (ps_set (i := 3) sc_law_no_tree.nd rfl (Or.inl rfl) (pe_ix (ix_listK K) (pe_lstN (pa_c pe_int (pa_c pe_int (pa_c pe_int (pa_c pe_int pa_nil))))) (pe_cB (call_len_seqK K) (by rfl) T.b_len boot_len (pa_c (pv 0) pa_nil)) (fun _ _ => rfl))) (pss_cons (ps_set (i := 4) sc_law_no_tree.nd rfl (Or.inl rfl) (pe_ix (ix_listK K) (pe_lstN (pa_c (pe_un un_neg pe_int) (pa_c (pv 3) (pa_c (pe_op op_add (pv 3) pe_int) (pa_c (pe_op op_sub (pe_un un_neg pe_int) (pe_op op_fdiv (pv 2) pe_int)) (pa_c (pe_op op_add (pv 3) (pe_op op_fdiv (pv 2) pe_int)) pa_nil)))))) (pe_op op_mod (pv 2) pe_int) (fun _ _ => rfl))) (pss_cons (ps_set (i := 5) sc_law_no_tree.nd rfl (Or.inl rfl) (pe_lstN pa_nil)) (pss_cons (ps_try2AC (ps_set (i := 6) sc_law_no_tree.nd rfl (Or.inl rfl) (pe_lstN (pa_c (pe_tupN (pa_c (pv 4) (pa_c (pv 1) (pa_c pe_non pa_nil)))) (pa_c (pe_tupN (pa_c pe_int (pa_c pe_non (pa_c (pe_tupN (pa_c (pv 4) (pa_c (pv 1) (pa_c pe_non pa_nil)))) pa_nil)))) (pa_c (pe_tupN (pa_c pe_int (pa_c (pv 1) (pa_c (pe_tupN (pa_c (pv 4) (pa_c pe_non (pa_c pe_non pa_nil)))) pa_nil)))) pa_nil))))) C_tree_fits hr (by omega) (by rfl) (pa_c (pv 0) (pa_c (pe_ix (ix_listK K) (pv 6) (pe_op op_mod (pe_op op_fdiv (pv 2) pe_int) pe_int) (fun _ _ => rfl)) pa_nil)) (by rfl) T.m_SayError T.k_SayError rfl rfl rfl sc_law_no_tree.nd (j := 7) rfl rfl fun _ => (pss_one (ps_set (i := 5) sc_law_no_tree.nd rfl (Or.inl rfl) (pe_callHC C_law_marks (hr.toH _) (by omega) (by rfl) (pa_c (pv 7) pa_nil))))) (pss_one (ps_ret (pe_cmpR (op_eqD hu) (pv 5) (pe_op op_catN (pe_lstN (pa_c pe_bl (pa_c pe_bl pa_nil))) (pe_op op_repN (pe_lstN (pa_c pe_bl pa_nil)) pe_int)) (nomark _)))))))), ?_⟩
  refine rd_st [some (.ref fa), some v, some (.int x), none, none, none, none, none] rfl ?_
  simp only [exists_eq', rEqI, rNeI, rInDc, rLenD, rLenT, rDictOf, rMaxL, rIndex, rCatTN, rCatTE, tDNewN, tDNewTN, tDisp1T, rNeM, rRange2, rListRng, rRepN, rPopAt, rSetL, gSub, ipI, tDGet, tDGet2, sDPut, iEnum, iEZ, iZipL, iEnum, tRaise, tTryA, tTry2A, rIsX, rIsXT, rIsXP, rUpper, rPop, rExtendT, iZip, rInD, rIxD, rLen, rAll, rAny, rSum, rListOf, rEqS, rNeS, rSlTN, rStrB, tTupN, tLstN, rSlLN, rCatN, cxK, cxP, cxW, tSeq, tIfS, tTest, tB, tOp, tUn, tC, tAnd, tOr, tNot, tAndV, tOrV, tNotV, tIf, tNext, tBreak, tCont, tDrop, tRet, tRetN, gName, gNil, gCons, gTup, tAsg, tPar, tAug, rI, rI0, rU, rEq, rNe, tChain, tNil, tCons, tTup, tLst, tCall, tCB, tNoPart, tPart, tSl, rSlT, rSlL, rSlS, rIxL, rIxT, rIxS, rIn, tBM0, tBM, tyV, rAppend, rExtend, rCat, rZfill, rEqD, iList, iTup, iStr, iRng1, iRng2, tYes, tDisp, tPairs, rd_v0, rd_vS, rd_comp, rd_for, rd_ite_t, rd_ite_f, List.set_cons_zero, List.set_cons_succ, List.nil_append, List.cons_append, List.append_nil, V.int.injEq, V.str.injEq, V.bl.injEq, V.ref.injEq, V.ty.injEq, List.cons.injEq, and_true, true_and, exists_eq_left, exists_eq_left', exists_and_left, exists_eq, exists_const, if_true, if_false, ite_true, ite_false, rd_ss, rd_si, rd_is, rd_ii, rd_bb, Option.some.injEq, exists_eq_right, exists_eq_right', and_assoc, reduceCtorEq, false_and, and_false, false_or, or_false, exists_false]
  refine ⟨small_line (by simp), fun p1 H1 n1 => ⟨_, .inl (.of (n1.g _ _ ef)), _, .of n1.at', ?_⟩⟩
  rw [List.length_map]
  have hbp : (0 : Int) < 2 ^ names.length := Int.pow_pos (by decide)
  refine ⟨_, at_m (by omega), _, rfl, ⟨by decide, by decide⟩, ⟨by decide, by decide⟩, _, rfl, small_line (by simp), fun p2 H2 n2 => ⟨by decide, _, .of n2.at', ?_⟩⟩
  obtain ⟨y, ey, hy⟩ : ∃ y : Int, atI [V.int (-1), V.int (2 ^ names.length), V.int (2 ^ names.length + 1), V.int (-2 - x / 7), V.int (2 ^ names.length + x / 7)] (x % 5) = some (V.int y) ∧ ¬ (0 ≤ y ∧ y < 2 ^ names.length) := by
    have j0 := Int.emod_nonneg x (show (5 : Int) ≠ 0 by decide)
    have j1 := Int.emod_lt_of_pos x (show (0 : Int) < 5 by decide)
    have hj : x % 5 = 0 ∨ x % 5 = 1 ∨ x % 5 = 2 ∨ x % 5 = 3 ∨ x % 5 = 4 := by omega
    rcases hj with e | e | e | e | e <;> rw [e]
    · exact ⟨_, atI_0, by omega⟩
    · exact ⟨_, atI_nat (j := 1) rfl, by omega⟩
    · exact ⟨_, atI_nat (j := 2) rfl, by omega⟩
    · exact ⟨_, atI_nat (j := 3) rfl, by omega⟩
    · exact ⟨_, atI_nat (j := 4) rfl, by omega⟩
  refine ⟨_, ey, by decide, fun p3 H3 n3 => ⟨small_line (by simp), fun q1 H4 n4 => ⟨small_line (by simp), fun q2 H5 n5 => ⟨small_line (by simp), fun q3 H6 n6 => ⟨small_line (by simp), fun q4 H7 n7 => ⟨small_line (by simp), fun q5 H8 n8 => ⟨small_line (by simp), fun p6 H9 n9 => ⟨⟨by decide, by decide⟩, by decide, _, .of n9.at', ?_⟩⟩⟩⟩⟩⟩⟩⟩
  have g89 := n9.g
  have g79 := n8.g.trans g89
  have g69 := n7.g.trans g79
  have g59 := n6.g.trans g69
  have g49 := n5.g.trans g59
  have g39 := n4.g.trans g49
  have g09 : Same H H9 := n1.g.trans (n2.g.trans (n3.g.trans g39))
  have tz : TreeZ H9 v t.z := (tv.same g09).z
  have hzs := Tr.z_size t
  obtain ⟨v', t', ev', tv', hs', hm'⟩ : ∃ v' t', atI [V.ref q1, V.ref q3, V.ref q5] (x / 5 % 3) = some v' ∧ TreeZ H9 v' t' ∧ t'.size ≤ 100 ∧ y ∈ t'.lets := by
    have j0 := Int.emod_nonneg (x / 5) (show (3 : Int) ≠ 0 by decide)
    have j1 := Int.emod_lt_of_pos (x / 5) (show (0 : Int) < 3 by decide)
    have hj : x / 5 % 3 = 0 ∨ x / 5 % 3 = 1 ∨ x / 5 % 3 = 2 := by omega
    rcases hj with e | e | e <;> rw [e]
    · exact ⟨_, .node y t.z .nil, atI_0, ⟨q1, _, _, rfl, g49 _ _ n4.at', tz, rfl⟩, by show 1 + t.z.size + 0 ≤ 100; omega, by simp [TrZ.lets]⟩
    · exact ⟨_, .node 0 .nil (.node y t.z .nil), atI_nat (j := 1) rfl, ⟨q3, _, _, rfl, g69 _ _ n6.at', rfl, q2, _, _, rfl, g59 _ _ n5.at', tz, rfl⟩, by show 1 + 0 + (1 + t.z.size + 0) ≤ 100; omega, by simp [TrZ.lets]⟩
    · exact ⟨_, .node 0 t.z (.node y .nil .nil), atI_nat (j := 2) rfl, ⟨q5, _, _, rfl, g89 _ _ n8.at', tz, q4, _, _, rfl, g79 _ _ n7.at', rfl, rfl⟩, by show 1 + t.z.size + (1 + 0 + 0) ≤ 100; omega, by simp [TrZ.lets]⟩
  refine ⟨v', ev', fa, v', names, t', rfl, g09 _ _ ef, fo, tv', hs', .inr ⟨⟨y, hm', hy⟩, fun e H10 g10 he a ea => ?_⟩⟩
  cases ea
  refine ⟨cNoTree, rfl, T.ms, fun H11 g11 e11 => ⟨e, rfl, e11, fun Dm H12 hDm g12 eDm => ⟨⟨_, rfl⟩, small_line (by simp), fun r1 H13 n13 => ⟨small_line (by simp), fun r2 H14 n14 => ⟨_, n14.at', by decide, by decide, small_line (by decide), fun r3 H15 n15 => ⟨_, (n14.g.trans n15.g) _ _ n13.at', _, n15.at', small_line (by decide), fun r4 H16 n16 => ?_⟩⟩⟩⟩⟩⟩
  have g1216 : Same H12 H16 := n13.g.trans (n14.g.trans (n15.g.trans n16.g))
  refine ⟨true, (rc_flat (.of (g1216 _ _ eDm)) (.of n16.at') fun x hx => ?_).up (by omega), q H16 (g09.trans (g10.trans (g11.trans (g12.trans g1216))))⟩
  obtain ⟨b, _, rfl⟩ := List.mem_map.mp hx
  exact ⟨rfl, by cases b <;> rfl⟩
abbrev s_law_asked : Stmt := top 37
theorem sc_law_asked : FnScope ["_law_frame_here", "_law_tree", "_law_handed", "_law_found"] ["_law_frame_here", "_law_tree"] (defScope s_law_asked) := ⟨rfl, rfl, rfl, by decide +kernel, rfl, by decide +kernel, by decide +kernel⟩
theorem ok_askedT (T : Txt K mg cNoTree cSayError cs) (d : Dfn K mg "_law_asked" s_law_asked ["_law_frame_here", "_law_tree"]) (C_tree_fits : CalE P w K mg base 4 "tree_fits" ["frame", "tree"] (sp_treefits cNoTree)) (C_law_due : Cal P w K mg base 63 "_law_due" ["_law_frame_here", "_law_tree"] (sp_dueT K)) : Cal P w K mg base 64 "_law_asked" ["_law_frame_here", "_law_tree"] (sp_askedT K) := by
  refine d.cal sc_law_asked (fun vs H Q E h => ?_) (fun f cdv A outer s H vs Q E hr h => ?_)
  · obtain ⟨f, v, names, t, rfl, _⟩ := h
    rfl
  obtain ⟨fa, v, names, t, rfl, hf, fo, tv, hz, hlt, q⟩ := h
  have hu := hu_at hr 8 (by decide)
  refine ⟨_, (pss_cons (ps_set (i := 2) sc_law_asked.nd rfl (Or.inl rfl) (pe_cTy (call_list_ofNK K) (by rfl) T.b_list boot_list (pa_c (pv 0) pa_nil))) (pss_cons (ps_set (i := 3) sc_law_asked.nd rfl (Or.inl rfl) (pe_callEn C_tree_fits hr (by omega) (by rfl) (pa_c (pv 2) (pa_c (pv 1) pa_nil)))) (pss_one (ps_ret (pe_and (pe_cB call_isk (by rfl) T.b_isinstance boot_isinstance (pa_c (pv 3) (pa_c (pe_bltn (v := .ty "bool") (by rfl) T.b_bool boot_bool (by rfl)) pa_nil))) (pe_and (pe_cmpR op_eq (pv 3) (pe_callC C_law_due hr (by omega) (by rfl) (pa_c (pv 0) (pa_c (pv 1) pa_nil))) (nomark _)) (pe_one (pe_cmpR (op_eqSK K hu) (pv 2) (pv 0) (nomark _))))))))), ?_⟩
  refine rd_st [some (.ref fa), some v, none, none] rfl ?_
  simp only [exists_eq', rEqI, rNeI, rInDc, rLenD, rLenT, rDictOf, rMaxL, rIndex, rCatTN, rCatTE, tDNewN, tDNewTN, tDisp1T, rNeM, rRange2, rListRng, rRepN, rPopAt, rSetL, gSub, ipI, tDGet, tDGet2, sDPut, iEnum, iEZ, iZipL, iEnum, tRaise, tTryA, tTry2A, rIsX, rIsXT, rIsXP, rUpper, rPop, rExtendT, iZip, rInD, rIxD, rLen, rAll, rAny, rSum, rListOf, rEqS, rNeS, rSlTN, rStrB, tTupN, tLstN, rSlLN, rCatN, cxK, cxP, cxW, tSeq, tIfS, tTest, tB, tOp, tUn, tC, tAnd, tOr, tNot, tAndV, tOrV, tNotV, tIf, tNext, tBreak, tCont, tDrop, tRet, tRetN, gName, gNil, gCons, gTup, tAsg, tPar, tAug, rI, rI0, rU, rEq, rNe, tChain, tNil, tCons, tTup, tLst, tCall, tCB, tNoPart, tPart, tSl, rSlT, rSlL, rSlS, rIxL, rIxT, rIxS, rIn, tBM0, tBM, tyV, rAppend, rExtend, rCat, rZfill, rEqD, iList, iTup, iStr, iRng1, iRng2, tYes, tDisp, tPairs, rd_v0, rd_vS, rd_comp, rd_for, rd_ite_t, rd_ite_f, List.set_cons_zero, List.set_cons_succ, List.nil_append, List.cons_append, List.append_nil, V.int.injEq, V.str.injEq, V.bl.injEq, V.ref.injEq, V.ty.injEq, List.cons.injEq, and_true, true_and, exists_eq_left, exists_eq_left', exists_and_left, exists_eq, exists_const, if_true, if_false, ite_true, ite_false, rd_ss, rd_si, rd_is, rd_ii, rd_bb, Option.some.injEq, exists_eq_right, exists_eq_right', and_assoc, reduceCtorEq, false_and, and_false, false_or, or_false, exists_false]
  refine ⟨_, .inl hf, fun l H1 n1 => ?_⟩
  have hin : ∀ x ∈ t.lets, x < 2 ^ names.length := Tr.lets_let t hlt
  refine ⟨l, v, names, t.z, rfl, n1.at', fo, (tv.same n1.g).z, by rw [Tr.z_size]; omega, .inl ⟨t.lets, Tr.z_lets t, hin, fun H2 g2 => ?_⟩⟩
  have hdp := Tr.depth_le t
  refine ⟨_, .bl _, by decide, iteT ?_⟩
  refine ⟨fa, v, names, t, rfl, (n1.g.trans g2).seq hf, fo, tv.same (n1.g.trans g2), by omega, by omega, hlt, fun H3 g3 => ⟨rfl, ?_⟩⟩
  rw [decide_eq_true (show V.bl (fitB names t.lets) = V.bl (fitB names t.lets2) by rw [Tr.fit_same])]
  refine iteT ⟨_, .of ((g2.trans g3) _ _ n1.at'), _, (n1.g.trans (g2.trans g3)).seq hf, ?_⟩
  rw [decide_eq_true rfl]
  exact q H3 (n1.g.trans (g2.trans g3))
end
end K41

set_option Elab.async false
set_option linter.all false
set_option maxRecDepth 100000
set_option maxHeartbeats 4000000
namespace K41
open PySem PySem.Spec PyProof.Rows L2 SS SM
abbrev sp_law := sp_lawF
seal PE PT PW PA PS PSs
section
variable {P : Program} {w : World} {K : PySem.W.Frag} {mg : Str → Option Value} {base : Heap} {cNoTree cSayError : Addr} {cs : List Addr}
abbrev s_law : Stmt := top 38
theorem sc_law : FnScope ["_law_script", "_law_number", "_law_frame_here", "_law_letters_here", "_law_pool", "_law_k", "_law_top", "_law_some", "_law_tree"] ["_law_script"] (defScope s_law) := ⟨rfl, rfl, rfl, by decide +kernel, rfl, by decide +kernel, by decide +kernel⟩
theorem ok_law {f : Addr} {fd : FuncData} (T : Txt K mg cNoTree cSayError cs) (F : Fun K "law" "law" s_law f fd) (C_law_cell_at : Cal P w K mg base 1 "_law_cell_at" ["_law_script", "_law_k"] (sp_cell K)) (C_law_frame : Cal P w K mg base 2 "_law_frame" ["_law_number", "_law_many"] sp_frame41) (C_law_trees : Cal P w K mg base 63 "_law_trees" ["_law_cells", "_law_letters_here", "_law_most"] sp_trees)
    (C_law_asked : Cal P w K mg base 64 "_law_asked" ["_law_frame_here", "_law_tree"] (sp_askedT K)) (C_law_no_tree : Cal P w K mg base 5 "_law_no_tree" ["_law_frame_here", "_law_tree", "_law_number"] sp_notree) : FnOk P w K mg base CX0 65 f fd ["_law_script"] (sp_law K) := by
  refine F.ok sc_law (fun vs H Q E h => ?_) (fun cdv A outer s H vs Q E hr h => ?_)
  · obtain ⟨a, ns, rfl, _⟩ := h
    rfl
  obtain ⟨a, ns, rfl, hS, h63, q⟩ := h
  refine ⟨_, (pss_cons (ps_set (i := 1) sc_law.nd rfl (Or.inl rfl) (pe_op op_mod (pe_callC C_law_cell_at hr (by omega) (by rfl) (pa_c (pv 0) (pa_c pe_int pa_nil))) (pe_op op_pow pe_int pe_int))) (pss_cons (ps_set (i := 2) sc_law.nd rfl (Or.inl rfl) (pe_callC C_law_frame hr (by omega) (by rfl) (pa_c (pv 1) (pa_c (pe_op op_mod (pv 1) pe_int) pa_nil)))) (pss_cons (ps_set (i := 3) sc_law.nd rfl (Or.inl rfl) (pe_ix (ix_listK K) (pe_lstN (pa_c pe_int (pa_c pe_int (pa_c pe_int (pa_c pe_int pa_nil))))) (pe_cB (call_len_seqK K) (by rfl) T.b_len boot_len (pa_c (pv 2) pa_nil)) (fun _ _ => rfl))) (pss_cons (ps_set (i := 4) sc_law.nd rfl (Or.inl rfl) (pe_callC C_law_trees hr (by omega) (by rfl) (pa_c (pe_slice (sl_listNK K) (pv 0) (po_some pe_int) (po_some pe_int)) (pa_c (pv 3) (pa_c pe_int pa_nil))))) (pss_cons (ps_for PassesOwn.never rfl (pi_range1 (by rfl) T.b_range (pa_c (pe_cB (call_len_seqK K) (by rfl) T.b_len boot_len (pa_c (pv 4) pa_nil)) pa_nil)) (pg_name (i := 5) sc_law.nd (by rfl) (Or.inl (by rfl))) (pss_cons (ps_set (i := 6) sc_law.nd rfl (Or.inl rfl) (pe_op op_mod (pe_op op_add (pe_callC C_law_cell_at hr (by omega) (by rfl) (pa_c (pv 0) (pa_c pe_int pa_nil))) (pv 5)) (pv 3))) (pss_cons (ps_set (i := 7) sc_law.nd rfl (Or.inl rfl) (pe_lstN (pa_c (pe_ix (ix_listK K) (pv 4) (pv 5) (fun _ _ => rfl)) (pa_c (pe_tupN (pa_c (pv 6) (pa_c (pe_ix (ix_listK K) (pv 4) (pv 5) (fun _ _ => rfl)) (pa_c pe_non pa_nil)))) (pa_c (pe_tupN (pa_c (pe_op op_sub (pv 3) pe_int) (pa_c pe_non (pa_c (pe_tupN (pa_c pe_int (pa_c pe_non (pa_c (pe_ix (ix_listK K) (pv 4) (pv 5) (fun _ _ => rfl)) pa_nil)))) pa_nil)))) pa_nil))))) (pss_cons (ps_for PassesOwn.never rfl (pi_listK K (pe_op op_catN (pv 7) (pe_lstN (pa_c (pe_tupN (pa_c pe_int (pa_c (pe_ix (ix_listK K) (pv 4) (pv 5) (fun _ _ => rfl)) (pa_c (pe_tupN (pa_c (pv 6) (pa_c pe_non (pa_c pe_non pa_nil)))) pa_nil)))) pa_nil)))) (pg_name (i := 8) sc_law.nd (by rfl) (Or.inl (by rfl))) (pss_one (ps_if (pt_not (pt_val (pe_callC C_law_asked hr (by omega) (by rfl) (pa_c (pv 2) (pa_c (pv 8) pa_nil))))) (pss_one (ps_ret pe_bl)) pss_nil))) (pss_one (ps_if (pt_not (pt_val (pe_callC C_law_no_tree hr (by omega) (by rfl) (pa_c (pe_cTy (call_list_ofNK K) (by rfl) T.b_list boot_list (pa_c (pv 2) pa_nil)) (pa_c (pe_ix (ix_listK K) (pv 4) (pv 5) (fun _ _ => rfl)) (pa_c (pe_op op_mod (pe_op op_mul (pe_op op_add (pv 1) (pe_op op_mul pe_int (pv 5))) pe_int) pe_int) pa_nil)))))) (pss_one (ps_ret pe_bl)) pss_nil)))))) (pss_one (ps_ret (pe_and (pe_callC C_law_asked hr (by omega) (by rfl) (pa_c (pv 2) (pa_c pe_non pa_nil))) (pe_one (pe_callC C_law_asked hr (by omega) (by rfl) (pa_c (pe_lstN pa_nil) (pa_c (pe_tupN (pa_c pe_int (pa_c pe_non (pa_c (pe_tupN (pa_c pe_int (pa_c pe_non (pa_c pe_non pa_nil)))) pa_nil)))) pa_nil)))))))))))), ?_⟩
  refine rd_st [some (.ref a), none, none, none, none, none, none, none, none] rfl ?_
  simp only [exists_eq', rEqI, rNeI, rInDc, rLenD, rLenT, rDictOf, rMaxL, rIndex, rCatTN, rCatTE, tDNewN, tDNewTN, tDisp1T, rNeM, rRange2, rListRng, rRepN, rPopAt, rSetL, gSub, ipI, tDGet, tDGet2, sDPut, iEnum, iEZ, iZipL, iEnum, tRaise, tTryA, tTry2A, rIsX, rIsXT, rIsXP, rUpper, rPop, rExtendT, iZip, rInD, rIxD, rLen, rAll, rAny, rSum, rListOf, rEqS, rNeS, rSlTN, rStrB, tTupN, tLstN, rSlLN, rCatN, cxK, cxP, cxW, tSeq, tIfS, tTest, tB, tOp, tUn, tC, tAnd, tOr, tNot, tAndV, tOrV, tNotV, tIf, tNext, tBreak, tCont, tDrop, tRet, tRetN, gName, gNil, gCons, gTup, tAsg, tPar, tAug, rI, rI0, rU, rEq, rNe, tChain, tNil, tCons, tTup, tLst, tCall, tCB, tNoPart, tPart, tSl, rSlT, rSlL, rSlS, rIxL, rIxT, rIxS, rIn, tBM0, tBM, tyV, rAppend, rExtend, rCat, rZfill, rEqD, iList, iTup, iStr, iRng1, iRng2, tYes, tDisp, tPairs, rd_v0, rd_vS, rd_comp, rd_for, rd_ite_t, rd_ite_f, List.set_cons_zero, List.set_cons_succ, List.nil_append, List.cons_append, List.append_nil, V.int.injEq, V.str.injEq, V.bl.injEq, V.ref.injEq, V.ty.injEq, List.cons.injEq, and_true, true_and, exists_eq_left, exists_eq_left', exists_and_left, exists_eq, exists_const, if_true, if_false, ite_true, ite_false, rd_ss, rd_si, rd_is, rd_ii, rd_bb, Option.some.injEq, exists_eq_right, exists_eq_right', and_assoc, reduceCtorEq, false_and, and_false, false_or, or_false, exists_false]
  refine ⟨a, ns, 0, rfl, hS, by decide, fun c => ⟨⟨by decide, by decide, by decide⟩, _, rfl, by decide, by decide, ?_⟩⟩
  have hh := Int.emod_nonneg c (show (10 : Int) ^ Int.toNat 20 ≠ 0 by decide)
  generalize c % (10 : Int) ^ Int.toNat 20 = hd at hh
  have w0 := Int.emod_nonneg hd (show (4 : Int) ≠ 0 by decide)
  have w1 := Int.emod_lt_of_pos hd (show (0 : Int) < 4 by decide)
  obtain ⟨wd, ewd⟩ : ∃ wd : Nat, hd % 4 = (wd : Int) := ⟨(hd % 4).toNat, by omega⟩
  rw [ewd]
  refine ⟨hd, wd, rfl, by omega, fun Df names H1 hDf g1 e1 fo hnl => ?_⟩
  have h3 : names.length ≤ 3 := by omega
  have hps : 1 ≤ 2 ^ names.length ∧ 2 ^ names.length ≤ 16 := pow_small (by omega)
  have hat : atI [V.int 1, V.int 2, V.int 4, V.int 8] ((names.length : Nat) : Int) = some (nV (2 ^ names.length)) := by
    generalize names.length = k at h3
    have : k = 0 ∨ k = 1 ∨ k = 2 ∨ k = 3 := by omega
    rcases this with rfl | rfl | rfl | rfl <;> exact atI_nat rfl
  refine ⟨small_line (by simp), fun pl H2 n2 => ⟨Df, rfl, _, .inl (.of (n2.g _ _ e1)), _, .of n2.at', ?_⟩⟩
  rw [List.length_map]
  refine ⟨_, hat, _, (g1.trans n2.g).seq hS, fun pc H3 n3 => ?_⟩
  rw [cutL_map] at n3
  have lm := cutL_len ns (some 2) (some 42)
  generalize cutL ns (some 2) (some 42) = ms at n3 lm
  refine ⟨pc, ms, 2 ^ names.length, 12, rfl, n3.at', by omega, by omega, by decide, fun pp xs ts H4 hpp g4 ep pr hts hg => ?_⟩
  have hxl := SS.Paired.len pr
  have g04 : Same H H4 := g1.trans (n2.g.trans (n3.g.trans g4))
  have ef4 : H4 Df = some (.lst (names.map V.str)) := (n2.g.trans (n3.g.trans g4)) _ _ e1
  refine ⟨pp, rfl, _, .inl (.of ep), by omega, by omega, ?_⟩
  rw [show ((xs.length : Nat) : Int).toNat = xs.length from rfl]
  refine fb_range (fun i σ H' => Same H4 H' ∧ ∃ v5 v6 v7 v8, σ = [some (.ref a), some (.int hd), some (.ref Df), some (nV (2 ^ names.length)), some (.ref pp), v5, v6, v7, v8]) ⟨Same.refl _, _, _, _, _, rfl⟩ ?_ ?_
  · rintro i σ H' hi ⟨g, v5, v6, v7, v8, rfl⟩
    obtain ⟨t, et, tv0⟩ := SS.Paired.at pr (List.getElem?_eq_getElem hi)
    obtain ⟨htL, htz⟩ := hg t (List.mem_of_getElem? et)
    have tv := tv0.same g
    have evi : atI xs (0 + (i : Int)) = some xs[i] := by rw [Int.zero_add]; exact atI_nat (List.getElem?_eq_getElem hi)
    have g0' := g04.trans g
    generalize xs[i] = xv at tv evi
    simp only [exists_eq', rEqI, rNeI, rInDc, rLenD, rLenT, rDictOf, rMaxL, rIndex, rCatTN, rCatTE, tDNewN, tDNewTN, tDisp1T, rNeM, rRange2, rListRng, rRepN, rPopAt, rSetL, gSub, ipI, tDGet, tDGet2, sDPut, iEnum, iEZ, iZipL, iEnum, tRaise, tTryA, tTry2A, rIsX, rIsXT, rIsXP, rUpper, rPop, rExtendT, iZip, rInD, rIxD, rLen, rAll, rAny, rSum, rListOf, rEqS, rNeS, rSlTN, rStrB, tTupN, tLstN, rSlLN, rCatN, cxK, cxP, cxW, tSeq, tIfS, tTest, tB, tOp, tUn, tC, tAnd, tOr, tNot, tAndV, tOrV, tNotV, tIf, tNext, tBreak, tCont, tDrop, tRet, tRetN, gName, gNil, gCons, gTup, tAsg, tPar, tAug, rI, rI0, rU, rEq, rNe, tChain, tNil, tCons, tTup, tLst, tCall, tCB, tNoPart, tPart, tSl, rSlT, rSlL, rSlS, rIxL, rIxT, rIxS, rIn, tBM0, tBM, tyV, rAppend, rExtend, rCat, rZfill, rEqD, iList, iTup, iStr, iRng1, iRng2, tYes, tDisp, tPairs, rd_v0, rd_vS, rd_comp, rd_for, rd_ite_t, rd_ite_f, List.set_cons_zero, List.set_cons_succ, List.nil_append, List.cons_append, List.append_nil, V.int.injEq, V.str.injEq, V.bl.injEq, V.ref.injEq, V.ty.injEq, List.cons.injEq, and_true, true_and, exists_eq_left, exists_eq_left', exists_and_left, exists_eq, exists_const, if_true, if_false, ite_true, ite_false, rd_ss, rd_si, rd_is, rd_ii, rd_bb, Option.some.injEq, exists_eq_right, exists_eq_right', and_assoc, reduceCtorEq, false_and, and_false, false_or, or_false, exists_false]
    refine ⟨a, ns, 1, rfl, g0'.seq hS, by decide, fun c1 => ⟨c1, rfl, by omega, ?_⟩⟩
    have q0 := Int.emod_nonneg (c1 + (0 + (i : Int))) (show ((2 ^ names.length : Nat) : Int) ≠ 0 by omega)
    have q1 := Int.emod_lt_of_pos (c1 + (0 + (i : Int))) (show (0 : Int) < ((2 ^ names.length : Nat) : Int) by omega)
    generalize (c1 + (0 + (i : Int))) % ((2 ^ names.length : Nat) : Int) = tp at q0 q1
    obtain ⟨tn, rfl⟩ : ∃ tn : Nat, tp = (tn : Int) := ⟨tp.toNat, by omega⟩
    have ep' := g _ _ ep
    have ef' := g _ _ ef4
    refine ⟨_, .of ep', _, evi, _, .of ep', _, evi, small_line (by simp), fun q1 H5 n5 => ⟨_, .of (n5.g _ _ ep'), _, evi, small_line (by simp), fun q2 H6 n6 => ⟨small_line (by simp), fun q3 H7 n7 => ⟨small_line (by simp), fun q4 H8 n8 => ?_⟩⟩⟩⟩
    have g58 : Same H' H8 := n5.g.trans (n6.g.trans (n7.g.trans n8.g))
    refine ⟨_, .of (g58 _ _ ep'), _, evi, small_line (by simp), fun q5 H9 n9 => ⟨small_line (by simp), fun q6 H10 n10 => ⟨small_line (by simp), fun q7 H11 n11 => ⟨_, (n9.g.trans (n10.g.trans n11.g)) _ _ n8.at', _, n11.at', small_line (by simp), fun q8 H12 n12 => ⟨⟨_, .of n12.at'⟩, ?_⟩⟩⟩⟩⟩
    have g812 : Same H8 H12 := n9.g.trans (n10.g.trans (n11.g.trans n12.g))
    have g12 : Same H' H12 := g58.trans g812
    have e2l : ((2 ^ names.length : Nat) : Int) - 1 = ((2 ^ names.length - 1 : Nat) : Int) := by omega
    rw [e2l] at n7
    have tv12 : TreeV H12 xv t := tv.same g12
    have each : ∀ (j : Nat) (y : V), ([xv, .ref q1, .ref q3] ++ [.ref q6] : List V)[j]? = some y → ∃ t', TreeV H12 y t' ∧ t'.size ≤ 60 ∧ t'.Let (2 ^ names.length) := by
      intro j y hy
      rcases j with _ | _ | _ | _ | j
      · cases hy; exact ⟨t, tv12, by omega, htL⟩
      · cases hy; exact ⟨.node tn t .nil, ⟨q1, _, _, rfl, (n6.g.trans (n7.g.trans (n8.g.trans g812))) _ _ n5.at', tv12, rfl⟩, by show 1 + t.size + 0 ≤ 60; omega, ⟨by omega, htL, trivial⟩⟩
      · cases hy; exact ⟨.node (2 ^ names.length - 1) .nil (.node 0 .nil t), ⟨q3, _, _, rfl, (n8.g.trans g812) _ _ n7.at', rfl, q2, _, _, rfl, (n7.g.trans (n8.g.trans g812)) _ _ n6.at', rfl, tv12⟩, by show 1 + 0 + (1 + 0 + t.size) ≤ 60; omega, ⟨by omega, trivial, by omega, trivial, htL⟩⟩
      · cases hy; exact ⟨.node 0 t (.node tn .nil .nil), ⟨q6, _, _, rfl, (n11.g.trans n12.g) _ _ n10.at', tv12, q5, _, _, rfl, (n10.g.trans (n11.g.trans n12.g)) _ _ n9.at', rfl, rfl⟩, by show 1 + t.size + (1 + 0 + 0) ≤ 60; omega, ⟨by omega, htL, by omega, trivial, trivial⟩⟩
      · simp at hy
    refine fb_list (K := K) (a := q8) (xs := [xv, .ref q1, .ref q3] ++ [.ref q6]) (fun j σ H'' => Same H12 H'' ∧ ∃ v8, σ = [some (.ref a), some (.int hd), some (.ref Df), some (nV (2 ^ names.length)), some (.ref pp), some (.int (0 + (i : Int))), some (.int (tn : Int)), some (.ref q4), v8]) ⟨Same.refl _, _, rfl⟩ (fun j σ H'' _ z => .of (z.1 _ _ n12.at')) ?_ ?_
    · rintro j y σ H'' hy ⟨g13, v8', rfl⟩
      obtain ⟨t', tv', hz', hl'⟩ := each j y hy
      simp only [exists_eq', rEqI, rNeI, rInDc, rLenD, rLenT, rDictOf, rMaxL, rIndex, rCatTN, rCatTE, tDNewN, tDNewTN, tDisp1T, rNeM, rRange2, rListRng, rRepN, rPopAt, rSetL, gSub, ipI, tDGet, tDGet2, sDPut, iEnum, iEZ, iZipL, iEnum, tRaise, tTryA, tTry2A, rIsX, rIsXT, rIsXP, rUpper, rPop, rExtendT, iZip, rInD, rIxD, rLen, rAll, rAny, rSum, rListOf, rEqS, rNeS, rSlTN, rStrB, tTupN, tLstN, rSlLN, rCatN, cxK, cxP, cxW, tSeq, tIfS, tTest, tB, tOp, tUn, tC, tAnd, tOr, tNot, tAndV, tOrV, tNotV, tIf, tNext, tBreak, tCont, tDrop, tRet, tRetN, gName, gNil, gCons, gTup, tAsg, tPar, tAug, rI, rI0, rU, rEq, rNe, tChain, tNil, tCons, tTup, tLst, tCall, tCB, tNoPart, tPart, tSl, rSlT, rSlL, rSlS, rIxL, rIxT, rIxS, rIn, tBM0, tBM, tyV, rAppend, rExtend, rCat, rZfill, rEqD, iList, iTup, iStr, iRng1, iRng2, tYes, tDisp, tPairs, rd_v0, rd_vS, rd_comp, rd_for, rd_ite_t, rd_ite_f, List.set_cons_zero, List.set_cons_succ, List.nil_append, List.cons_append, List.append_nil, V.int.injEq, V.str.injEq, V.bl.injEq, V.ref.injEq, V.ty.injEq, List.cons.injEq, and_true, true_and, exists_eq_left, exists_eq_left', exists_and_left, exists_eq, exists_const, if_true, if_false, ite_true, ite_false, rd_ss, rd_si, rd_is, rd_ii, rd_bb, Option.some.injEq, exists_eq_right, exists_eq_right', and_assoc, reduceCtorEq, false_and, and_false, false_or, or_false, exists_false]
      refine ⟨Df, y, names, t', rfl, .of ((g12.trans g13) _ _ ef'), fo, tv'.same g13, hz', hl', fun H14 g14 => ⟨_, rfl, iteF ?_⟩⟩
      exact g13.trans g14
    · rintro σ H'' ⟨g13, v8', rfl⟩
      have g' := g12.trans g13
      simp only [exists_eq', rEqI, rNeI, rInDc, rLenD, rLenT, rDictOf, rMaxL, rIndex, rCatTN, rCatTE, tDNewN, tDNewTN, tDisp1T, rNeM, rRange2, rListRng, rRepN, rPopAt, rSetL, gSub, ipI, tDGet, tDGet2, sDPut, iEnum, iEZ, iZipL, iEnum, tRaise, tTryA, tTry2A, rIsX, rIsXT, rIsXP, rUpper, rPop, rExtendT, iZip, rInD, rIxD, rLen, rAll, rAny, rSum, rListOf, rEqS, rNeS, rSlTN, rStrB, tTupN, tLstN, rSlLN, rCatN, cxK, cxP, cxW, tSeq, tIfS, tTest, tB, tOp, tUn, tC, tAnd, tOr, tNot, tAndV, tOrV, tNotV, tIf, tNext, tBreak, tCont, tDrop, tRet, tRetN, gName, gNil, gCons, gTup, tAsg, tPar, tAug, rI, rI0, rU, rEq, rNe, tChain, tNil, tCons, tTup, tLst, tCall, tCB, tNoPart, tPart, tSl, rSlT, rSlL, rSlS, rIxL, rIxT, rIxS, rIn, tBM0, tBM, tyV, rAppend, rExtend, rCat, rZfill, rEqD, iList, iTup, iStr, iRng1, iRng2, tYes, tDisp, tPairs, rd_v0, rd_vS, rd_comp, rd_for, rd_ite_t, rd_ite_f, List.set_cons_zero, List.set_cons_succ, List.nil_append, List.cons_append, List.append_nil, V.int.injEq, V.str.injEq, V.bl.injEq, V.ref.injEq, V.ty.injEq, List.cons.injEq, and_true, true_and, exists_eq_left, exists_eq_left', exists_and_left, exists_eq, exists_const, if_true, if_false, ite_true, ite_false, rd_ss, rd_si, rd_is, rd_ii, rd_bb, Option.some.injEq, exists_eq_right, exists_eq_right', and_assoc, reduceCtorEq, false_and, and_false, false_or, or_false, exists_false]
      refine ⟨_, .inl (.of (g' _ _ ef')), fun l H14 n14 => ⟨_, .of ((g'.trans n14.g) _ _ ep'), _, evi, .inl ⟨by decide, by decide⟩, .inr ⟨by decide, by decide⟩, by decide, ?_⟩⟩
      refine ⟨l, xv, names, t, _, rfl, n14.at', fo, h3, tv.same (g'.trans n14.g), by omega, Int.emod_nonneg _ (by decide), fun H15 g15 => ⟨_, rfl, iteF ?_⟩⟩
      exact g.trans (g'.trans (n14.g.trans g15))
  · rintro σ H' ⟨g, v5, v6, v7, v8, rfl⟩
    simp only [exists_eq', rEqI, rNeI, rInDc, rLenD, rLenT, rDictOf, rMaxL, rIndex, rCatTN, rCatTE, tDNewN, tDNewTN, tDisp1T, rNeM, rRange2, rListRng, rRepN, rPopAt, rSetL, gSub, ipI, tDGet, tDGet2, sDPut, iEnum, iEZ, iZipL, iEnum, tRaise, tTryA, tTry2A, rIsX, rIsXT, rIsXP, rUpper, rPop, rExtendT, iZip, rInD, rIxD, rLen, rAll, rAny, rSum, rListOf, rEqS, rNeS, rSlTN, rStrB, tTupN, tLstN, rSlLN, rCatN, cxK, cxP, cxW, tSeq, tIfS, tTest, tB, tOp, tUn, tC, tAnd, tOr, tNot, tAndV, tOrV, tNotV, tIf, tNext, tBreak, tCont, tDrop, tRet, tRetN, gName, gNil, gCons, gTup, tAsg, tPar, tAug, rI, rI0, rU, rEq, rNe, tChain, tNil, tCons, tTup, tLst, tCall, tCB, tNoPart, tPart, tSl, rSlT, rSlL, rSlS, rIxL, rIxT, rIxS, rIn, tBM0, tBM, tyV, rAppend, rExtend, rCat, rZfill, rEqD, iList, iTup, iStr, iRng1, iRng2, tYes, tDisp, tPairs, rd_v0, rd_vS, rd_comp, rd_for, rd_ite_t, rd_ite_f, List.set_cons_zero, List.set_cons_succ, List.nil_append, List.cons_append, List.append_nil, V.int.injEq, V.str.injEq, V.bl.injEq, V.ref.injEq, V.ty.injEq, List.cons.injEq, and_true, true_and, exists_eq_left, exists_eq_left', exists_and_left, exists_eq, exists_const, if_true, if_false, ite_true, ite_false, rd_ss, rd_si, rd_is, rd_ii, rd_bb, Option.some.injEq, exists_eq_right, exists_eq_right', and_assoc, reduceCtorEq, false_and, and_false, false_or, or_false, exists_false]
    have ef' := g _ _ ef4
    refine ⟨Df, .non, names, .nil, rfl, .of ef', fo, rfl, by simp [Tr.size], trivial, fun H5 g5 => ⟨_, rfl, iteT ?_⟩⟩
    refine ⟨by decide, fun r1 H6 n6 => ⟨small_line (by simp), fun r2 H7 n7 => ⟨small_line (by simp), fun r3 H8 n8 => ?_⟩⟩⟩
    refine ⟨r1, .ref r3, [], .node 0 .nil (.node 0 .nil .nil), rfl, .of ((n7.g.trans n8.g) _ _ n6.at'), ⟨by simp, fun z h => nomatch h⟩, ⟨r3, _, _, rfl, n8.at', rfl, r2, _, _, rfl, n8.g _ _ n7.at', rfl, rfl⟩, by decide, ⟨by decide, trivial, by decide, trivial, trivial⟩, fun H9 g9 => q H9⟩
end
end K41

set_option Elab.async false
set_option linter.all false
set_option maxRecDepth 100000
namespace K41
open PySem PySem.Spec PyProof.Rows L2 SS SM
section
variable {P : Program} {w : World} {K : PySem.W.Frag} {mg : Str → Option Value} {base : Heap} {f : Addr} {fd : FuncData} {cNoTree cSayError : Addr} {cs : List Addr}
theorem all (T : Txt K mg cNoTree cSayError cs) (d_is_letter_with_figures : Dfn K mg "is_letter_with_figures" s_is_letter_with_figures ["thing", "letters"]) (d_is_place : Dfn K mg "is_place" s_is_place ["thing"]) (d_is_whole : Dfn K mg "is_whole" s_is_whole ["thing"]) (d_is_below : Dfn K mg "is_below" s_is_below ["thing", "bound"]) (d_is_letter : Dfn K mg "is_letter" s_is_letter ["thing", "tracks"]) (d_count_with : Dfn K mg "count_with" s_count_with ["letters", "track"]) (d_each_place_once : Dfn K mg "each_place_once" s_each_place_once ["frame", "letters"]) (d_letters_of : Dfn K mg "letters_of" s_letters_of ["tree"]) (d_tree_fits : Dfn K mg "tree_fits" s_tree_fits ["frame", "tree"]) (d_law_cell_at : Dfn K mg "_law_cell_at" s_law_cell_at ["_law_script", "_law_k"]) (d_law_name : Dfn K mg "_law_name" s_law_name ["_law_kind", "_law_number", "_law_place"]) (d_law_frame : Dfn K mg "_law_frame" s_law_frame ["_law_number", "_law_many"]) (d_law_size : Dfn K mg "_law_size" s_law_size ["_law_tree"]) (d_law_trees : Dfn K mg "_law_trees" s_law_trees ["_law_cells", "_law_letters_here", "_law_most"]) (d_law_letters : Dfn K mg "_law_letters" s_law_letters ["_law_tree"]) (d_law_due : Dfn K mg "_law_due" s_law_due ["_law_frame_here", "_law_tree"]) (d_law_marks : Dfn K mg "_law_marks" s_law_marks ["_law_e"]) (d_law_no_tree : Dfn K mg "_law_no_tree" s_law_no_tree ["_law_frame_here", "_law_tree", "_law_number"]) (d_law_asked : Dfn K mg "_law_asked" s_law_asked ["_law_frame_here", "_law_tree"]) (F : Fun K "law" "law" s_law f fd) : FnOk P w K mg base CX0 65 f fd ["_law_script"] (sp_law K) := by
  have n1 := ok_lf (P := P) (w := w) (base := base) T d_is_letter_with_figures
  have n2 := ok_place T d_is_place n1
  have b1 := ok_wholeX (P := P) (w := w) (base := base) T d_is_whole
  have b2 := ok_belowX T d_is_below b1
  have r1 := ok_isletter T d_is_letter b2
  have r3 := ok_countw (P := P) (w := w) (base := base) T d_count_with
  have r4 := ok_once T d_each_place_once n2 r3
  have t1 := ok_lettersof (P := P) (w := w) (base := base) T d_letters_of
  have t2 := ok_treefits T d_tree_fits t1 r1 r4
  have l1 := ok_cell (P := P) (w := w) (base := base) T d_law_cell_at
  have l2 := ok_name41 (P := P) (w := w) (base := base) T d_law_name
  have l3 := ok_frame41 T d_law_frame l2
  have l4 := ok_sizeT (P := P) (w := w) (base := base) T d_law_size 61
  have l5 := ok_trees T d_law_trees l4
  have l6 := ok_lettersL (P := P) (w := w) (base := base) T d_law_letters 61
  have l7 := ok_dueT T d_law_due l6
  have l8 := ok_marksT (P := P) (w := w) (base := base) T d_law_marks
  have l9 := ok_notree T d_law_no_tree t2 l8
  have l10 := ok_askedT T d_law_asked t2 l7
  exact ok_law T F l1 l3 l5 l10 l9
end
end K41
namespace K41
open PySem PySem.Spec PyProof.Rows L2 SS SM
theorem txt_mk {K : PySem.W.Frag} {mg : Str → Option Value} {cNoTree cSayError dd0 dd1 dd2 dd3 dd4 dd5 dd6 dd7 : Addr} (h0 : mg "isinstance" = none) (h1 : mg "str" = none) (h2 : mg "list" = none) (h3 : mg "tuple" = none) (h4 : mg "int" = none) (h5 : mg "bool" = none) (h6 : mg "len" = none) (h7 : mg "all" = none) (h8 : mg "sum" = none) (h9 : mg "range" = none) (h10 : mg "enumerate" = none) (h11 : mg "ValueError" = none) (h12 : GlV mg "FIGURES" (.str FIGS)) (h13 : GlV mg "LONGEST_NAME" (.int 4)) (h14 : GlV mg "SMALL_LETTERS" (.str SMALL)) (h15 : mg "NoTree" = some (.ref cNoTree)) (h16 : mg "SayError" = some (.ref cSayError)) (h17 : mg "NoFrame" = some (.ref dd0)) (h18 : mg "NoSaying" = some (.ref dd1)) (h19 : mg "NoText" = some (.ref dd2)) (h20 : mg "NoRow" = some (.ref dd3)) (h21 : mg "NoWidth" = some (.ref dd4)) (h22 : mg "NoNumber" = some (.ref dd5)) (h23 : mg "TooGreat" = some (.ref dd6)) (h24 : mg "NoLine" = some (.ref dd7)) (h25 : KSup K cSayError) (h26 : KExc K cNoTree) (h27 : PySem.W.mroIn K cNoTree (.ref cSayError) = some true) (h28 : PySem.W.kitOne K (.ref cNoTree) (.ref cNoTree) = some true) (h29 : PySem.W.kitOne K (.ref cNoTree) (.type "ValueError") = some true) (h30_0 : PySem.W.kitOne K (.ref cNoTree) (.ref dd0) = some false) (h30_1 : PySem.W.kitOne K (.ref cNoTree) (.ref dd1) = some false) (h30_2 : PySem.W.kitOne K (.ref cNoTree) (.ref dd2) = some false) (h30_3 : PySem.W.kitOne K (.ref cNoTree) (.ref dd3) = some false) (h30_4 : PySem.W.kitOne K (.ref cNoTree) (.ref dd4) = some false) (h30_5 : PySem.W.kitOne K (.ref cNoTree) (.ref dd5) = some false) (h30_6 : PySem.W.kitOne K (.ref cNoTree) (.ref dd6) = some false) (h30_7 : PySem.W.kitOne K (.ref cNoTree) (.ref dd7) = some false) (h31 : PySem.W.excIn K cNoTree veM "ValueError.__new__" = true) : ∃ (qcNoTree qcSayError : Addr) (cs : List Addr), Txt K mg qcNoTree qcSayError cs :=
  ⟨cNoTree, cSayError, [dd0, dd1, dd2, dd3, dd4, dd5, dd6, dd7], ⟨h0, h1, h2, h3, h4, h5, h6, h7, h8, h9, h10, h11, h12, h13, h14, h15, h16, h17, h18, h19, h20, h21, h22, h23, h24, h25, h26, h27, h28, h29, (fun j hj => match j, hj with | 0, _ => h30_0 | 1, _ => h30_1 | 2, _ => h30_2 | 3, _ => h30_3 | 4, _ => h30_4 | 5, _ => h30_5 | 6, _ => h30_6 | 7, _ => h30_7 | _ + 8, h => absurd h (by omega)), h31⟩⟩
end K41
open PySem PySem.W PyProof.Rows
set_option maxRecDepth 100000 in
set_option maxHeartbeats 0 in
theorem PySem.Challenge.cw_setsays_k41_trees_fit_holds : PySem.Challenge.rw_setsays_k41_trees_fit.Holds := by
  w_on; o_law; k_head; (case hw => w_witness2)
  k_fill
  refine L2.walk_ofK (l := PySem.Challenge.rw_setsays_k41_trees_fit) (n := 63) (k := 65) (x := "_law_script") (CX := L2.CX0) (sp := K41.sp_law) rfl (by decide) rfl ⟨rfl, by decide, by decide⟩ (fun w h Y => PySem.W.kIn_of Y) ?F (fun _ _ a ns hl _ hS => ⟨a, ns, rfl, hS, hl, fun _ => rfl⟩) fun _ _ _ _ z => z
  case F =>
    intro w mg fa h KX G hmg
    obtain ⟨cNoTree, cSayError, cs, T⟩ : ∃ (cNoTree cSayError : Addr) (cs : List Addr), K41.Txt (L2.KOf KX) mg cNoTree cSayError cs := by
      dsimp only [L2.KOf]
      refine' K41.txt_mk (PySem.W.mg_none_of KX G ?t0) (PySem.W.mg_none_of KX G ?t1) (PySem.W.mg_none_of KX G ?t2) (PySem.W.mg_none_of KX G ?t3) (PySem.W.mg_none_of KX G ?t4) (PySem.W.mg_none_of KX G ?t5) (PySem.W.mg_none_of KX G ?t6) (PySem.W.mg_none_of KX G ?t7) (PySem.W.mg_none_of KX G ?t8) (PySem.W.mg_none_of KX G ?t9) (PySem.W.mg_none_of KX G ?t10) (PySem.W.mg_none_of KX G ?t11) (L2.glv_mk KX G ?t12 ?r12) (L2.glv_mk KX G ?t13 ?r13) (L2.glv_mk KX G ?t14 ?r14) (PySem.W.mg_of KX G ?t15) (PySem.W.mg_of KX G ?t16) (PySem.W.mg_of KX G ?t17) (PySem.W.mg_of KX G ?t18) (PySem.W.mg_of KX G ?t19) (PySem.W.mg_of KX G ?t20) (PySem.W.mg_of KX G ?t21) (PySem.W.mg_of KX G ?t22) (PySem.W.mg_of KX G ?t23) (PySem.W.mg_of KX G ?t24) ⟨?t25a, ?t25b, ?t25c⟩ ⟨?t26a, ?t26b, ?t26c, ?t26d, ?t26e, ?t26f⟩ ?t27 ?t28 ?t29 ?t30_0 ?t30_1 ?t30_2 ?t30_3 ?t30_4 ?t30_5 ?t30_6 ?t30_7 ?t31
      (case t0 => k_is)
      (case t1 => k_is)
      (case t2 => k_is)
      (case t3 => k_is)
      (case t4 => k_is)
      (case t5 => k_is)
      (case t6 => k_is)
      (case t7 => k_is)
      (case t8 => k_is)
      (case t9 => k_is)
      (case t10 => k_is)
      (case t11 => k_is)
      (case t12 => k_is); (case r12 => exact ⟨_, rfl⟩)
      (case t13 => k_is); (case r13 => exact ⟨_, rfl⟩)
      (case t14 => k_is); (case r14 => exact ⟨_, rfl⟩)
      (case t15 => k_is)
      (case t16 => k_is)
      (case t17 => k_is)
      (case t18 => k_is)
      (case t19 => k_is)
      (case t20 => k_is)
      (case t21 => k_is)
      (case t22 => k_is)
      (case t23 => k_is)
      (case t24 => k_is)
      (case t25a => k_is); (case t25b => k_is); (case t25c => k_is)
      (case t26a => k_is); (case t26b => k_is); (case t26c => k_is); (case t26d => k_is); (case t26e => k_is); (case t26f => k_is)
      (case t27 => k_is)
      (case t28 => kit_is)
      (case t29 => kit_is)
      (case t30_0 => kit_is)
      (case t30_1 => kit_is)
      (case t30_2 => kit_is)
      (case t30_3 => kit_is)
      (case t30_4 => kit_is)
      (case t30_5 => kit_is)
      (case t30_6 => kit_is)
      (case t30_7 => kit_is)
      (case t31 => k_exc)
    have d_is_letter_with_figures : L2.Dfn (L2.KOf KX) mg "is_letter_with_figures" K41.s_is_letter_with_figures ["thing", "letters"] := by
      dsimp only [L2.KOf]
      refine' L2.dfn_mk KX G ?a ?l ?c ?k (fun _ _ _ _ _ _ us hl => match us, hl with | [_, _], _ => rfl)
      (case a => k_is); (case l => k_is); (case c => k_is); (case k => k_is)
    have d_is_place : L2.Dfn (L2.KOf KX) mg "is_place" K41.s_is_place ["thing"] := by
      dsimp only [L2.KOf]
      refine' L2.dfn_mk KX G ?a ?l ?c ?k (fun _ _ _ _ _ _ us hl => match us, hl with | [_], _ => rfl)
      (case a => k_is); (case l => k_is); (case c => k_is); (case k => k_is)
    have d_is_whole : L2.Dfn (L2.KOf KX) mg "is_whole" K41.s_is_whole ["thing"] := by
      dsimp only [L2.KOf]
      refine' L2.dfn_mk KX G ?a ?l ?c ?k (fun _ _ _ _ _ _ us hl => match us, hl with | [_], _ => rfl)
      (case a => k_is); (case l => k_is); (case c => k_is); (case k => k_is)
    have d_is_below : L2.Dfn (L2.KOf KX) mg "is_below" K41.s_is_below ["thing", "bound"] := by
      dsimp only [L2.KOf]
      refine' L2.dfn_mk KX G ?a ?l ?c ?k (fun _ _ _ _ _ _ us hl => match us, hl with | [_, _], _ => rfl)
      (case a => k_is); (case l => k_is); (case c => k_is); (case k => k_is)
    have d_is_letter : L2.Dfn (L2.KOf KX) mg "is_letter" K41.s_is_letter ["thing", "tracks"] := by
      dsimp only [L2.KOf]
      refine' L2.dfn_mk KX G ?a ?l ?c ?k (fun _ _ _ _ _ _ us hl => match us, hl with | [_, _], _ => rfl)
      (case a => k_is); (case l => k_is); (case c => k_is); (case k => k_is)
    have d_count_with : L2.Dfn (L2.KOf KX) mg "count_with" K41.s_count_with ["letters", "track"] := by
      dsimp only [L2.KOf]
      refine' L2.dfn_mk KX G ?a ?l ?c ?k (fun _ _ _ _ _ _ us hl => match us, hl with | [_, _], _ => rfl)
      (case a => k_is); (case l => k_is); (case c => k_is); (case k => k_is)
    have d_each_place_once : L2.Dfn (L2.KOf KX) mg "each_place_once" K41.s_each_place_once ["frame", "letters"] := by
      dsimp only [L2.KOf]
      refine' L2.dfn_mk KX G ?a ?l ?c ?k (fun _ _ _ _ _ _ us hl => match us, hl with | [_, _], _ => rfl)
      (case a => k_is); (case l => k_is); (case c => k_is); (case k => k_is)
    have d_letters_of : L2.Dfn (L2.KOf KX) mg "letters_of" K41.s_letters_of ["tree"] := by
      dsimp only [L2.KOf]
      refine' L2.dfn_mk KX G ?a ?l ?c ?k (fun _ _ _ _ _ _ us hl => match us, hl with | [_], _ => rfl)
      (case a => k_is); (case l => k_is); (case c => k_is); (case k => k_is)
    have d_tree_fits : L2.Dfn (L2.KOf KX) mg "tree_fits" K41.s_tree_fits ["frame", "tree"] := by
      dsimp only [L2.KOf]
      refine' L2.dfn_mk KX G ?a ?l ?c ?k (fun _ _ _ _ _ _ us hl => match us, hl with | [_, _], _ => rfl)
      (case a => k_is); (case l => k_is); (case c => k_is); (case k => k_is)
    have d_law_cell_at : L2.Dfn (L2.KOf KX) mg "_law_cell_at" K41.s_law_cell_at ["_law_script", "_law_k"] := by
      dsimp only [L2.KOf]
      refine' L2.dfn_mk KX G ?a ?l ?c ?k (fun _ _ _ _ _ _ us hl => match us, hl with | [_, _], _ => rfl)
      (case a => k_is); (case l => k_is); (case c => k_is); (case k => k_is)
    have d_law_name : L2.Dfn (L2.KOf KX) mg "_law_name" K41.s_law_name ["_law_kind", "_law_number", "_law_place"] := by
      dsimp only [L2.KOf]
      refine' L2.dfn_mk KX G ?a ?l ?c ?k (fun _ _ _ _ _ _ us hl => match us, hl with | [_, _, _], _ => rfl)
      (case a => k_is); (case l => k_is); (case c => k_is); (case k => k_is)
    have d_law_frame : L2.Dfn (L2.KOf KX) mg "_law_frame" K41.s_law_frame ["_law_number", "_law_many"] := by
      dsimp only [L2.KOf]
      refine' L2.dfn_mk KX G ?a ?l ?c ?k (fun _ _ _ _ _ _ us hl => match us, hl with | [_, _], _ => rfl)
      (case a => k_is); (case l => k_is); (case c => k_is); (case k => k_is)
    have d_law_size : L2.Dfn (L2.KOf KX) mg "_law_size" K41.s_law_size ["_law_tree"] := by
      dsimp only [L2.KOf]
      refine' L2.dfn_mk KX G ?a ?l ?c ?k (fun _ _ _ _ _ _ us hl => match us, hl with | [_], _ => rfl)
      (case a => k_is); (case l => k_is); (case c => k_is); (case k => k_is)
    have d_law_trees : L2.Dfn (L2.KOf KX) mg "_law_trees" K41.s_law_trees ["_law_cells", "_law_letters_here", "_law_most"] := by
      dsimp only [L2.KOf]
      refine' L2.dfn_mk KX G ?a ?l ?c ?k (fun _ _ _ _ _ _ us hl => match us, hl with | [_, _, _], _ => rfl)
      (case a => k_is); (case l => k_is); (case c => k_is); (case k => k_is)
    have d_law_letters : L2.Dfn (L2.KOf KX) mg "_law_letters" K41.s_law_letters ["_law_tree"] := by
      dsimp only [L2.KOf]
      refine' L2.dfn_mk KX G ?a ?l ?c ?k (fun _ _ _ _ _ _ us hl => match us, hl with | [_], _ => rfl)
      (case a => k_is); (case l => k_is); (case c => k_is); (case k => k_is)
    have d_law_due : L2.Dfn (L2.KOf KX) mg "_law_due" K41.s_law_due ["_law_frame_here", "_law_tree"] := by
      dsimp only [L2.KOf]
      refine' L2.dfn_mk KX G ?a ?l ?c ?k (fun _ _ _ _ _ _ us hl => match us, hl with | [_, _], _ => rfl)
      (case a => k_is); (case l => k_is); (case c => k_is); (case k => k_is)
    have d_law_marks : L2.Dfn (L2.KOf KX) mg "_law_marks" K41.s_law_marks ["_law_e"] := by
      dsimp only [L2.KOf]
      refine' L2.dfn_mk KX G ?a ?l ?c ?k (fun _ _ _ _ _ _ us hl => match us, hl with | [_], _ => rfl)
      (case a => k_is); (case l => k_is); (case c => k_is); (case k => k_is)
    have d_law_no_tree : L2.Dfn (L2.KOf KX) mg "_law_no_tree" K41.s_law_no_tree ["_law_frame_here", "_law_tree", "_law_number"] := by
      dsimp only [L2.KOf]
      refine' L2.dfn_mk KX G ?a ?l ?c ?k (fun _ _ _ _ _ _ us hl => match us, hl with | [_, _, _], _ => rfl)
      (case a => k_is); (case l => k_is); (case c => k_is); (case k => k_is)
    have d_law_asked : L2.Dfn (L2.KOf KX) mg "_law_asked" K41.s_law_asked ["_law_frame_here", "_law_tree"] := by
      dsimp only [L2.KOf]
      refine' L2.dfn_mk KX G ?a ?l ?c ?k (fun _ _ _ _ _ _ us hl => match us, hl with | [_, _], _ => rfl)
      (case a => k_is); (case l => k_is); (case c => k_is); (case k => k_is)
    have L : ∃ fd : FuncData, (∀ (s : Shared) (v : Value), BindsTo s fd ⟨[v], []⟩ [("_law_script", v)]) ∧ L2.Fun (L2.KOf KX) "law" "law" K41.s_law fa fd := by
      dsimp only [L2.KOf]
      refine' L2.law_mk KX G hmg ?a ?l ?c ?k ?b
      (case a => k_is); (case l => k_is); (case c => k_is); (case k => k_is)
      exact fun s u => .of_eq rfl
    obtain ⟨fd, hb, F⟩ := L
    exact ⟨fd, hb, fun base _ _ => K41.all T d_is_letter_with_figures d_is_place d_is_whole d_is_below d_is_letter d_count_with d_each_place_once d_letters_of d_tree_fits d_law_cell_at d_law_name d_law_frame d_law_size d_law_trees d_law_letters d_law_due d_law_marks d_law_no_tree d_law_asked F⟩
#print axioms PySem.Challenge.cw_setsays_k41_trees_fit_holds


